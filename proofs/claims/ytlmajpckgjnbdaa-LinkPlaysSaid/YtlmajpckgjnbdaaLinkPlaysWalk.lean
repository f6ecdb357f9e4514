/- The walk of 'LinkPlays'. (Written by wip/gen_linkplays.py.) -/
import Derived.Test.YtlmajpckgjnbdaaRefNew
set_option linter.unusedVariables false
set_option linter.unusedSimpArgs false
namespace Go.Proofs.Ytlmajpckgjnbdaa
open Go.RowKit Go.Sort

theorem form_sent {V : World} {g : Nat} {W : Wn} (h : LkAt V g W) (n : Nat) (os : Array Obj) : Calls Try.prog 16 #[.pointer (some ⟨g, 0, none⟩)] (grow (atD V n) os) fun e w'' => e = .returned (.int .u32 (W.sent : Int)) ∧ ∃ p : BelBy, w'' = grow (atD V p.n) p.os :=
  calls_below ((lsent (h.below (below_of_form V n os))).mono fun _ _ ⟨he, hw⟩ => ⟨he, hw ▸ Below.refl _ _⟩)
theorem form_low {V : World} {g : Nat} {W : Wn} (h : LkAt V g W) (n : Nat) (os : Array Obj) : Calls Try.prog 17 #[.pointer (some ⟨g, 0, none⟩)] (grow (atD V n) os) fun e w'' => e = .returned (.int .u32 (lowN W : Nat)) ∧ ∃ p : BelBy, w'' = grow (atD V p.n) p.os :=
  calls_below ((llow (h.below (below_of_form V n os))).mono fun _ _ ⟨he, hw⟩ => ⟨he, hw ▸ Below.refl _ _⟩)
theorem form_of {V : World} {g : Nat} {W : Wn} (h : LkAt V g W) (p : Int) (p0 : -9223372036854775808 ≤ p) (p1 : p ≤ 9223372036854775807) (n : Nat) (os : Array Obj) : Calls Try.prog 21 #[.pointer (some ⟨g, 0, none⟩), .int .i64 p] (grow (atD V n) os) fun e w'' => e = .returned (.int .u32 (ofN W p : Nat)) ∧ ∃ p : BelBy, w'' = grow (atD V p.n) p.os :=
  calls_below ((lof (h.below (below_of_form V n os)) p p0 p1).mono fun _ _ ⟨he, hw⟩ => ⟨he, hw ▸ Below.refl _ _⟩)
theorem form_lag {V : World} {g : Nat} {W : Wn} (h : LkAt V g W) (n : Nat) (os : Array Obj) : Calls Try.prog 19 #[.pointer (some ⟨g, 0, none⟩)] (grow (atD V n) os) fun e w'' => e = .returned (.int .u64 (lagN W : Nat)) ∧ ∃ p : BelBy, w'' = grow (atD V p.n) p.os :=
  calls_below (llag (h.below (below_of_form V n os)))
theorem form_room {V : World} {g : Nat} {W : Wn} (h : LkAt V g W) (p : Int) (p0 : -9223372036854775808 ≤ p) (p1 : p ≤ 9223372036854775807) (n : Nat) (os : Array Obj) : Calls Try.prog 10 #[.pointer (some ⟨g, 0, none⟩), .int .i64 p] (grow (atD V n) os) fun e w'' => e = .returned (.bool (roomN W p)) ∧ ∃ p : BelBy, w'' = grow (atD V p.n) p.os :=
  calls_below ((lroom (h.below (below_of_form V n os)) p p0 p1).mono fun _ _ ⟨he, n', hw⟩ => ⟨he, hw ▸ below_drewN11 _ _⟩)
theorem load_at {ops : Array Oper} {rest : List Oper} {o : Oper} {A : Act} {w : World} {Q : Exit → Act → World → Prop} (hgd : o.guard = none) (x : Operand) (ho : o.op = .load 35 x)
    (b q : Nat) (a : LA) (hx : A.eval x = .pointer (some ⟨b, q, none⟩)) (hc : w.rangeAt b q (encL a))
    (h : wpList Try.prog ops Q rest (A.put o.dst (.agg #[.int .i64 a.p, .int .i64 a.n, .int .u32 (a.seq : Int)])) w) : wpList Try.prog ops Q (o :: rest) A w :=
  wpList_load_mid hgd 35 x ho b q hx (encL a) _ hc Try.underlying35 rfl (by kernel_rfl) h
theorem lact_range {w : World} {b o : Nat} {l : List LA} (h : RowAt encL 3 w b o l) (k : Nat) (a : LA) (hk : l[k]? = some a) : w.rangeAt b (o + k * 3) (encL a) := fun j v hj => h k a hk j v hj
theorem LkAt.row {w : World} {g k : Nat} {W : Wn} (h : LkAt w g W) (hk : g ≠ k) (cs : Array Value) : LkAt (w.setRow k cs) g W := ⟨(setRow_other _ _ _ _ hk).trans h.own, h.ok⟩
/-- Both windows, behind at most k calls. -/
structure PlB (w wr : World) (g f k : Nat) (W : Wn) : Prop where
  lk : LkAt wr g W
  rf : RwB wr f W
  few : W.sent ≤ k
  below : Below w.heap.size w wr
structure PlF (w : World) (g f : Nat) : Prop where
  gf : g ≠ f
  gw : w.heap.size ≤ g
  fw : w.heap.size ≤ f
theorem PlB.later {w wr w' : World} {g f k : Nat} {W : Wn} (h : PlB w wr g f k W) (hb : Below wr.heap.size wr w') : PlB w w' g f k W :=
  ⟨h.lk.below hb, h.rf.below hb, h.few, h.below.trans (hb.mono h.below.size)⟩
theorem PlB.step {w wr w1 w2 : World} {g f k : Nat} {W : Wn} (h : PlB w wr g f k W) (F : PlF w g f) (a : LA) (K : Linked wr w1 g (stepL W a)) (hb : Below w1.heap.size w1 w2) : PlB w (w2.setRow f (rW (stepL W a))) g f (k + 1) (stepL W a) := by
  have h1 := h.rf.grown K.gr (by intro e; cases e; exact F.gf rfl)
  have h2 := h1.below hb
  have L1 := Linked.later h.below K F.gw
  exact ⟨(K.at_.below hb).row F.gf _, setRow_rw h2 _, by have := (step_sent W a).2; have := h.few; omega, lbelowRow (L1.trans (hb.mono L1.size)) f F.fw _⟩
theorem PlB.mid {w wr w1 w2 : World} {g f k : Nat} {W X : Wn} (h : PlB w wr g f k W) (F : PlF w g f) (K : Linked wr w1 g X) (hb : Below w1.heap.size w1 w2) : RwB w2 f W :=
  (h.rf.grown K.gr (by intro e; cases e; exact F.gf rfl)).below hb
theorem LaB.row {w : World} {k : Nat} {a : LA} (h : LaB w k a) (f : Nat) (cs : Array Value) (hk : k ≠ f) : LaB (w.setRow f cs) k a := (setRow_other _ _ _ _ hk).trans h
theorem bne_same11 (n : Nat) : ((n : Int) != (n : Int)) = false := by simp
set_option maxHeartbeats 3000000 in
set_option maxRecDepth 100000 in
theorem full_LinkPlays (me : Int) (s : Nat) (size : Int) (ao : Option Addr) (len cap : Nat) (l : List LA) (w : World) (hs : s < 18446744073709551616) (m0 : -9223372036854775808 ≤ me) (m1 : me ≤ 9223372036854775807) (b0 : -9223372036854775808 ≤ size) (b1 : size ≤ 9223372036854775807)
    (hl : Lst encL 3 w ao len l) (hok : ∀ m ∈ l, m.ok) (hle : len ≤ maxLen) :
    Calls Try.prog 3 #[.int .i64 me, .int .u64 (s : Int), .int .i64 size, .slice ao len cap] w fun e w' => e = .returned (.bool true) ∧ Below w.heap.size w w' := by
  have hlen := hl.size
  have HL := Lib.hid hl
  have HOK := Lib.hid hok
  have HLEN := Lib.hid hlen
  have hz := Lib.hid zRow_run
  have hzs := Lib.hid zRow_size
  clear hl hok hlen
  unfold maxLen at hle
  by_cases h1 : (300 : Int) < (len : Int)
  · go_enter Try.func3, Try.ntmps3
    go_wp2_with (go_at_call 7; refine (lawake _).mono ?_; rintro e w1 ⟨rfl, L1⟩)
    go_ret
    exact ⟨rfl, L1⟩
  have d1 : decide ((300 : Int) < (len : Int)) = false := by simp; omega
  have hl300 : len ≤ 300 := by omega
  clear h1
  go_enter Try.func3, Try.ntmps3
  go_wp2_with fail
  refine (lawake _).mono ?_
  rintro e w1 ⟨rfl, L1⟩
  have HN := lnew me size s w1 hs m0 m1 b0 b1
  have HL1 := Lib.hid L1
  clear L1
  go_wp2_with fail
  refine HN.mono ?_
  rintro e w2 ⟨rfl, A2, B2⟩
  have L2 := HL1.out.trans (B2.mono HL1.out.size)
  have hgw : w.heap.size ≤ w1.heap.size + 1 := Nat.le_trans HL1.out.size (Nat.le_succ _)
  have HR := Lib.hid (rnew11 me size s w2 hs m0 m1 b0 b1)
  have hW0 : (newN me s size).sent = 0 := rfl
  clear HN B2 HL1
  generalize newN me s size = W0 at *
  generalize w1.heap.size + 1 = g at *
  have A2 := Lib.hid A2
  have L2 := Lib.hid L2
  go_wp2_with fail
  refine HR.out.mono ?_
  rintro e w3 ⟨rfl, B3⟩
  have A3 := A2.out.below B3
  have L3 := L2.out.trans (B3.mono L2.out.size)
  have hgl := A3.lt
  have Z3 := Lib.hid (Own.new w3 32 zRow)
  have B4 : Below w3.heap.size w3 ((w3.alloc (.cells zRow 32)).setRow w3.heap.size (rW W0)) := lbelowRow ((Grw.refl w3).alloc _).below _ (Nat.le_refl _) _
  have D4 : Hid (PlB w ((w3.alloc (.cells zRow 32)).setRow w3.heap.size (rW W0)) g w3.heap.size 0 W0) := Lib.hid ⟨A3.below B4, setRow_rw Z3.out W0, by rw [hW0]; exact Nat.le_refl _, L3.trans (B4.mono L3.size)⟩
  have F : Hid (PlF w g w3.heap.size) := Lib.hid ⟨by omega, hgw, L3.size⟩
  clear HR A2 L2 B3 A3 L3 hgl B4 hgw hW0
  go_upto_region 6 with (first | (with_reducible refine step_alloc rfl 32 rfl zRow (hz.out _) ?_) | (refine store_rw rfl (.tmp 10) (.tmp 30) rfl w3.heap.size W0 rfl rfl Z3.out hzs.out ?_))
  clear Z3
  generalize ((w3.alloc (.cells zRow 32)).setRow w3.heap.size (rW W0)) = w4 at *
  generalize w3.heap.size = f at *
  simp only [Act.put, List.setIfInBounds_toArray, List.set_cons_zero, List.set_cons_succ]
  generalize rW W0 = C0
  go_wp2
  go_loopw [11] (fun si wr => ∃ (k : Nat) (W : Wn), k ≤ len ∧ si = .int .i64 k ∧ PlB w wr g f k W) (fun si _ => len - (intOf si).toNat)
  case atStart => exact ⟨0, W0, Nat.zero_le _, rfl, D4.out⟩
  case round =>
    obtain ⟨k, W, hk, rfl, D⟩ := hrel
    clear D4
    by_cases hlt : k < len
    · have hil : k < l.length := by rw [HLEN.out]; omega
      obtain ⟨b, o, rfl, R⟩ := (HL.out.below D.below).src (by omega)
      have hx := List.getElem?_eq_getElem hil
      have ha := HOK.out _ (List.getElem_mem hil)
      generalize l[k] = a at hx ha
      obtain ⟨c0, c1, c2⟩ := lact_at R k a hx
      have DH := Lib.hid D
      clear R hx hil D
      go_upto_region 10 with fail
      have B4 := ((Grw.refl wr).alloc (.cells #[.int .i64 a.p, .int .i64 a.n, .int .u32 (a.seq : Int)] 35)).below
      have D4 := Lib.hid (DH.out.later B4)
      have H4 := LaB.new wr a
      have hgq : wr.heap.size ≠ g := by have := DH.out.lk.lt; omega
      have hfq : wr.heap.size ≠ f := by have := DH.out.rf.lt; omega
      clear B4 DH c0 c1 c2
      generalize wr.alloc (.cells #[.int .i64 a.p, .int .i64 a.n, .int .u32 (a.seq : Int)] 35) = w4 at *
      generalize wr.heap.size = q at *
      have alt := H4.lt
      have x1 := fun n os => cell_form alt H4.c1 n os
      have K1 := Lib.hid (form_room D4.out.lk a.n ha.n0 ha.n1)
      have hokW := Lib.hid D4.out.lk.ok
      have K2 : Hid (∀ V, Calls Try.prog 11 #[.agg (rW W), .int .i64 a.n] V fun e w' => e = .returned (.bool (roomN W a.n)) ∧ Below V.heap.size V w') := Lib.hid (fun V => rroom11 hokW.out a.n ha.n0 ha.n1 V)
      have HF := Lib.hid (D4.out.rf.form)
      generalize hrm : roomN W a.n = rm at *
      replace hrm := Lib.hid hrm
      have hbb : (rm != rm) = false := by cases rm <;> rfl
      refine wp_region_quiet_below (by kernel_rfl) (by kernel_rfl) ?_
      repeat (first | (refine quiet_load_rw (by rfl) (.tmp 10) rfl f W rfl HF.out ?_) | quiet_step ((first | (go_at_call 10; exact K1.out _ _) | (go_at_call 11; exact calls_below (K2.out _)))))
      refine wpQuiet_nil ?_
      intro _ hw'
      obtain ⟨⟨nq, osq⟩, hw''⟩ := hw'
      subst hw''
      have D5 := Lib.hid (D4.out.later (below_of_form w4 nq osq))
      have H5 := H4.below (below_of_form w4 nq osq)
      clear K1 K2 HF x1 alt H4 D4 hbb
      generalize (grow (atD w4 nq) osq) = V at *
      generalize rW W = C1
      replace H5 := Lib.hid H5
      by_cases hp : a.p < 0
      · have dp : decide (a.p < 0) = true := by simp [hp]
        have HST := Lib.hid (stepL_next (W := W) hp)
        have HX := lnext D5.out.lk a.n ha.n0 ha.n1 (by have := D5.out.few; omega)
        have HY := fun V => rnext11 hokW.out a.n ha.n0 ha.n1 (by have := D5.out.few; omega) V
        rw [← HST.out] at HX HY
        replace HX := Lib.hid HX
        replace HY := Lib.hid HY
        generalize numN W a.n = nn at *
        generalize codeN W a.n = cc at *
        have c0 := H5.out.c0
        have c1 := H5.out.c1
        clear hp
        go_wp2_with fail
        refine HX.out.mono ?_
        rintro e w6 ⟨rfl, K⟩
        have HM := Lib.hid (D5.out.mid F.out K (Below.refl _ w6))
        have H6 := H5.out.grown K.gr (by intro e; cases e; exact hgq rfl)
        have c1 := H6.c1
        replace H6 := Lib.hid H6
        replace K := Lib.hid K
        clear HX H5 c0
        go_wp2_with (refine load_rw rfl (.tmp 10) rfl f W rfl HM.out ?_)
        refine (HY.out w6).mono ?_
        rintro e w7 ⟨rfl, B7⟩
        have Z7 := Lib.hid (Own.new w7 32 zRow)
        have B8 : Below w7.heap.size w7 ((w7.alloc (.cells zRow 32)).setRow w7.heap.size (rW (stepL W a))) := lbelowRow ((Grw.refl w7).alloc _).below _ (Nat.le_refl _) _
        have HN8 := Lib.hid (setRow_rw Z7.out (stepL W a))
        have L8 := B7.trans (B8.mono B7.size)
        have HM8 := Lib.hid (D5.out.mid F.out K.out L8)
        have D9 := Lib.hid (D5.out.step F.out a K.out L8)
        have H9 := Lib.hid ((H6.out.below L8).row f (rW (stepL W a)) hfq)
        clear HM HY B7 B8 L8 H6 K c1 D5
        go_upto_region 15 with (first | (with_reducible refine step_alloc rfl 32 rfl zRow (hz.out _) ?_) | (refine store_rw rfl (.tmp 15) (.tmp 65) rfl w7.heap.size (stepL W a) rfl rfl Z7.out hzs.out ?_))
        clear Z7
        generalize ((w7.alloc (.cells zRow 32)).setRow w7.heap.size (rW (stepL W a))) = w8 at *
        generalize w7.heap.size = h at *
        go_upto_region 16 with (first | (refine load_rw rfl (.tmp 15) rfl h (stepL W a) rfl HN8.out ?_) | (refine store_rw rfl (.tmp 10) (.tmp 68) rfl f (stepL W a) rfl rfl HM8.out (rW_size _) ?_))
        generalize (w8.setRow f (rW (stepL W a))) = w9 at *
        clear HN8 HM8
        generalize stepL W a = X at *
        go_upto_region 20 with fail
        have hokX := Lib.hid D9.out.lk.ok
        have alt := H9.out.lt
        have flt := D9.out.rf.lt
        have x0 := fun n os => cell_form alt H9.out.c0 n os
        have y0 := fun n os => cell_form flt D9.out.rf.cs n os
        have K1 := Lib.hid (form_sent D9.out.lk)
        have K2 := Lib.hid (form_low D9.out.lk)
        have K3 := Lib.hid (form_lag D9.out.lk)
        have K4 := Lib.hid (form_of D9.out.lk a.p ha.p0 ha.p1)
        have K5 := Lib.hid (form_of D9.out.lk me m0 m1)
        have R2 : Hid (∀ V, Calls Try.prog 18 #[.agg (rW X)] V fun e w' => e = .returned (.int .u32 (lowN X : Nat)) ∧ Below V.heap.size V w') := Lib.hid (fun V => rlow11 V)
        have R3 : Hid (∀ V, Calls Try.prog 20 #[.agg (rW X)] V fun e w' => e = .returned (.int .u64 (lagN X : Nat)) ∧ Below V.heap.size V w') := Lib.hid (fun V => rlag11 V)
        have R4 : Hid (∀ V, Calls Try.prog 22 #[.agg (rW X), .int .i64 a.p] V fun e w' => e = .returned (.int .u32 (ofN X a.p : Nat)) ∧ Below V.heap.size V w') := Lib.hid (fun V => rof11 a.p ha.p0 ha.p1 V)
        have R5 : Hid (∀ V, Calls Try.prog 22 #[.agg (rW X), .int .i64 me] V fun e w' => e = .returned (.int .u32 (ofN X me : Nat)) ∧ Below V.heap.size V w') := Lib.hid (fun V => rof11 me m0 m1 V)
        have HF := Lib.hid (D9.out.rf.form)
        have e1 := bne_same11 X.sent
        have e2 := bne_same11 (lowN X)
        have e3 := bne_same11 (lagN X)
        have e4 := bne_same11 (ofN X a.p)
        have e5 := bne_same11 (ofN X me)
        generalize X.sent = sx at *
        generalize lowN X = lx at *
        generalize lagN X = gx at *
        generalize ofN X a.p = ox at *
        generalize ofN X me = om at *
        refine wp_region_quiet_below (by kernel_rfl) (by kernel_rfl) ?_
        repeat (first | (refine quiet_load_rw (by rfl) (.tmp 10) rfl f X rfl HF.out ?_) | quiet_step ((first | (go_at_call 16; exact K1.out _ _) | (go_at_call 17; exact K2.out _ _) | (go_at_call 19; exact K3.out _ _) | (go_at_call 18; exact calls_below (R2.out _)) | (go_at_call 20; exact calls_below (R3.out _)) | (go_at_call 21; first | (with_reducible exact K4.out _ _) | (with_reducible exact K5.out _ _)) | (go_at_call 22; first | (with_reducible exact calls_below (R4.out _)) | (with_reducible exact calls_below (R5.out _))))))
        refine wpQuiet_nil ?_
        intro _ hw'
        obtain ⟨⟨nq, osq⟩, hw''⟩ := hw'
        subst hw''
        have D10 := Lib.hid (D9.out.later (below_of_form w9 nq osq))
        clear K1 K2 K3 K4 K5 R2 R3 R4 R5 HF x0 y0 e1 e2 e3 e4 e5 alt flt D9 H9
        generalize (grow (atD w9 nq) osq) = w10 at *
        go_wp2
        go_roundw
        case rel => exact ⟨k + 1, X, by omega, by go_num, D10.out⟩
        case measure => simp [intOf]; omega
      · have dp : decide (a.p < 0) = false := by simp; omega
        have HST := Lib.hid (stepL_got (W := W) (a := a) (by omega))
        have HX := lgot D5.out.lk a.p ha.p0 ha.p1 a.seq ha.s
        have HY := fun V => rgot11 (W := W) a.p ha.p0 ha.p1 a.seq V
        rw [← HST.out] at HX HY
        replace HX := Lib.hid HX
        replace HY := Lib.hid HY
        have c0 := H5.out.c0
        have c2 := H5.out.c2
        clear hp
        go_wp2_with fail
        refine HX.out.mono ?_
        rintro e w6 ⟨rfl, K⟩
        have HM := Lib.hid (D5.out.mid F.out K (Below.refl _ w6))
        have H6 := H5.out.grown K.gr (by intro e; cases e; exact hgq rfl)
        have c0 := H6.c0
        have c2 := H6.c2
        replace H6 := Lib.hid H6
        replace K := Lib.hid K
        clear HX H5
        go_wp2_with (refine load_rw rfl (.tmp 10) rfl f W rfl HM.out ?_)
        refine (HY.out w6).mono ?_
        rintro e w8 ⟨rfl, L8⟩
        have HM8 := Lib.hid (D5.out.mid F.out K.out L8)
        have D9 := Lib.hid (D5.out.step F.out a K.out L8)
        have H9 := Lib.hid ((H6.out.below L8).row f (rW (stepL W a)) hfq)
        clear HM HY L8 H6 K c0 c2 D5
        go_upto_region 20 with (refine store_rw rfl (.tmp 10) (.tmp 88) rfl f (stepL W a) rfl rfl HM8.out (rW_size _) ?_)
        generalize (w8.setRow f (rW (stepL W a))) = w9 at *
        clear HM8
        generalize stepL W a = X at *
        have hokX := Lib.hid D9.out.lk.ok
        have alt := H9.out.lt
        have flt := D9.out.rf.lt
        have x0 := fun n os => cell_form alt H9.out.c0 n os
        have y0 := fun n os => cell_form flt D9.out.rf.cs n os
        have K1 := Lib.hid (form_sent D9.out.lk)
        have K2 := Lib.hid (form_low D9.out.lk)
        have K3 := Lib.hid (form_lag D9.out.lk)
        have K4 := Lib.hid (form_of D9.out.lk a.p ha.p0 ha.p1)
        have K5 := Lib.hid (form_of D9.out.lk me m0 m1)
        have R2 : Hid (∀ V, Calls Try.prog 18 #[.agg (rW X)] V fun e w' => e = .returned (.int .u32 (lowN X : Nat)) ∧ Below V.heap.size V w') := Lib.hid (fun V => rlow11 V)
        have R3 : Hid (∀ V, Calls Try.prog 20 #[.agg (rW X)] V fun e w' => e = .returned (.int .u64 (lagN X : Nat)) ∧ Below V.heap.size V w') := Lib.hid (fun V => rlag11 V)
        have R4 : Hid (∀ V, Calls Try.prog 22 #[.agg (rW X), .int .i64 a.p] V fun e w' => e = .returned (.int .u32 (ofN X a.p : Nat)) ∧ Below V.heap.size V w') := Lib.hid (fun V => rof11 a.p ha.p0 ha.p1 V)
        have R5 : Hid (∀ V, Calls Try.prog 22 #[.agg (rW X), .int .i64 me] V fun e w' => e = .returned (.int .u32 (ofN X me : Nat)) ∧ Below V.heap.size V w') := Lib.hid (fun V => rof11 me m0 m1 V)
        have HF := Lib.hid (D9.out.rf.form)
        have e1 := bne_same11 X.sent
        have e2 := bne_same11 (lowN X)
        have e3 := bne_same11 (lagN X)
        have e4 := bne_same11 (ofN X a.p)
        have e5 := bne_same11 (ofN X me)
        generalize X.sent = sx at *
        generalize lowN X = lx at *
        generalize lagN X = gx at *
        generalize ofN X a.p = ox at *
        generalize ofN X me = om at *
        refine wp_region_quiet_below (by kernel_rfl) (by kernel_rfl) ?_
        repeat (first | (refine quiet_load_rw (by rfl) (.tmp 10) rfl f X rfl HF.out ?_) | quiet_step ((first | (go_at_call 16; exact K1.out _ _) | (go_at_call 17; exact K2.out _ _) | (go_at_call 19; exact K3.out _ _) | (go_at_call 18; exact calls_below (R2.out _)) | (go_at_call 20; exact calls_below (R3.out _)) | (go_at_call 21; first | (with_reducible exact K4.out _ _) | (with_reducible exact K5.out _ _)) | (go_at_call 22; first | (with_reducible exact calls_below (R4.out _)) | (with_reducible exact calls_below (R5.out _))))))
        refine wpQuiet_nil ?_
        intro _ hw'
        obtain ⟨⟨nq, osq⟩, hw''⟩ := hw'
        subst hw''
        have D10 := Lib.hid (D9.out.later (below_of_form w9 nq osq))
        clear K1 K2 K3 K4 K5 R2 R3 R4 R5 HF x0 y0 e1 e2 e3 e4 e5 alt flt D9 H9
        generalize (grow (atD w9 nq) osq) = w10 at *
        go_wp2
        go_roundw
        case rel => exact ⟨k + 1, X, by omega, by go_num, D10.out⟩
        case measure => simp [intOf]; omega
    · have HB := Lib.hid D.below
      clear D
      go_wp2
      go_ret
      exact ⟨rfl, HB.out⟩
theorem walk_LinkPlays {w : World} (c : Int) (wc : (Lit.int .i64 c).wf = true) (a : Int) (wa : (Lit.int .u64 a).wf = true) (b : Int) (wb : (Lit.int .i64 b).wf = true) (ao : Option Addr) (len cap : Nat) (l : List LA) (hl : Lst encL 3 w ao len l ∧ len ≤ maxLen ∧ ∀ m ∈ l, m.ok) :
    Calls Try.prog 3 #[.int .i64 c, .int .u64 a, .int .i64 b, .slice ao len cap] w fun e w' => e = .returned (.bool true) ∧ Below w.heap.size w w' := by
  have b2 := Go.bounds_i64 wc
  have b0 := Go.bounds_u64 wa
  have b1 := Go.bounds_i64 wb
  obtain ⟨a, rfl⟩ := Int.eq_ofNat_of_zero_le (show 0 ≤ a by omega)
  exact full_LinkPlays c a b ao len cap l w (by omega) (by omega) (by omega) (by omega) (by omega) hl.1 hl.2.2 hl.2.1
end Go.Proofs.Ytlmajpckgjnbdaa
