/- The walk of 'LinkBounds'. (Written by wip/gen_linkbounds.py.) -/
import Derived.Test.YtlmajpckgjnbdaaLinkDo
set_option linter.unusedVariables false
set_option linter.unusedSimpArgs false
namespace Go.Proofs.Ytlmajpckgjnbdaa
open Go.RowKit Go.Sort

theorem sent_quiet {w : World} {g : Nat} {W : Wn} (h : LkAt w g W) (n : Nat) : Calls Try.prog 16 #[.pointer (some ⟨g, 0, none⟩)] (w.drewN n) fun e w'' => e = .returned (.int .u32 (W.sent : Int)) ∧ ∃ m, w'' = w.drewN m :=
  Calls.quiet_of_same ((lsent (h.drewN n)).mono fun _ _ ⟨he, hw⟩ => ⟨he, hw.symm⟩)
theorem low_quiet {w : World} {g : Nat} {W : Wn} (h : LkAt w g W) (n : Nat) : Calls Try.prog 17 #[.pointer (some ⟨g, 0, none⟩)] (w.drewN n) fun e w'' => e = .returned (.int .u32 (lowN W : Nat)) ∧ ∃ m, w'' = w.drewN m :=
  Calls.quiet_of_same ((llow (h.drewN n)).mono fun _ _ ⟨he, hw⟩ => ⟨he, hw.symm⟩)
theorem of_quiet {w : World} {g : Nat} {W : Wn} (h : LkAt w g W) (p : Int) (p0 : -9223372036854775808 ≤ p) (p1 : p ≤ 9223372036854775807) (n : Nat) : Calls Try.prog 21 #[.pointer (some ⟨g, 0, none⟩), .int .i64 p] (w.drewN n) fun e w'' => e = .returned (.int .u32 (ofN W p : Nat)) ∧ ∃ m, w'' = w.drewN m :=
  Calls.quiet_of_same ((lof (h.drewN n) p p0 p1).mono fun _ _ ⟨he, hw⟩ => ⟨he, hw.symm⟩)
/-- The window behind at most k calls. -/
structure BdAt (w wr : World) (g ot z k : Nat) (W : Wn) : Prop where
  at_ : LkAt wr g W
  oth : W.oth = ot
  size : W.size = z
  few : W.sent ≤ k
  below : Below w.heap.size w wr
theorem BdAt.step {w wr w5 : World} {g ot z k : Nat} {W : Wn} (h : BdAt w wr g ot z k W) (a : LA) (K : Linked wr w5 g (stepL W a)) (hg : w.heap.size ≤ g) : BdAt w w5 g ot z (k + 1) (stepL W a) :=
  ⟨K.at_, (step_rest W a).1.trans h.oth, (step_rest W a).2.1.trans h.size, by have := (step_sent W a).2; have := h.few; omega, Linked.later h.below K hg⟩
theorem BdAt.later {w wr w5 : World} {g ot z k : Nat} {W : Wn} (h : BdAt w wr g ot z k W) (hb : Below wr.heap.size wr w5) : BdAt w w5 g ot z k W :=
  ⟨h.at_.below hb, h.oth, h.size, h.few, h.below.trans (hb.mono h.below.size)⟩
theorem LaB.drewN {w : World} {g : Nat} {a : LA} (h : LaB w g a) (n : Nat) : LaB (w.drewN n) g a := h
theorem load_at {ops : Array Oper} {rest : List Oper} {o : Oper} {A : Act} {w : World} {Q : Exit → Act → World → Prop} (hgd : o.guard = none) (x : Operand) (ho : o.op = .load 35 x)
    (b q : Nat) (a : LA) (hx : A.eval x = .pointer (some ⟨b, q, none⟩)) (hc : w.rangeAt b q (encL a))
    (h : wpList Try.prog ops Q rest (A.put o.dst (.agg #[.int .i64 a.p, .int .i64 a.n, .int .u32 (a.seq : Int)])) w) : wpList Try.prog ops Q (o :: rest) A w :=
  wpList_load_mid hgd 35 x ho b q hx (encL a) _ hc Try.underlying35 rfl (by kernel_rfl) h
theorem lact_range {w : World} {b o : Nat} {l : List LA} (h : RowAt encL 3 w b o l) (k : Nat) (a : LA) (hk : l[k]? = some a) : w.rangeAt b (o + k * 3) (encL a) := fun j v hj => h k a hk j v hj
set_option maxHeartbeats 8000000 in
set_option maxRecDepth 100000 in
theorem full_LinkBounds (me : Int) (s : Nat) (size : Int) (ao : Option Addr) (len cap : Nat) (l : List LA) (w : World) (hs : s < 18446744073709551616) (m0 : -9223372036854775808 ≤ me) (m1 : me ≤ 9223372036854775807) (b0 : -9223372036854775808 ≤ size) (b1 : size ≤ 9223372036854775807)
    (hl : Lst encL 3 w ao len l) (hok : ∀ m ∈ l, m.ok) (hle : len ≤ maxLen) :
    Calls Try.prog 4 #[.int .i64 me, .int .u64 (s : Int), .int .i64 size, .slice ao len cap] w fun e w' => e = .returned (.bool true) ∧ Below w.heap.size w w' := by
  have hlen := hl.size
  have HL := Lib.hid hl
  have HOK := Lib.hid hok
  have HLEN := Lib.hid hlen
  clear hl hok hlen
  unfold maxLen at hle
  by_cases h1 : (300 : Int) < (len : Int)
  · go_enter Try.func4, Try.ntmps4
    go_wp2_with (go_at_call 7; refine (lawake _).mono ?_; rintro e w1 ⟨rfl, L1⟩)
    go_ret
    exact ⟨rfl, L1⟩
  have d1 : decide ((300 : Int) < (len : Int)) = false := by simp; omega
  have hl300 : len ≤ 300 := by omega
  have hmm := Lib.hid (show max 1 (min size 64) = ((sizeN size : Nat) : Int) from (sizeN_max size).symm)
  clear h1
  go_enter Try.func4, Try.ntmps4
  go_wp2_with fail
  refine (lawake _).mono ?_
  rintro e w1 ⟨rfl, L1⟩
  have HN := lnew me size s w1 hs m0 m1 b0 b1
  have HL1 := Lib.hid L1
  clear L1
  go_wp2_with fail
  refine HN.mono ?_
  rintro e w2 ⟨rfl, A2, B2⟩
  have D2 : BdAt w w2 (w1.heap.size + 1) (but s (onl me)) (sizeN size) 0 (newN me s size) := ⟨A2, rfl, rfl, Nat.le_refl _, HL1.out.trans (B2.mono HL1.out.size)⟩
  have hgw : w.heap.size ≤ w1.heap.size + 1 := Nat.le_trans HL1.out.size (Nat.le_succ _)
  have D3 := D2.later ((Grw.refl w2).alloc (.cells #[.int .i64 me] 3)).below
  have HLS := less_any s (some ⟨w2.heap.size, 0, none⟩) 1 1 [me] _ hs (InI.one w2 me m0 m1) (by decide)
  rw [ofl_one] at HLS
  have hotl : but s (onl me) < 18446744073709551616 := num_lt _
  have D3 := Lib.hid D3
  have HLS := Lib.hid HLS
  generalize newN me s size = W0 at *
  generalize but s (onl me) = ot at *
  generalize sizeN size = z at *
  clear HN B2 A2 D2 HL1
  generalize w1.heap.size + 1 = g at *
  go_wp2_with fail
  refine HLS.out.mono ?_
  rintro e w' ⟨rfl, rfl⟩
  clear HLS
  generalize (w2.alloc (.cells #[.int .i64 me] 3)) = w3 at *
  go_wp2
  go_loopw [11] (fun si wr => ∃ (k : Nat) (W : Wn), k ≤ len ∧ si = .int .i64 k ∧ BdAt w wr g ot z k W) (fun si _ => len - (intOf si).toNat)
  case atStart => exact ⟨0, W0, Nat.zero_le _, rfl, D3.out⟩
  case round =>
    obtain ⟨k, W, hk, rfl, D⟩ := hrel
    clear D3
    by_cases hlt : k < len
    · have hil : k < l.length := by rw [HLEN.out]; omega
      obtain ⟨b, o, rfl, R⟩ := (HL.out.below D.below).src (by omega)
      have hx := List.getElem?_eq_getElem hil
      have ha := HOK.out _ (List.getElem_mem hil)
      generalize l[k] = a at hx ha
      obtain ⟨c0, c1, c2⟩ := lact_at R k a hx
      have DH := Lib.hid D
      clear R hx hil D
      go_upto_region 11 with fail
      have B4 := ((Grw.refl wr).alloc (.cells #[.int .i64 a.p, .int .i64 a.n, .int .u32 (a.seq : Int)] 35)).below
      have D4 := Lib.hid (DH.out.later B4)
      have H4 := LaB.new wr a
      have hgq : wr.heap.size ≠ g := by have := DH.out.at_.lt; omega
      clear B4 DH c0 c1 c2
      generalize wr.alloc (.cells #[.int .i64 a.p, .int .i64 a.n, .int .u32 (a.seq : Int)] 35) = w4 at *
      generalize wr.heap.size = q at *
      have c0 := H4.c0
      have K1 := Lib.hid (sent_quiet D4.out.at_)
      have K2 := Lib.hid (low_quiet D4.out.at_)
      have K3 := Lib.hid (of_quiet D4.out.at_ a.p ha.p0 ha.p1)
      go_quiet (first | (go_at_call 16; exact K1.out _) | (go_at_call 17; exact K2.out _) | (go_at_call 21; exact K3.out _))
      have D5 := Lib.hid (D4.out.later (below_drewN11 w4 nq))
      have H5 := H4.drewN nq
      clear K1 K2 K3 D4 H4 c0
      generalize w4.drewN nq = V at *
      have c0 := H5.c0
      have c1 := H5.c1
      have c2 := H5.c2
      have H5 := Lib.hid H5
      have hb1 := D5.out.few
      have hb2 := lowN_sent W
      have hb3 := of_sent D5.out.at_.ok.inv a.p
      by_cases hp : a.p < 0
      · have dp : decide (a.p < 0) = true := by simp [hp]
        have HST := Lib.hid (stepL_next (W := W) hp)
        have HX := lnext D5.out.at_ a.n ha.n0 ha.n1 (by omega)
        clear hp
        cases hr : roomN W a.n with
        | true =>
          rw [numN_yes hr, codeN_yes hr, ← HST.out] at HX
          obtain ⟨m, hm⟩ : ∃ m, m = W.sent + 1 := ⟨_, rfl⟩
          rw [← hm] at HX
          have hmi : (W.sent : Int) + 1 = (m : Int) := by omega
          have hmw : IntKind.u32.wrap (m : Int) = (m : Int) := IntWalk.u32_in _ (by omega)
          have HX := Lib.hid HX
          replace hm := Lib.hid hm
          clear hr
          go_wp2_with fail
          refine HX.out.mono ?_
          rintro e w5 ⟨rfl, K⟩
          clear HX c0 c1 c2
          go_wp2_with fail
          have D6 := Lib.hid (D5.out.step a K hgw)
          have H6 := H5.out.grown K.gr (by intro e; cases e; exact hgq rfl)
          have t1 : decide (lowN (stepL W a) < lowN W) = false := by have := step_low W a; simp; omega
          have t2 : decide (ofN (stepL W a) a.p < ofN W a.p) = false := by have := step_of W a a.p; simp; omega
          have t3 : decide ((stepL W a).sent < ofN (stepL W a) a.p) = false := by have := of_sent D6.out.at_.ok.inv a.p; simp; omega
          obtain ⟨d, hd⟩ : ∃ d : Nat, d = (stepL W a).sent - lowN (stepL W a) := ⟨_, rfl⟩
          have hls := lowN_sent (stepL W a)
          have hss := D6.out.at_.ok.s
          have hdi : ((stepL W a).sent : Int) - (lowN (stepL W a) : Int) = (d : Int) := by omega
          have hdw : IntKind.u32.wrap (d : Int) = (d : Int) := IntWalk.u32_in _ (by omega)
          have t5 : decide (z < d) = false := by have := D6.out.at_.ok.inv.few; have := D6.out.size; simp; omega
          have hmx := hmm.out
          have HIN : inn (lagN (stepL W a)) ot = true := by unfold inn; rw [← D6.out.oth, lag_in]; rfl
          have hz := Lib.hid (lag_zero (W := stepL W a))
          have hll := lagN_lt (stepL W a)
          have D6W := D6.out.at_
          generalize stepL W a = X at *
          have c0 := H6.c0
          have H1 := llow D6W
          have H2 := lof D6W a.p ha.p0 ha.p1
          have H3 := lsent D6W
          have H4 := llag D6W
          have HX : Hid (∀ w', Below w5.heap.size w5 w' → LkAt w' g X) := Lib.hid (fun w' hb => D6W.below hb)
          have HG : Hid (∀ w', Below w5.heap.size w5 w' → Calls Try.prog 19 #[.pointer (some ⟨g, 0, none⟩)] w' fun e w'' => e = .returned (.int .u64 (lagN X : Nat)) ∧ Below w'.heap.size w' w'') := Lib.hid (fun w' hb => llag (D6W.below hb))
          generalize hlx : lowN X = lx at *
          generalize hfx : ofN X a.p = fx at *
          replace hlx := Lib.hid hlx
          replace hfx := Lib.hid hfx
          replace hd := Lib.hid hd
          clear D6W H5 K
          refine H1.mono ?_
          rintro e w' ⟨rfl, rfl⟩
          go_wp2_with fail
          refine H2.mono ?_
          rintro e w' ⟨rfl, rfl⟩
          go_wp2_with fail
          refine H2.mono ?_
          rintro e w' ⟨rfl, rfl⟩
          go_wp2_with fail
          refine H3.mono ?_
          rintro e w' ⟨rfl, rfl⟩
          go_wp2_with fail
          refine H3.mono ?_
          rintro e w' ⟨rfl, rfl⟩
          go_wp2_with fail
          refine H1.mono ?_
          rintro e w' ⟨rfl, rfl⟩
          go_wp2_with fail
          have H5 := H4
          clear H4 H1 H2 t1 t2 t3 t5 hdi hdw hmx hls c0
          by_cases hg0 : lagN X = 0
          · have hxs : lx = X.sent := hz.out.1 hg0
            rw [hg0] at H5 HIN hll
            subst hxs
            refine H5.mono ?_
            rintro e w6 ⟨rfl, B6⟩
            have D7 := D6.out.later B6
            have H7 := llow (HX.out _ B6)
            rw [hlx.out] at H7
            have H8 := lsent (HX.out _ B6)
            have H9 := llag (HX.out _ B6)
            rw [hg0] at H9
            replace D7 := Lib.hid D7
            clear H5 B6 D6 H3
            go_wp2_with fail
            refine H7.mono ?_
            rintro e w' ⟨rfl, rfl⟩
            go_wp2_with fail
            refine H8.mono ?_
            rintro e w' ⟨rfl, rfl⟩
            clear H7 H8
            go_wp2_with fail
            refine H9.mono ?_
            rintro e w7 ⟨rfl, B7⟩
            have D8 := Lib.hid (D7.out.later B7)
            have HI := in_any 0 ot w7 (by decide) hotl
            rw [HIN] at HI
            clear H9 B7 D7
            go_wp2_with fail
            refine HI.mono ?_
            rintro e w' ⟨rfl, rfl⟩
            go_wp2
            go_roundw
            case rel => exact ⟨k + 1, X, by omega, by go_num, D8.out⟩
            case measure => simp [intOf]; omega
          · have e1 : ((lagN X : Int) == 0) = false := by simp; omega
            have e2 : ((lx : Int) == (X.sent : Int)) = false := by have : lx ≠ X.sent := fun e => hg0 (hz.out.2 e); simp; omega
            generalize lagN X = gx at *
            refine H5.mono ?_
            rintro e w6 ⟨rfl, B6⟩
            have D7 := D6.out.later B6
            have H7 := llow (HX.out _ B6)
            rw [hlx.out] at H7
            have H8 := lsent (HX.out _ B6)
            have H9 := HG.out _ B6
            replace D7 := Lib.hid D7
            clear H5 B6 D6 H3
            go_wp2_with fail
            refine H7.mono ?_
            rintro e w' ⟨rfl, rfl⟩
            go_wp2_with fail
            refine H8.mono ?_
            rintro e w' ⟨rfl, rfl⟩
            clear H7 H8
            go_wp2_with fail
            refine H9.mono ?_
            rintro e w7 ⟨rfl, B7⟩
            have D8 := Lib.hid (D7.out.later B7)
            have HI := in_any gx ot w7 hll hotl
            rw [HIN] at HI
            clear H9 B7 D7
            go_wp2_with fail
            refine HI.mono ?_
            rintro e w' ⟨rfl, rfl⟩
            go_wp2
            go_roundw
            case rel => exact ⟨k + 1, X, by omega, by go_num, D8.out⟩
            case measure => simp [intOf]; omega
        | false =>
          have hsame : (stepL W a).sent = W.sent := by rw [HST.out, nextN_no hr]
          rw [numN_no hr, codeN_no hr, ← HST.out] at HX
          replace HX := Lib.hid HX
          replace hsame := Lib.hid hsame
          clear hr
          go_wp2_with fail
          refine HX.out.mono ?_
          rintro e w5 ⟨rfl, K⟩
          have HS := lsent K.at_
          rw [hsame.out] at HS
          clear HX c0 c1 c2
          go_wp2_with fail
          refine HS.mono ?_
          rintro e w' ⟨rfl, rfl⟩
          clear HS
          go_wp2_with fail
          have D6 := Lib.hid (D5.out.step a K hgw)
          have H6 := H5.out.grown K.gr (by intro e; cases e; exact hgq rfl)
          have t1 : decide (lowN (stepL W a) < lowN W) = false := by have := step_low W a; simp; omega
          have t2 : decide (ofN (stepL W a) a.p < ofN W a.p) = false := by have := step_of W a a.p; simp; omega
          have t3 : decide ((stepL W a).sent < ofN (stepL W a) a.p) = false := by have := of_sent D6.out.at_.ok.inv a.p; simp; omega
          obtain ⟨d, hd⟩ : ∃ d : Nat, d = (stepL W a).sent - lowN (stepL W a) := ⟨_, rfl⟩
          have hls := lowN_sent (stepL W a)
          have hss := D6.out.at_.ok.s
          have hdi : ((stepL W a).sent : Int) - (lowN (stepL W a) : Int) = (d : Int) := by omega
          have hdw : IntKind.u32.wrap (d : Int) = (d : Int) := IntWalk.u32_in _ (by omega)
          have t5 : decide (z < d) = false := by have := D6.out.at_.ok.inv.few; have := D6.out.size; simp; omega
          have hmx := hmm.out
          have HIN : inn (lagN (stepL W a)) ot = true := by unfold inn; rw [← D6.out.oth, lag_in]; rfl
          have hz := Lib.hid (lag_zero (W := stepL W a))
          have hll := lagN_lt (stepL W a)
          have D6W := D6.out.at_
          generalize stepL W a = X at *
          have c0 := H6.c0
          have H1 := llow D6W
          have H2 := lof D6W a.p ha.p0 ha.p1
          have H3 := lsent D6W
          have H4 := llag D6W
          have HX : Hid (∀ w', Below w5.heap.size w5 w' → LkAt w' g X) := Lib.hid (fun w' hb => D6W.below hb)
          have HG : Hid (∀ w', Below w5.heap.size w5 w' → Calls Try.prog 19 #[.pointer (some ⟨g, 0, none⟩)] w' fun e w'' => e = .returned (.int .u64 (lagN X : Nat)) ∧ Below w'.heap.size w' w'') := Lib.hid (fun w' hb => llag (D6W.below hb))
          generalize hlx : lowN X = lx at *
          generalize hfx : ofN X a.p = fx at *
          replace hlx := Lib.hid hlx
          replace hfx := Lib.hid hfx
          replace hd := Lib.hid hd
          clear D6W H5 K
          refine H1.mono ?_
          rintro e w' ⟨rfl, rfl⟩
          go_wp2_with fail
          refine H2.mono ?_
          rintro e w' ⟨rfl, rfl⟩
          go_wp2_with fail
          refine H2.mono ?_
          rintro e w' ⟨rfl, rfl⟩
          go_wp2_with fail
          refine H3.mono ?_
          rintro e w' ⟨rfl, rfl⟩
          go_wp2_with fail
          refine H3.mono ?_
          rintro e w' ⟨rfl, rfl⟩
          go_wp2_with fail
          refine H1.mono ?_
          rintro e w' ⟨rfl, rfl⟩
          go_wp2_with fail
          have H5 := H4
          clear H4 H1 H2 t1 t2 t3 t5 hdi hdw hmx hls c0
          by_cases hg0 : lagN X = 0
          · have hxs : lx = X.sent := hz.out.1 hg0
            rw [hg0] at H5 HIN hll
            subst hxs
            refine H5.mono ?_
            rintro e w6 ⟨rfl, B6⟩
            have D7 := D6.out.later B6
            have H7 := llow (HX.out _ B6)
            rw [hlx.out] at H7
            have H8 := lsent (HX.out _ B6)
            have H9 := llag (HX.out _ B6)
            rw [hg0] at H9
            replace D7 := Lib.hid D7
            clear H5 B6 D6 H3
            go_wp2_with fail
            refine H7.mono ?_
            rintro e w' ⟨rfl, rfl⟩
            go_wp2_with fail
            refine H8.mono ?_
            rintro e w' ⟨rfl, rfl⟩
            clear H7 H8
            go_wp2_with fail
            refine H9.mono ?_
            rintro e w7 ⟨rfl, B7⟩
            have D8 := Lib.hid (D7.out.later B7)
            have HI := in_any 0 ot w7 (by decide) hotl
            rw [HIN] at HI
            clear H9 B7 D7
            go_wp2_with fail
            refine HI.mono ?_
            rintro e w' ⟨rfl, rfl⟩
            go_wp2
            go_roundw
            case rel => exact ⟨k + 1, X, by omega, by go_num, D8.out⟩
            case measure => simp [intOf]; omega
          · have e1 : ((lagN X : Int) == 0) = false := by simp; omega
            have e2 : ((lx : Int) == (X.sent : Int)) = false := by have : lx ≠ X.sent := fun e => hg0 (hz.out.2 e); simp; omega
            generalize lagN X = gx at *
            refine H5.mono ?_
            rintro e w6 ⟨rfl, B6⟩
            have D7 := D6.out.later B6
            have H7 := llow (HX.out _ B6)
            rw [hlx.out] at H7
            have H8 := lsent (HX.out _ B6)
            have H9 := HG.out _ B6
            replace D7 := Lib.hid D7
            clear H5 B6 D6 H3
            go_wp2_with fail
            refine H7.mono ?_
            rintro e w' ⟨rfl, rfl⟩
            go_wp2_with fail
            refine H8.mono ?_
            rintro e w' ⟨rfl, rfl⟩
            clear H7 H8
            go_wp2_with fail
            refine H9.mono ?_
            rintro e w7 ⟨rfl, B7⟩
            have D8 := Lib.hid (D7.out.later B7)
            have HI := in_any gx ot w7 hll hotl
            rw [HIN] at HI
            clear H9 B7 D7
            go_wp2_with fail
            refine HI.mono ?_
            rintro e w' ⟨rfl, rfl⟩
            go_wp2
            go_roundw
            case rel => exact ⟨k + 1, X, by omega, by go_num, D8.out⟩
            case measure => simp [intOf]; omega
      · have dp : decide (a.p < 0) = false := by simp; omega
        have HST := Lib.hid (stepL_got (W := W) (a := a) (by omega))
        have HX := lgot D5.out.at_ a.p ha.p0 ha.p1 a.seq ha.s
        rw [← HST.out] at HX
        replace HX := Lib.hid HX
        clear hp
        go_wp2_with fail
        refine HX.out.mono ?_
        rintro e w5 ⟨rfl, K⟩
        clear HX c0 c1 c2
        go_wp2_with fail
        have D6 := Lib.hid (D5.out.step a K hgw)
        have H6 := H5.out.grown K.gr (by intro e; cases e; exact hgq rfl)
        have t1 : decide (lowN (stepL W a) < lowN W) = false := by have := step_low W a; simp; omega
        have t2 : decide (ofN (stepL W a) a.p < ofN W a.p) = false := by have := step_of W a a.p; simp; omega
        have t3 : decide ((stepL W a).sent < ofN (stepL W a) a.p) = false := by have := of_sent D6.out.at_.ok.inv a.p; simp; omega
        obtain ⟨d, hd⟩ : ∃ d : Nat, d = (stepL W a).sent - lowN (stepL W a) := ⟨_, rfl⟩
        have hls := lowN_sent (stepL W a)
        have hss := D6.out.at_.ok.s
        have hdi : ((stepL W a).sent : Int) - (lowN (stepL W a) : Int) = (d : Int) := by omega
        have hdw : IntKind.u32.wrap (d : Int) = (d : Int) := IntWalk.u32_in _ (by omega)
        have t5 : decide (z < d) = false := by have := D6.out.at_.ok.inv.few; have := D6.out.size; simp; omega
        have hmx := hmm.out
        have HIN : inn (lagN (stepL W a)) ot = true := by unfold inn; rw [← D6.out.oth, lag_in]; rfl
        have hz := Lib.hid (lag_zero (W := stepL W a))
        have hll := lagN_lt (stepL W a)
        have D6W := D6.out.at_
        generalize stepL W a = X at *
        have c0 := H6.c0
        have H1 := llow D6W
        have H2 := lof D6W a.p ha.p0 ha.p1
        have H3 := lsent D6W
        have H4 := llag D6W
        have HX : Hid (∀ w', Below w5.heap.size w5 w' → LkAt w' g X) := Lib.hid (fun w' hb => D6W.below hb)
        have HG : Hid (∀ w', Below w5.heap.size w5 w' → Calls Try.prog 19 #[.pointer (some ⟨g, 0, none⟩)] w' fun e w'' => e = .returned (.int .u64 (lagN X : Nat)) ∧ Below w'.heap.size w' w'') := Lib.hid (fun w' hb => llag (D6W.below hb))
        generalize hlx : lowN X = lx at *
        generalize hfx : ofN X a.p = fx at *
        replace hlx := Lib.hid hlx
        replace hfx := Lib.hid hfx
        replace hd := Lib.hid hd
        clear D6W H5 K
        refine H1.mono ?_
        rintro e w' ⟨rfl, rfl⟩
        go_wp2_with fail
        refine H2.mono ?_
        rintro e w' ⟨rfl, rfl⟩
        go_wp2_with fail
        refine H2.mono ?_
        rintro e w' ⟨rfl, rfl⟩
        go_wp2_with fail
        refine H3.mono ?_
        rintro e w' ⟨rfl, rfl⟩
        go_wp2_with fail
        refine H3.mono ?_
        rintro e w' ⟨rfl, rfl⟩
        go_wp2_with fail
        refine H1.mono ?_
        rintro e w' ⟨rfl, rfl⟩
        go_wp2_with fail
        have H5 := H4
        clear H4 H1 H2 t1 t2 t3 t5 hdi hdw hmx hls c0
        by_cases hg0 : lagN X = 0
        · have hxs : lx = X.sent := hz.out.1 hg0
          rw [hg0] at H5 HIN hll
          subst hxs
          refine H5.mono ?_
          rintro e w6 ⟨rfl, B6⟩
          have D7 := D6.out.later B6
          have H7 := llow (HX.out _ B6)
          rw [hlx.out] at H7
          have H8 := lsent (HX.out _ B6)
          have H9 := llag (HX.out _ B6)
          rw [hg0] at H9
          replace D7 := Lib.hid D7
          clear H5 B6 D6 H3
          go_wp2_with fail
          refine H7.mono ?_
          rintro e w' ⟨rfl, rfl⟩
          go_wp2_with fail
          refine H8.mono ?_
          rintro e w' ⟨rfl, rfl⟩
          clear H7 H8
          go_wp2_with fail
          refine H9.mono ?_
          rintro e w7 ⟨rfl, B7⟩
          have D8 := Lib.hid (D7.out.later B7)
          have HI := in_any 0 ot w7 (by decide) hotl
          rw [HIN] at HI
          clear H9 B7 D7
          go_wp2_with fail
          refine HI.mono ?_
          rintro e w' ⟨rfl, rfl⟩
          go_wp2
          go_roundw
          case rel => exact ⟨k + 1, X, by omega, by go_num, D8.out⟩
          case measure => simp [intOf]; omega
        · have e1 : ((lagN X : Int) == 0) = false := by simp; omega
          have e2 : ((lx : Int) == (X.sent : Int)) = false := by have : lx ≠ X.sent := fun e => hg0 (hz.out.2 e); simp; omega
          generalize lagN X = gx at *
          refine H5.mono ?_
          rintro e w6 ⟨rfl, B6⟩
          have D7 := D6.out.later B6
          have H7 := llow (HX.out _ B6)
          rw [hlx.out] at H7
          have H8 := lsent (HX.out _ B6)
          have H9 := HG.out _ B6
          replace D7 := Lib.hid D7
          clear H5 B6 D6 H3
          go_wp2_with fail
          refine H7.mono ?_
          rintro e w' ⟨rfl, rfl⟩
          go_wp2_with fail
          refine H8.mono ?_
          rintro e w' ⟨rfl, rfl⟩
          clear H7 H8
          go_wp2_with fail
          refine H9.mono ?_
          rintro e w7 ⟨rfl, B7⟩
          have D8 := Lib.hid (D7.out.later B7)
          have HI := in_any gx ot w7 hll hotl
          rw [HIN] at HI
          clear H9 B7 D7
          go_wp2_with fail
          refine HI.mono ?_
          rintro e w' ⟨rfl, rfl⟩
          go_wp2
          go_roundw
          case rel => exact ⟨k + 1, X, by omega, by go_num, D8.out⟩
          case measure => simp [intOf]; omega
    · have HB := Lib.hid D.below
      clear D
      go_wp2
      go_ret
      exact ⟨rfl, HB.out⟩
theorem walk_LinkBounds {w : World} (c : Int) (wc : (Lit.int .i64 c).wf = true) (a : Int) (wa : (Lit.int .u64 a).wf = true) (b : Int) (wb : (Lit.int .i64 b).wf = true) (ao : Option Addr) (len cap : Nat) (l : List LA) (hl : Lst encL 3 w ao len l ∧ len ≤ maxLen ∧ ∀ m ∈ l, m.ok) :
    Calls Try.prog 4 #[.int .i64 c, .int .u64 a, .int .i64 b, .slice ao len cap] w fun e w' => e = .returned (.bool true) ∧ Below w.heap.size w w' := by
  have b2 := Go.bounds_i64 wc
  have b0 := Go.bounds_u64 wa
  have b1 := Go.bounds_i64 wb
  obtain ⟨a, rfl⟩ := Int.eq_ofNat_of_zero_le (show 0 ≤ a by omega)
  exact full_LinkBounds c a b ao len cap l w (by omega) (by omega) (by omega) (by omega) (by omega) hl.1 hl.2.2 hl.2.1
end Go.Proofs.Ytlmajpckgjnbdaa
