/- The walk of 'HeardPlays'. (Written by wip/gen_heardplays.py.) -/
import Derived.Test.YtcjbjcojmjfmaaaPlays9
set_option linter.unusedVariables false
set_option linter.unusedSimpArgs false
namespace Go.Proofs.Ytcjbjcojmjfmaaa
open Go.RowKit Go.Sort

set_option maxHeartbeats 40000000 in
set_option maxRecDepth 100000 in
theorem full_HeardPlays (me n T : Int) (m0 : -9223372036854775808 ≤ me) (m1 : me ≤ 9223372036854775807) (n0 : -9223372036854775808 ≤ n) (n1 : n ≤ 9223372036854775807) (T0 : -9223372036854775808 ≤ T) (T1 : T ≤ 9223372036854775807)
    (ao0 : Option Addr) (len cap0 : Nat) (l : List HA) (ce : Nat) (cr : Int) (w : World) (hl : Lst encH 8 w ao0 len l) (hle : len ≤ maxLen) (hok : ∀ m ∈ l, m.ok) :
    Calls Try.prog 3 #[.int .i64 me, .int .i64 n, .int .i64 T, .slice ao0 len cap0, .agg #[.int .u64 (ce : Int), .int .i64 cr]] w fun e w' => e = .returned (.bool true) ∧ Below w.heap.size w w' := by
  have hlen := hl.size
  have HL := Lib.hid hl
  have HOK := Lib.hid hok
  have L0 := ((Grw.refl w).alloc (.cells #[.int .u64 (ce : Int), .int .i64 cr] 25)).below
  have CB := Own.new w 25 #[.int .u64 (ce : Int), .int .i64 cr]
  clear hl hok
  unfold maxLen at hle
  by_cases h1 : (100 : Int) < (len : Int)
  · clear n0
    go_enter Try.func3, Try.ntmps3
    go_wp2_with (go_at_call 7; refine (eawake _).mono ?_; rintro e w1 ⟨rfl, L1⟩)
    go_ret
    exact ⟨rfl, L0.trans (L1.mono L0.size)⟩
  by_cases h2 : T < 0
  · clear n0
    go_enter Try.func3, Try.ntmps3
    go_wp2_with (go_at_call 7; refine (eawake _).mono ?_; rintro e w1 ⟨rfl, L1⟩)
    go_ret
    exact ⟨rfl, L0.trans (L1.mono L0.size)⟩
  by_cases h3 : 1073741824 < T
  · clear n0
    go_enter Try.func3, Try.ntmps3
    go_wp2_with (go_at_call 7; refine (eawake _).mono ?_; rintro e w1 ⟨rfl, L1⟩)
    go_ret
    exact ⟨rfl, L0.trans (L1.mono L0.size)⟩
  have d1 : decide ((100 : Int) < (len : Int)) = false := by simp <;> omega
  have d2 : decide (T < 0) = false := by simp <;> omega
  have d3 : decide (1073741824 < T) = false := by simp <;> omega
  go_enter Try.func3, Try.ntmps3
  go_wp2_with fail
  refine (eawake _).mono ?_
  rintro e w1 ⟨rfl, L1⟩
  have L1 := L0.trans (L1.mono L0.size)
  have CB := CB.below (by assumption) (by simp)
  have HNW := enew me n T w1 m0 m1 n0 n1 T0 T1
  generalize hcb : w.heap.size = cb at *
  have HCB := Lib.hid hcb
  clear hcb L0
  go_wp2_with fail
  refine HNW.mono ?_
  rintro e w2 ⟨rfl, A2, L2'⟩
  have L2 := L1.trans (L2'.mono (by have := L1.size; have := HCB.out; omega))
  have CB2 := CB.below L2' CB.lt
  have hg0 : cb < w1.heap.size + 1 := by have := CB.lt; omega
  have hgl : w1.heap.size + 1 < w2.heap.size := A2.lt
  clear HNW L1 L2' CB
  go_upto_region 7 with fail
  have L3' := ((Grw.refl w2).alloc (.cells #[.int .i64 me, .int .i64 n, .int .i64 T, .int .i64 0, .slice none 0 0] 31)).below
  have D3 : HpB w (w2.alloc (.cells #[.int .i64 me, .int .i64 n, .int .i64 T, .int .i64 0, .slice none 0 0] 31)) (w1.heap.size + 1) w2.heap.size cb (earN me n T) ⟨me, n, T, 0, []⟩ none 0 ce cr :=
    ⟨A2.below L3', Own.new w2 _ _, ⟨⟨rfl, fun h => (by simp at h)⟩, ⟨m0, m1, n0, n1, T0, T1, Int.le_refl _, (by decide : (0 : Int) ≤ 2000000), fun s hs => (by cases hs)⟩, Nat.zero_le _⟩, fun _ => rfl, fun x hx => (by cases hx), CB2.below L3' CB2.lt, by rw [HCB.out]; exact L2.trans (L3'.mono (by have := L2.size; have := HCB.out; omega))⟩
  have F : HpF w (w1.heap.size + 1) w2.heap.size cb := ⟨by omega, by omega, by omega, by rw [HCB.out]; omega, by rw [HCB.out]; omega⟩
  have R3 := Rel.new me n T
  have hc3 : (earN me n T).clock ≤ 0 := Int.le_refl _
  have hl3 : (([] : List Sd)).length ≤ 0 := Nat.le_refl _
  clear A2 L2 L3' CB2 hg0 hgl
  generalize (w2.alloc (.cells #[.int .i64 me, .int .i64 n, .int .i64 T, .int .i64 0, .slice none 0 0] 31)) = w3 at *
  generalize earN me n T = E0 at *
  generalize w1.heap.size + 1 = g at *
  generalize w2.heap.size = f at *
  go_wp2
  go_loopw [13] (fun si wr => ∃ (i : Nat) (E : Er) (M : Rf) (ao : Option Addr) (cap : Nat), i ≤ len ∧ si = .int .i64 i ∧ HpB w wr g f cb E M ao cap ce cr ∧ Rel E M ∧ E.clock ≤ i ∧ M.all.length ≤ 64 * i) (fun si _ => len - (intOf si).toNat)
  case atStart => exact ⟨0, E0, ⟨me, n, T, 0, []⟩, none, 0, Nat.zero_le _, rfl, D3, R3, by simpa using hc3, by simp⟩
  case round =>
    obtain ⟨i, E, M, ao, cap, hi, rfl, D, R, hc, hml⟩ := hrel
    clear D3 R3 hc3 hl3
    by_cases hlt : i < len
    · have hil : i < l.length := by rw [hlen]; exact hlt
      obtain ⟨b, o, rfl, RA⟩ := (HL.out.below (by rw [HCB.out]; have := D.below; rw [HCB.out] at this; exact this)).src (by omega)
      have hx := List.getElem?_eq_getElem hil
      have ha := HOK.out _ (List.getElem_mem hil)
      generalize l[i] = a at hx ha
      obtain ⟨c0, c1, c2, c3, c4, c5, c6, c7⟩ := hlst_at RA i a hx
      clear RA hx hil
      go_upto_region 11 with fail
      have B4 := ((Grw.refl wr).alloc (.cells #[.int .i64 a.kind, .int .i64 a.p, .int .u64 (a.b.ce : Int), .int .i64 a.b.cr, .int .u64 (a.b.pe : Int), .int .i64 a.b.pr, .int .u64 (a.b.ep : Int), .int .u64 (a.s : Int)] 35)).below
      have D4 := D.later B4
      have A4 := HaB.new wr a
      have hgk : g ≠ wr.heap.size := by have := D.ear.lt; omega
      have hfk : f ≠ wr.heap.size := by have := D.rf.lt; omega
      clear D B4 c0 c1 c2 c3 c4 c5 c6 c7
      generalize wr.alloc (.cells #[.int .i64 a.kind, .int .i64 a.p, .int .u64 (a.b.ce : Int), .int .i64 a.b.cr, .int .u64 (a.b.pe : Int), .int .i64 a.b.pr, .int .u64 (a.b.ep : Int), .int .u64 (a.s : Int)] 35) = w4 at *
      generalize wr.heap.size = k at *
      have hp0 := ha.p0
      have hp1 := ha.p1
      have hnow := Lib.hid (show M.now = E.clock from R.clock.symm)
      have hEok := Lib.hid D4.ear.ok
      have hMok := Lib.hid D4.at_.ok
      by_cases hk0 : a.kind = 0
      · have e0 : (a.kind == 0) = true := by simp [hk0]
        have c0 := A4.own.at_ 0 _ rfl
        have c1 := A4.own.at_ 1 _ rfl
        have c2 := A4.own.at_ 2 _ rfl
        have c3 := A4.own.at_ 3 _ rfl
        have c4 := A4.own.at_ 4 _ rfl
        have c5 := A4.own.at_ 5 _ rfl
        have c6 := A4.own.at_ 6 _ rfl
        have c7 := A4.own.at_ 7 _ rfl
        have H1 := etick D4.ear (by omega)
        go_wp2_with fail
        refine H1.mono ?_
        rintro e w5 ⟨rfl, M5'⟩
        have D5 := D4.first M5' F
        have A5 := A4.grown M5'.gr (by intro e; cases e; exact hgk rfl)
        clear H1 M5' D4 A4
        clear c0 c1 c2 c3 c4 c5 c6 c7
        have u3 := D5.rf.own.at_ 3 _ rfl
        have f3 := D5.rf.own.free 3
        have nb0 := hMok.out.c0
        have nb1 : M.now ≤ 1000000 := by have := hnow.out; omega
        have D6 := D5.tick F nb1
        have A6 := A5.cell f 3 (.int .i64 (M.now + 1)) (fun e => hfk e.symm)
        go_upto_region 28 with fail
        clear u3 f3 D5 A5
        generalize (w5.setCell ⟨f, 3, none⟩ (.int .i64 (M.now + 1))) = w6 at *
        have R5 : Rel (tickE E) ({ M with now := M.now + 1 } : Rf) := R.tick
        have HC := Lib.hid (show ((tickE E)).clock ≤ ((i + 1 : Nat) : Int) by show E.clock + 1 ≤ _; omega)
        have HML := Lib.hid (show (({ M with now := M.now + 1 } : Rf)).all.length ≤ 64 * (i + 1) by show M.all.length ≤ _; omega)
        have D5 := D6
        have A5 := A6
        clear D6 A6 R
        obtain ⟨E5, hE5⟩ : ∃ E5, E5 = (tickE E) := ⟨_, rfl⟩
        obtain ⟨M5, hM5⟩ : ∃ M5, M5 = ({ M with now := M.now + 1 } : Rf) := ⟨_, rfl⟩
        rw [← hE5] at D5 HC R5
        rw [← hM5] at D5 HML R5
        clear hE5 hM5
        obtain ⟨ao5, hao5⟩ : ∃ ao5, ao5 = ao := ⟨_, rfl⟩
        obtain ⟨cap5, hcap5⟩ : ∃ cap5, cap5 = cap := ⟨_, rfl⟩
        rw [← hao5, ← hcap5] at D5
        clear hao5 hcap5
        clear hp0 hp1 hEok hMok
        have hp0 := ha.p0
        have hp1 := ha.p1
        have HOE := eof D5.ear a.p hp0 hp1
        have ho := R5.of a.p
        rw [ho.1, ho.2, ← sdO_b] at HOE
        have HRO : Hid (∀ w', RfAt w' M5 ao5 → Calls Try.prog 15 #[.agg #[.int .i64 M5.me, .int .i64 M5.n, .int .i64 M5.timeout, .int .i64 M5.now, .slice ao5 M5.all.length cap5], .int .i64 a.p] w' fun e w'' => e = .returned (.tuple #[.agg #[.int .i64 (sdO (ofT M5.all a.p)).p, .int .i64 (sdO (ofT M5.all a.p)).at_, .bool (sdO (ofT M5.all a.p)).beat, .bool (sdO (ofT M5.all a.p)).gone, .int .u64 ((sdO (ofT M5.all a.p)).b.ce : Int), .int .i64 (sdO (ofT M5.all a.p)).b.cr, .int .u64 ((sdO (ofT M5.all a.p)).b.pe : Int), .int .i64 (sdO (ofT M5.all a.p)).b.pr, .int .u64 ((sdO (ofT M5.all a.p)).b.ep : Int)], .bool (ofT M5.all a.p).isSome]) ∧ Below w'.heap.size w' w'') := Lib.hid (fun w' h => rof h cap5 a.p ha.p0 ha.p1)
        clear ho
        generalize sdO (ofT M5.all a.p) = sd at *
        generalize (ofT M5.all a.p).isSome = o at *
        have hreach := R5.reach D5.ear.ok
        have hepoch := R5.epoch
        have hstr := R5.strange a.s ce cr
        have c1 := A5.own.at_ 1 _ rfl
        go_upto_region 29 with (first | (go_at_call 14; refine HOE.mono ?_; rintro e w7 ⟨rfl, B7⟩) | (refine store_bt rfl (.tmp 16) (.tmp 119) rfl w7.heap.size sd.b rfl rfl (BtB.zero w7) ?_))
        (try simp only [Act.put])
        obtain ⟨RB, LB⟩ := btb_put w7 sd.b
        have D8 := (D5.later B7).later LB
        have A8 := (A5.below B7).below LB
        clear LB B7 HOE D5 A5 c1
        generalize ((w7.alloc (.cells #[.int .u64 0, .int .i64 0, .int .u64 0, .int .i64 0, .int .u64 0] 33)).setRow w7.heap.size #[.int .u64 (sd.b.ce : Int), .int .i64 sd.b.cr, .int .u64 (sd.b.pe : Int), .int .i64 sd.b.pr, .int .u64 (sd.b.ep : Int)]) = w8 at *
        generalize w7.heap.size = bx at *
        have HOF := HRO.out w8 D8.at_
        have c1 := A8.own.at_ 1 _ rfl
        have u0 := D8.rf.own.at_ 0 _ rfl
        have u1 := D8.rf.own.at_ 1 _ rfl
        have u2 := D8.rf.own.at_ 2 _ rfl
        have u3 := D8.rf.own.at_ 3 _ rfl
        have u4 := D8.rf.own.at_ 4 _ rfl
        clear HRO
        go_upto_region 30 with (first | (go_at_call 15; refine HOF.mono ?_; rintro e w9 ⟨rfl, B9⟩) | (refine store_sd rfl (.tmp 18) (.tmp 126) rfl w9.heap.size sd rfl rfl (SdB.zero w9) ?_))
        (try simp only [Act.put])
        obtain ⟨RC, LC⟩ := sd_put w9 sd
        have D10 := (D8.later B9).later LC
        have A10 := (A8.below B9).below LC
        have RB := (RB.below B9).below LC
        clear LC B9 HOF D8 A8 c1 u0 u1 u2 u3 u4
        generalize ((w9.alloc (.cells #[.int .i64 0, .int .i64 0, .bool false, .bool false, .int .u64 0, .int .i64 0, .int .u64 0, .int .i64 0, .int .u64 0] 39)).setRow w9.heap.size #[.int .i64 sd.p, .int .i64 sd.at_, .bool sd.beat, .bool sd.gone, .int .u64 (sd.b.ce : Int), .int .i64 sd.b.cr, .int .u64 (sd.b.pe : Int), .int .i64 sd.b.pr, .int .u64 (sd.b.ep : Int)]) = w10 at *
        generalize w9.heap.size = sx at *
        obtain ⟨sp, sa, sbt, sg, bce, bcr, bpe, bpr, bep⟩ := sd
        simp only at RB RC ⊢
        have K1 : Hid (∀ n os, Calls Try.prog 16 #[.pointer (some ⟨g, 0, none⟩)] (grow (atD w10 n) os) fun e w'' => e = .returned (.int .u64 (rreachM M5 : Nat)) ∧ Below (grow (atD w10 n) os).heap.size (grow (atD w10 n) os) w'') := Lib.hid (fun n os => by rw [← hreach]; exact ereach (D10.ear.below (form_below w10 n os)))
        have K2 : Hid (∀ n os, Calls Try.prog 17 #[.agg #[.int .i64 M5.me, .int .i64 M5.n, .int .i64 M5.timeout, .int .i64 M5.now, .slice ao5 M5.all.length cap5]] (grow (atD w10 n) os) fun e w'' => e = .returned (.int .u64 (rreachM M5 : Nat)) ∧ Below (grow (atD w10 n) os).heap.size (grow (atD w10 n) os) w'') := Lib.hid (fun n os => rreach (D10.at_.below (form_below w10 n os)) cap5)
        have flt := D10.rf.lt
        have blt := RB.lt
        have slt := RC.lt
        have u0 := fun n os => cell_form flt (D10.rf.own.at_ 0 _ rfl) n os
        have u1 := fun n os => cell_form flt (D10.rf.own.at_ 1 _ rfl) n os
        have u2 := fun n os => cell_form flt (D10.rf.own.at_ 2 _ rfl) n os
        have u3 := fun n os => cell_form flt (D10.rf.own.at_ 3 _ rfl) n os
        have u4 := fun n os => cell_form flt (D10.rf.own.at_ 4 _ rfl) n os
        have x0 := fun n os => cell_form blt RB.d0 n os
        have x1 := fun n os => cell_form blt RB.d1 n os
        have x2 := fun n os => cell_form blt RB.d2 n os
        have x3 := fun n os => cell_form blt RB.d3 n os
        have x4 := fun n os => cell_form blt RB.d4 n os
        have y4 := fun n os => cell_form slt (RC.own.at_ 4 _ rfl) n os
        have y5 := fun n os => cell_form slt (RC.own.at_ 5 _ rfl) n os
        have y6 := fun n os => cell_form slt (RC.own.at_ 6 _ rfl) n os
        have y7 := fun n os => cell_form slt (RC.own.at_ 7 _ rfl) n os
        have y8 := fun n os => cell_form slt (RC.own.at_ 8 _ rfl) n os
        have hbb := build_beat (bce : Int) bcr (bpe : Int) bpr (bep : Int)
        have hqq : ∀ w, (binOp .neq 33 (.agg #[.int .u64 (bce : Int), .int .i64 bcr, .int .u64 (bpe : Int), .int .i64 bpr, .int .u64 (bep : Int)]) (.agg #[.int .u64 (bce : Int), .int .i64 bcr, .int .u64 (bpe : Int), .int .i64 bpr, .int .u64 (bep : Int)])).run Try.prog w = .ok (.bool false) w := fun w => by
          have := neq_beat ⟨bce, bcr, bpe, bpr, bep⟩ ⟨bce, bcr, bpe, bpr, bep⟩ w
          rw [show sameB ⟨bce, bcr, bpe, bpr, bep⟩ ⟨bce, bcr, bpe, bpr, bep⟩ = true from (sameB_iff _ _).2 rfl] at this
          exact this
        have hoo : (o != o) = false := by cases o <;> rfl
        generalize rreachM M5 = rr at *
        have hrr := bne_same rr
        clear hreach RB RC
        refine wp_region_quiet_below (by kernel_rfl) (by kernel_rfl) ?_
        repeat (quiet_step (first | (go_at_call 16; exact calls_below (K1.out _ _)) | (go_at_call 17; exact calls_below (K2.out _ _))))
        refine wpQuiet_nil ?_
        intro _ hw'
        obtain ⟨⟨nq, osq⟩, hw''⟩ := hw'
        subst hw''
        have D11 := D10.later (form_below w10 nq osq)
        have A11 := A10.below (form_below w10 nq osq)
        clear K1 K2 u0 u1 u2 u3 u4 x0 x1 x2 x3 x4 y4 y5 y6 y7 y8 hbb hqq D10 A10 hrr flt blt slt
        generalize (grow (atD w10 nq) osq) = w11 at *
        go_upto_region 32 with fail
        have K3 : Hid (∀ n os, Calls Try.prog 18 #[.pointer (some ⟨g, 0, none⟩)] (grow (atD w11 n) os) fun e w'' => e = .returned (.int .u64 (repochK M5 64 : Nat)) ∧ Below (grow (atD w11 n) os).heap.size (grow (atD w11 n) os) w'') := Lib.hid (fun n os => by rw [← hepoch]; exact eepoch (D11.ear.below (form_below w11 n os)))
        have K4 : Hid (∀ n os, Calls Try.prog 19 #[.agg #[.int .i64 M5.me, .int .i64 M5.n, .int .i64 M5.timeout, .int .i64 M5.now, .slice ao5 M5.all.length cap5]] (grow (atD w11 n) os) fun e w'' => e = .returned (.int .u64 (repochK M5 64 : Nat)) ∧ Below (grow (atD w11 n) os).heap.size (grow (atD w11 n) os) w'') := Lib.hid (fun n os => repoch (D11.at_.below (form_below w11 n os)) cap5)
        have K5 : Hid (∀ n os, Calls Try.prog 20 #[.pointer (some ⟨g, 0, none⟩), .int .u64 (a.s : Int), .agg #[.int .u64 (ce : Int), .int .i64 cr]] (grow (atD w11 n) os) fun e w'' => e = .returned (.int .u64 (rstrangeM M5 a.s ce cr : Nat)) ∧ Below (grow (atD w11 n) os).heap.size (grow (atD w11 n) os) w'') := Lib.hid (fun n os => by rw [← hstr]; exact estrange (D11.ear.below (form_below w11 n os)) a.s ha.s ce cr)
        have K6 : Hid (∀ n os, Calls Try.prog 21 #[.agg #[.int .i64 M5.me, .int .i64 M5.n, .int .i64 M5.timeout, .int .i64 M5.now, .slice ao5 M5.all.length cap5], .int .u64 (a.s : Int), .agg #[.int .u64 (ce : Int), .int .i64 cr]] (grow (atD w11 n) os) fun e w'' => e = .returned (.int .u64 (rstrangeM M5 a.s ce cr : Nat)) ∧ Below (grow (atD w11 n) os).heap.size (grow (atD w11 n) os) w'') := Lib.hid (fun n os => rstrange (D11.at_.below (form_below w11 n os)) cap5 a.s ha.s ce cr)
        have flt := D11.rf.lt
        have klt := A11.lt
        have clt := D11.conf.lt
        have u0 := fun n os => cell_form flt (D11.rf.own.at_ 0 _ rfl) n os
        have u1 := fun n os => cell_form flt (D11.rf.own.at_ 1 _ rfl) n os
        have u2 := fun n os => cell_form flt (D11.rf.own.at_ 2 _ rfl) n os
        have u3 := fun n os => cell_form flt (D11.rf.own.at_ 3 _ rfl) n os
        have u4 := fun n os => cell_form flt (D11.rf.own.at_ 4 _ rfl) n os
        have c7 := fun n os => cell_form klt (A11.own.at_ 7 _ rfl) n os
        have z0 := fun n os => cell_form clt (D11.conf.at_ 0 _ rfl) n os
        have z1 := fun n os => cell_form clt (D11.conf.at_ 1 _ rfl) n os
        generalize repochK M5 64 = re at *
        generalize rstrangeM M5 a.s ce cr = rs at *
        have hre := bne_same re
        have hrs := bne_same rs
        clear hepoch hstr
        refine wp_region_quiet_below (by kernel_rfl) (by kernel_rfl) ?_
        repeat (quiet_step (first | (go_at_call 18; exact calls_below (K3.out _ _)) | (go_at_call 19; exact calls_below (K4.out _ _)) | (go_at_call 20; exact calls_below (K5.out _ _)) | (go_at_call 21; exact calls_below (K6.out _ _))))
        refine wpQuiet_nil ?_
        intro _ hw'
        obtain ⟨⟨nq2, osq2⟩, hw''⟩ := hw'
        subst hw''
        have D12 := Lib.hid (D11.later (form_below w11 nq2 osq2))
        have HR5 := Lib.hid R5
        clear K3 K4 K5 K6 u0 u1 u2 u3 u4 c7 z0 z1 D11 A11 hre hrs flt klt clt R5 hoo
        generalize (grow (atD w11 nq2) osq2) = w12 at *
        go_wp2
        go_roundw
        case rel => exact ⟨i + 1, E5, M5, ao5, cap5, by omega, by go_num, D12.out, HR5.out, HC.out, HML.out⟩
        case measure => simp [intOf]; omega
      by_cases hk1 : a.kind = 1
      · have e0 : (a.kind == 0) = false := by simp [hk0]
        have e1 : (a.kind == 1) = true := by simp [hk1]
        have c0 := A4.own.at_ 0 _ rfl
        have c1 := A4.own.at_ 1 _ rfl
        have c2 := A4.own.at_ 2 _ rfl
        have c3 := A4.own.at_ 3 _ rfl
        have c4 := A4.own.at_ 4 _ rfl
        have c5 := A4.own.at_ 5 _ rfl
        have c6 := A4.own.at_ 6 _ rfl
        have c7 := A4.own.at_ 7 _ rfl
        have H1 := ehear D4.ear a.p hp0 hp1
        go_wp2_with fail
        refine H1.mono ?_
        rintro e w5 ⟨rfl, M5'⟩
        have D5 := D4.first M5' F
        have A5 := A4.grown M5'.gr (by intro e; cases e; exact hgk rfl)
        clear H1 M5' D4 A4
        clear c0 c1 c2 c3 c4 c5 c6 c7
        have c0 := A5.own.at_ 0 _ rfl
        have c1 := A5.own.at_ 1 _ rfl
        have c2 := A5.own.at_ 2 _ rfl
        have c3 := A5.own.at_ 3 _ rfl
        have c4 := A5.own.at_ 4 _ rfl
        have c5 := A5.own.at_ 5 _ rfl
        have c6 := A5.own.at_ 6 _ rfl
        have c7 := A5.own.at_ 7 _ rfl
        have u0 := D5.rf.own.at_ 0 _ rfl
        have u1 := D5.rf.own.at_ 1 _ rfl
        have u2 := D5.rf.own.at_ 2 _ rfl
        have u3 := D5.rf.own.at_ 3 _ rfl
        have u4 := D5.rf.own.at_ 4 _ rfl
        have HR : Calls Try.prog 11 #[.agg #[.int .i64 M.me, .int .i64 M.n, .int .i64 M.timeout, .int .i64 M.now, .slice ao M.all.length cap], .agg #[.int .i64 a.p, .int .i64 0, .bool false, .bool false, .int .u64 0, .int .i64 0, .int .u64 0, .int .i64 0, .int .u64 0]] w5 (RaddPost w5 M ⟨a.p, 0, false, false, bt0⟩ ao) := radd D5.at_ cap D5.nil (by omega) ⟨a.p, 0, false, false, bt0⟩ hp0 hp1
        go_wp2_with fail
        refine HR.mono ?_
        rintro e w6 ⟨ao', cap', rfl, R6, N6, F6, B6⟩
        have RB := D5.rf.below B6
        have D6 := D5.put F R6 N6 F6 B6
        have A6 := (A5.below B6).row f #[.int .i64 (addM M ⟨a.p, 0, false, false, bt0⟩).me, .int .i64 (addM M ⟨a.p, 0, false, false, bt0⟩).n, .int .i64 (addM M ⟨a.p, 0, false, false, bt0⟩).timeout, .int .i64 (addM M ⟨a.p, 0, false, false, bt0⟩).now, .slice ao' (addM M ⟨a.p, 0, false, false, bt0⟩).all.length cap'] (fun e => hfk e.symm)
        clear HR R6 N6 F6
        go_upto_region 28 with (refine store_rf rfl (.tmp 12) (.tmp 71) rfl f (addM M ⟨a.p, 0, false, false, bt0⟩).me (addM M ⟨a.p, 0, false, false, bt0⟩).n (addM M ⟨a.p, 0, false, false, bt0⟩).timeout (addM M ⟨a.p, 0, false, false, bt0⟩).now ao' (addM M ⟨a.p, 0, false, false, bt0⟩).all.length cap' rfl rfl RB ?_)
        (try simp only [Act.put])
        clear RB B6 D5 A5
        generalize (w6.setRow f #[.int .i64 (addM M ⟨a.p, 0, false, false, bt0⟩).me, .int .i64 (addM M ⟨a.p, 0, false, false, bt0⟩).n, .int .i64 (addM M ⟨a.p, 0, false, false, bt0⟩).timeout, .int .i64 (addM M ⟨a.p, 0, false, false, bt0⟩).now, .slice ao' (addM M ⟨a.p, 0, false, false, bt0⟩).all.length cap']) = w6s at *
        clear c0 c1 c2 c3 c4 c5 c6 c7
        clear u0 u1 u2 u3 u4
        have R5 : Rel (hearE E a.p) (addM M ⟨a.p, 0, false, false, bt0⟩) := R.hear a.p 0
        have HC := Lib.hid (show ((hearE E a.p)).clock ≤ ((i + 1 : Nat) : Int) by rw [show (hearE E a.p).clock = E.clock by unfold hearE; split <;> rfl]; omega)
        have HML := Lib.hid (show ((addM M ⟨a.p, 0, false, false, bt0⟩)).all.length ≤ 64 * (i + 1) by have := add_len M ⟨a.p, 0, false, false, bt0⟩; omega)
        have D5 := D6
        have A5 := A6
        clear D6 A6 R
        obtain ⟨E5, hE5⟩ : ∃ E5, E5 = (hearE E a.p) := ⟨_, rfl⟩
        obtain ⟨M5, hM5⟩ : ∃ M5, M5 = (addM M ⟨a.p, 0, false, false, bt0⟩) := ⟨_, rfl⟩
        rw [← hE5] at D5 HC R5
        rw [← hM5] at D5 HML R5
        clear hE5 hM5
        obtain ⟨ao5, hao5⟩ : ∃ ao5, ao5 = ao' := ⟨_, rfl⟩
        obtain ⟨cap5, hcap5⟩ : ∃ cap5, cap5 = cap' := ⟨_, rfl⟩
        rw [← hao5, ← hcap5] at D5
        clear hao5 hcap5
        clear hp0 hp1 hEok hMok
        have hp0 := ha.p0
        have hp1 := ha.p1
        have HOE := eof D5.ear a.p hp0 hp1
        have ho := R5.of a.p
        rw [ho.1, ho.2, ← sdO_b] at HOE
        have HRO : Hid (∀ w', RfAt w' M5 ao5 → Calls Try.prog 15 #[.agg #[.int .i64 M5.me, .int .i64 M5.n, .int .i64 M5.timeout, .int .i64 M5.now, .slice ao5 M5.all.length cap5], .int .i64 a.p] w' fun e w'' => e = .returned (.tuple #[.agg #[.int .i64 (sdO (ofT M5.all a.p)).p, .int .i64 (sdO (ofT M5.all a.p)).at_, .bool (sdO (ofT M5.all a.p)).beat, .bool (sdO (ofT M5.all a.p)).gone, .int .u64 ((sdO (ofT M5.all a.p)).b.ce : Int), .int .i64 (sdO (ofT M5.all a.p)).b.cr, .int .u64 ((sdO (ofT M5.all a.p)).b.pe : Int), .int .i64 (sdO (ofT M5.all a.p)).b.pr, .int .u64 ((sdO (ofT M5.all a.p)).b.ep : Int)], .bool (ofT M5.all a.p).isSome]) ∧ Below w'.heap.size w' w'') := Lib.hid (fun w' h => rof h cap5 a.p ha.p0 ha.p1)
        clear ho
        generalize sdO (ofT M5.all a.p) = sd at *
        generalize (ofT M5.all a.p).isSome = o at *
        have hreach := R5.reach D5.ear.ok
        have hepoch := R5.epoch
        have hstr := R5.strange a.s ce cr
        have c1 := A5.own.at_ 1 _ rfl
        go_upto_region 29 with (first | (go_at_call 14; refine HOE.mono ?_; rintro e w7 ⟨rfl, B7⟩) | (refine store_bt rfl (.tmp 16) (.tmp 119) rfl w7.heap.size sd.b rfl rfl (BtB.zero w7) ?_))
        (try simp only [Act.put])
        obtain ⟨RB, LB⟩ := btb_put w7 sd.b
        have D8 := (D5.later B7).later LB
        have A8 := (A5.below B7).below LB
        clear LB B7 HOE D5 A5 c1
        generalize ((w7.alloc (.cells #[.int .u64 0, .int .i64 0, .int .u64 0, .int .i64 0, .int .u64 0] 33)).setRow w7.heap.size #[.int .u64 (sd.b.ce : Int), .int .i64 sd.b.cr, .int .u64 (sd.b.pe : Int), .int .i64 sd.b.pr, .int .u64 (sd.b.ep : Int)]) = w8 at *
        generalize w7.heap.size = bx at *
        have HOF := HRO.out w8 D8.at_
        have c1 := A8.own.at_ 1 _ rfl
        have u0 := D8.rf.own.at_ 0 _ rfl
        have u1 := D8.rf.own.at_ 1 _ rfl
        have u2 := D8.rf.own.at_ 2 _ rfl
        have u3 := D8.rf.own.at_ 3 _ rfl
        have u4 := D8.rf.own.at_ 4 _ rfl
        clear HRO
        go_upto_region 30 with (first | (go_at_call 15; refine HOF.mono ?_; rintro e w9 ⟨rfl, B9⟩) | (refine store_sd rfl (.tmp 18) (.tmp 126) rfl w9.heap.size sd rfl rfl (SdB.zero w9) ?_))
        (try simp only [Act.put])
        obtain ⟨RC, LC⟩ := sd_put w9 sd
        have D10 := (D8.later B9).later LC
        have A10 := (A8.below B9).below LC
        have RB := (RB.below B9).below LC
        clear LC B9 HOF D8 A8 c1 u0 u1 u2 u3 u4
        generalize ((w9.alloc (.cells #[.int .i64 0, .int .i64 0, .bool false, .bool false, .int .u64 0, .int .i64 0, .int .u64 0, .int .i64 0, .int .u64 0] 39)).setRow w9.heap.size #[.int .i64 sd.p, .int .i64 sd.at_, .bool sd.beat, .bool sd.gone, .int .u64 (sd.b.ce : Int), .int .i64 sd.b.cr, .int .u64 (sd.b.pe : Int), .int .i64 sd.b.pr, .int .u64 (sd.b.ep : Int)]) = w10 at *
        generalize w9.heap.size = sx at *
        obtain ⟨sp, sa, sbt, sg, bce, bcr, bpe, bpr, bep⟩ := sd
        simp only at RB RC ⊢
        have K1 : Hid (∀ n os, Calls Try.prog 16 #[.pointer (some ⟨g, 0, none⟩)] (grow (atD w10 n) os) fun e w'' => e = .returned (.int .u64 (rreachM M5 : Nat)) ∧ Below (grow (atD w10 n) os).heap.size (grow (atD w10 n) os) w'') := Lib.hid (fun n os => by rw [← hreach]; exact ereach (D10.ear.below (form_below w10 n os)))
        have K2 : Hid (∀ n os, Calls Try.prog 17 #[.agg #[.int .i64 M5.me, .int .i64 M5.n, .int .i64 M5.timeout, .int .i64 M5.now, .slice ao5 M5.all.length cap5]] (grow (atD w10 n) os) fun e w'' => e = .returned (.int .u64 (rreachM M5 : Nat)) ∧ Below (grow (atD w10 n) os).heap.size (grow (atD w10 n) os) w'') := Lib.hid (fun n os => rreach (D10.at_.below (form_below w10 n os)) cap5)
        have flt := D10.rf.lt
        have blt := RB.lt
        have slt := RC.lt
        have u0 := fun n os => cell_form flt (D10.rf.own.at_ 0 _ rfl) n os
        have u1 := fun n os => cell_form flt (D10.rf.own.at_ 1 _ rfl) n os
        have u2 := fun n os => cell_form flt (D10.rf.own.at_ 2 _ rfl) n os
        have u3 := fun n os => cell_form flt (D10.rf.own.at_ 3 _ rfl) n os
        have u4 := fun n os => cell_form flt (D10.rf.own.at_ 4 _ rfl) n os
        have x0 := fun n os => cell_form blt RB.d0 n os
        have x1 := fun n os => cell_form blt RB.d1 n os
        have x2 := fun n os => cell_form blt RB.d2 n os
        have x3 := fun n os => cell_form blt RB.d3 n os
        have x4 := fun n os => cell_form blt RB.d4 n os
        have y4 := fun n os => cell_form slt (RC.own.at_ 4 _ rfl) n os
        have y5 := fun n os => cell_form slt (RC.own.at_ 5 _ rfl) n os
        have y6 := fun n os => cell_form slt (RC.own.at_ 6 _ rfl) n os
        have y7 := fun n os => cell_form slt (RC.own.at_ 7 _ rfl) n os
        have y8 := fun n os => cell_form slt (RC.own.at_ 8 _ rfl) n os
        have hbb := build_beat (bce : Int) bcr (bpe : Int) bpr (bep : Int)
        have hqq : ∀ w, (binOp .neq 33 (.agg #[.int .u64 (bce : Int), .int .i64 bcr, .int .u64 (bpe : Int), .int .i64 bpr, .int .u64 (bep : Int)]) (.agg #[.int .u64 (bce : Int), .int .i64 bcr, .int .u64 (bpe : Int), .int .i64 bpr, .int .u64 (bep : Int)])).run Try.prog w = .ok (.bool false) w := fun w => by
          have := neq_beat ⟨bce, bcr, bpe, bpr, bep⟩ ⟨bce, bcr, bpe, bpr, bep⟩ w
          rw [show sameB ⟨bce, bcr, bpe, bpr, bep⟩ ⟨bce, bcr, bpe, bpr, bep⟩ = true from (sameB_iff _ _).2 rfl] at this
          exact this
        have hoo : (o != o) = false := by cases o <;> rfl
        generalize rreachM M5 = rr at *
        have hrr := bne_same rr
        clear hreach RB RC
        refine wp_region_quiet_below (by kernel_rfl) (by kernel_rfl) ?_
        repeat (quiet_step (first | (go_at_call 16; exact calls_below (K1.out _ _)) | (go_at_call 17; exact calls_below (K2.out _ _))))
        refine wpQuiet_nil ?_
        intro _ hw'
        obtain ⟨⟨nq, osq⟩, hw''⟩ := hw'
        subst hw''
        have D11 := D10.later (form_below w10 nq osq)
        have A11 := A10.below (form_below w10 nq osq)
        clear K1 K2 u0 u1 u2 u3 u4 x0 x1 x2 x3 x4 y4 y5 y6 y7 y8 hbb hqq D10 A10 hrr flt blt slt
        generalize (grow (atD w10 nq) osq) = w11 at *
        go_upto_region 32 with fail
        have K3 : Hid (∀ n os, Calls Try.prog 18 #[.pointer (some ⟨g, 0, none⟩)] (grow (atD w11 n) os) fun e w'' => e = .returned (.int .u64 (repochK M5 64 : Nat)) ∧ Below (grow (atD w11 n) os).heap.size (grow (atD w11 n) os) w'') := Lib.hid (fun n os => by rw [← hepoch]; exact eepoch (D11.ear.below (form_below w11 n os)))
        have K4 : Hid (∀ n os, Calls Try.prog 19 #[.agg #[.int .i64 M5.me, .int .i64 M5.n, .int .i64 M5.timeout, .int .i64 M5.now, .slice ao5 M5.all.length cap5]] (grow (atD w11 n) os) fun e w'' => e = .returned (.int .u64 (repochK M5 64 : Nat)) ∧ Below (grow (atD w11 n) os).heap.size (grow (atD w11 n) os) w'') := Lib.hid (fun n os => repoch (D11.at_.below (form_below w11 n os)) cap5)
        have K5 : Hid (∀ n os, Calls Try.prog 20 #[.pointer (some ⟨g, 0, none⟩), .int .u64 (a.s : Int), .agg #[.int .u64 (ce : Int), .int .i64 cr]] (grow (atD w11 n) os) fun e w'' => e = .returned (.int .u64 (rstrangeM M5 a.s ce cr : Nat)) ∧ Below (grow (atD w11 n) os).heap.size (grow (atD w11 n) os) w'') := Lib.hid (fun n os => by rw [← hstr]; exact estrange (D11.ear.below (form_below w11 n os)) a.s ha.s ce cr)
        have K6 : Hid (∀ n os, Calls Try.prog 21 #[.agg #[.int .i64 M5.me, .int .i64 M5.n, .int .i64 M5.timeout, .int .i64 M5.now, .slice ao5 M5.all.length cap5], .int .u64 (a.s : Int), .agg #[.int .u64 (ce : Int), .int .i64 cr]] (grow (atD w11 n) os) fun e w'' => e = .returned (.int .u64 (rstrangeM M5 a.s ce cr : Nat)) ∧ Below (grow (atD w11 n) os).heap.size (grow (atD w11 n) os) w'') := Lib.hid (fun n os => rstrange (D11.at_.below (form_below w11 n os)) cap5 a.s ha.s ce cr)
        have flt := D11.rf.lt
        have klt := A11.lt
        have clt := D11.conf.lt
        have u0 := fun n os => cell_form flt (D11.rf.own.at_ 0 _ rfl) n os
        have u1 := fun n os => cell_form flt (D11.rf.own.at_ 1 _ rfl) n os
        have u2 := fun n os => cell_form flt (D11.rf.own.at_ 2 _ rfl) n os
        have u3 := fun n os => cell_form flt (D11.rf.own.at_ 3 _ rfl) n os
        have u4 := fun n os => cell_form flt (D11.rf.own.at_ 4 _ rfl) n os
        have c7 := fun n os => cell_form klt (A11.own.at_ 7 _ rfl) n os
        have z0 := fun n os => cell_form clt (D11.conf.at_ 0 _ rfl) n os
        have z1 := fun n os => cell_form clt (D11.conf.at_ 1 _ rfl) n os
        generalize repochK M5 64 = re at *
        generalize rstrangeM M5 a.s ce cr = rs at *
        have hre := bne_same re
        have hrs := bne_same rs
        clear hepoch hstr
        refine wp_region_quiet_below (by kernel_rfl) (by kernel_rfl) ?_
        repeat (quiet_step (first | (go_at_call 18; exact calls_below (K3.out _ _)) | (go_at_call 19; exact calls_below (K4.out _ _)) | (go_at_call 20; exact calls_below (K5.out _ _)) | (go_at_call 21; exact calls_below (K6.out _ _))))
        refine wpQuiet_nil ?_
        intro _ hw'
        obtain ⟨⟨nq2, osq2⟩, hw''⟩ := hw'
        subst hw''
        have D12 := Lib.hid (D11.later (form_below w11 nq2 osq2))
        have HR5 := Lib.hid R5
        clear K3 K4 K5 K6 u0 u1 u2 u3 u4 c7 z0 z1 D11 A11 hre hrs flt klt clt R5 hoo
        generalize (grow (atD w11 nq2) osq2) = w12 at *
        go_wp2
        go_roundw
        case rel => exact ⟨i + 1, E5, M5, ao5, cap5, by omega, by go_num, D12.out, HR5.out, HC.out, HML.out⟩
        case measure => simp [intOf]; omega
      by_cases hk2 : a.kind = 2
      · have e0 : (a.kind == 0) = false := by simp [hk0]
        have e1 : (a.kind == 1) = false := by simp [hk1]
        have e2 : (a.kind == 2) = true := by simp [hk2]
        have c0 := A4.own.at_ 0 _ rfl
        have c1 := A4.own.at_ 1 _ rfl
        have c2 := A4.own.at_ 2 _ rfl
        have c3 := A4.own.at_ 3 _ rfl
        have c4 := A4.own.at_ 4 _ rfl
        have c5 := A4.own.at_ 5 _ rfl
        have c6 := A4.own.at_ 6 _ rfl
        have c7 := A4.own.at_ 7 _ rfl
        have H1 := ebeat D4.ear a.p hp0 hp1 a.b ha.b
        go_wp2_with fail
        refine H1.mono ?_
        rintro e w5 ⟨rfl, M5'⟩
        have D5 := D4.first M5' F
        have A5 := A4.grown M5'.gr (by intro e; cases e; exact hgk rfl)
        clear H1 M5' D4 A4
        clear c0 c1 c2 c3 c4 c5 c6 c7
        have c0 := A5.own.at_ 0 _ rfl
        have c1 := A5.own.at_ 1 _ rfl
        have c2 := A5.own.at_ 2 _ rfl
        have c3 := A5.own.at_ 3 _ rfl
        have c4 := A5.own.at_ 4 _ rfl
        have c5 := A5.own.at_ 5 _ rfl
        have c6 := A5.own.at_ 6 _ rfl
        have c7 := A5.own.at_ 7 _ rfl
        have u0 := D5.rf.own.at_ 0 _ rfl
        have u1 := D5.rf.own.at_ 1 _ rfl
        have u2 := D5.rf.own.at_ 2 _ rfl
        have u3 := D5.rf.own.at_ 3 _ rfl
        have u4 := D5.rf.own.at_ 4 _ rfl
        have HR : Calls Try.prog 11 #[.agg #[.int .i64 M.me, .int .i64 M.n, .int .i64 M.timeout, .int .i64 M.now, .slice ao M.all.length cap], .agg #[.int .i64 a.p, .int .i64 0, .bool true, .bool false, .int .u64 (a.b.ce : Int), .int .i64 a.b.cr, .int .u64 (a.b.pe : Int), .int .i64 a.b.pr, .int .u64 (a.b.ep : Int)]] w5 (RaddPost w5 M ⟨a.p, 0, true, false, a.b⟩ ao) := radd D5.at_ cap D5.nil (by omega) ⟨a.p, 0, true, false, a.b⟩ hp0 hp1
        go_wp2_with fail
        refine HR.mono ?_
        rintro e w6 ⟨ao', cap', rfl, R6, N6, F6, B6⟩
        have RB := D5.rf.below B6
        have D6 := D5.put F R6 N6 F6 B6
        have A6 := (A5.below B6).row f #[.int .i64 (addM M ⟨a.p, 0, true, false, a.b⟩).me, .int .i64 (addM M ⟨a.p, 0, true, false, a.b⟩).n, .int .i64 (addM M ⟨a.p, 0, true, false, a.b⟩).timeout, .int .i64 (addM M ⟨a.p, 0, true, false, a.b⟩).now, .slice ao' (addM M ⟨a.p, 0, true, false, a.b⟩).all.length cap'] (fun e => hfk e.symm)
        clear HR R6 N6 F6
        go_upto_region 28 with (refine store_rf rfl (.tmp 12) (.tmp 93) rfl f (addM M ⟨a.p, 0, true, false, a.b⟩).me (addM M ⟨a.p, 0, true, false, a.b⟩).n (addM M ⟨a.p, 0, true, false, a.b⟩).timeout (addM M ⟨a.p, 0, true, false, a.b⟩).now ao' (addM M ⟨a.p, 0, true, false, a.b⟩).all.length cap' rfl rfl RB ?_)
        (try simp only [Act.put])
        clear RB B6 D5 A5
        generalize (w6.setRow f #[.int .i64 (addM M ⟨a.p, 0, true, false, a.b⟩).me, .int .i64 (addM M ⟨a.p, 0, true, false, a.b⟩).n, .int .i64 (addM M ⟨a.p, 0, true, false, a.b⟩).timeout, .int .i64 (addM M ⟨a.p, 0, true, false, a.b⟩).now, .slice ao' (addM M ⟨a.p, 0, true, false, a.b⟩).all.length cap']) = w6s at *
        clear c0 c1 c2 c3 c4 c5 c6 c7
        clear u0 u1 u2 u3 u4
        have R5 : Rel (beatE E a.p a.b) (addM M ⟨a.p, 0, true, false, a.b⟩) := R.beat a.p 0 a.b
        have HC := Lib.hid (show ((beatE E a.p a.b)).clock ≤ ((i + 1 : Nat) : Int) by rw [show (beatE E a.p a.b).clock = E.clock by unfold beatE; split <;> rfl]; omega)
        have HML := Lib.hid (show ((addM M ⟨a.p, 0, true, false, a.b⟩)).all.length ≤ 64 * (i + 1) by have := add_len M ⟨a.p, 0, true, false, a.b⟩; omega)
        have D5 := D6
        have A5 := A6
        clear D6 A6 R
        obtain ⟨E5, hE5⟩ : ∃ E5, E5 = (beatE E a.p a.b) := ⟨_, rfl⟩
        obtain ⟨M5, hM5⟩ : ∃ M5, M5 = (addM M ⟨a.p, 0, true, false, a.b⟩) := ⟨_, rfl⟩
        rw [← hE5] at D5 HC R5
        rw [← hM5] at D5 HML R5
        clear hE5 hM5
        obtain ⟨ao5, hao5⟩ : ∃ ao5, ao5 = ao' := ⟨_, rfl⟩
        obtain ⟨cap5, hcap5⟩ : ∃ cap5, cap5 = cap' := ⟨_, rfl⟩
        rw [← hao5, ← hcap5] at D5
        clear hao5 hcap5
        clear hp0 hp1 hEok hMok
        have hp0 := ha.p0
        have hp1 := ha.p1
        have HOE := eof D5.ear a.p hp0 hp1
        have ho := R5.of a.p
        rw [ho.1, ho.2, ← sdO_b] at HOE
        have HRO : Hid (∀ w', RfAt w' M5 ao5 → Calls Try.prog 15 #[.agg #[.int .i64 M5.me, .int .i64 M5.n, .int .i64 M5.timeout, .int .i64 M5.now, .slice ao5 M5.all.length cap5], .int .i64 a.p] w' fun e w'' => e = .returned (.tuple #[.agg #[.int .i64 (sdO (ofT M5.all a.p)).p, .int .i64 (sdO (ofT M5.all a.p)).at_, .bool (sdO (ofT M5.all a.p)).beat, .bool (sdO (ofT M5.all a.p)).gone, .int .u64 ((sdO (ofT M5.all a.p)).b.ce : Int), .int .i64 (sdO (ofT M5.all a.p)).b.cr, .int .u64 ((sdO (ofT M5.all a.p)).b.pe : Int), .int .i64 (sdO (ofT M5.all a.p)).b.pr, .int .u64 ((sdO (ofT M5.all a.p)).b.ep : Int)], .bool (ofT M5.all a.p).isSome]) ∧ Below w'.heap.size w' w'') := Lib.hid (fun w' h => rof h cap5 a.p ha.p0 ha.p1)
        clear ho
        generalize sdO (ofT M5.all a.p) = sd at *
        generalize (ofT M5.all a.p).isSome = o at *
        have hreach := R5.reach D5.ear.ok
        have hepoch := R5.epoch
        have hstr := R5.strange a.s ce cr
        have c1 := A5.own.at_ 1 _ rfl
        go_upto_region 29 with (first | (go_at_call 14; refine HOE.mono ?_; rintro e w7 ⟨rfl, B7⟩) | (refine store_bt rfl (.tmp 16) (.tmp 119) rfl w7.heap.size sd.b rfl rfl (BtB.zero w7) ?_))
        (try simp only [Act.put])
        obtain ⟨RB, LB⟩ := btb_put w7 sd.b
        have D8 := (D5.later B7).later LB
        have A8 := (A5.below B7).below LB
        clear LB B7 HOE D5 A5 c1
        generalize ((w7.alloc (.cells #[.int .u64 0, .int .i64 0, .int .u64 0, .int .i64 0, .int .u64 0] 33)).setRow w7.heap.size #[.int .u64 (sd.b.ce : Int), .int .i64 sd.b.cr, .int .u64 (sd.b.pe : Int), .int .i64 sd.b.pr, .int .u64 (sd.b.ep : Int)]) = w8 at *
        generalize w7.heap.size = bx at *
        have HOF := HRO.out w8 D8.at_
        have c1 := A8.own.at_ 1 _ rfl
        have u0 := D8.rf.own.at_ 0 _ rfl
        have u1 := D8.rf.own.at_ 1 _ rfl
        have u2 := D8.rf.own.at_ 2 _ rfl
        have u3 := D8.rf.own.at_ 3 _ rfl
        have u4 := D8.rf.own.at_ 4 _ rfl
        clear HRO
        go_upto_region 30 with (first | (go_at_call 15; refine HOF.mono ?_; rintro e w9 ⟨rfl, B9⟩) | (refine store_sd rfl (.tmp 18) (.tmp 126) rfl w9.heap.size sd rfl rfl (SdB.zero w9) ?_))
        (try simp only [Act.put])
        obtain ⟨RC, LC⟩ := sd_put w9 sd
        have D10 := (D8.later B9).later LC
        have A10 := (A8.below B9).below LC
        have RB := (RB.below B9).below LC
        clear LC B9 HOF D8 A8 c1 u0 u1 u2 u3 u4
        generalize ((w9.alloc (.cells #[.int .i64 0, .int .i64 0, .bool false, .bool false, .int .u64 0, .int .i64 0, .int .u64 0, .int .i64 0, .int .u64 0] 39)).setRow w9.heap.size #[.int .i64 sd.p, .int .i64 sd.at_, .bool sd.beat, .bool sd.gone, .int .u64 (sd.b.ce : Int), .int .i64 sd.b.cr, .int .u64 (sd.b.pe : Int), .int .i64 sd.b.pr, .int .u64 (sd.b.ep : Int)]) = w10 at *
        generalize w9.heap.size = sx at *
        obtain ⟨sp, sa, sbt, sg, bce, bcr, bpe, bpr, bep⟩ := sd
        simp only at RB RC ⊢
        have K1 : Hid (∀ n os, Calls Try.prog 16 #[.pointer (some ⟨g, 0, none⟩)] (grow (atD w10 n) os) fun e w'' => e = .returned (.int .u64 (rreachM M5 : Nat)) ∧ Below (grow (atD w10 n) os).heap.size (grow (atD w10 n) os) w'') := Lib.hid (fun n os => by rw [← hreach]; exact ereach (D10.ear.below (form_below w10 n os)))
        have K2 : Hid (∀ n os, Calls Try.prog 17 #[.agg #[.int .i64 M5.me, .int .i64 M5.n, .int .i64 M5.timeout, .int .i64 M5.now, .slice ao5 M5.all.length cap5]] (grow (atD w10 n) os) fun e w'' => e = .returned (.int .u64 (rreachM M5 : Nat)) ∧ Below (grow (atD w10 n) os).heap.size (grow (atD w10 n) os) w'') := Lib.hid (fun n os => rreach (D10.at_.below (form_below w10 n os)) cap5)
        have flt := D10.rf.lt
        have blt := RB.lt
        have slt := RC.lt
        have u0 := fun n os => cell_form flt (D10.rf.own.at_ 0 _ rfl) n os
        have u1 := fun n os => cell_form flt (D10.rf.own.at_ 1 _ rfl) n os
        have u2 := fun n os => cell_form flt (D10.rf.own.at_ 2 _ rfl) n os
        have u3 := fun n os => cell_form flt (D10.rf.own.at_ 3 _ rfl) n os
        have u4 := fun n os => cell_form flt (D10.rf.own.at_ 4 _ rfl) n os
        have x0 := fun n os => cell_form blt RB.d0 n os
        have x1 := fun n os => cell_form blt RB.d1 n os
        have x2 := fun n os => cell_form blt RB.d2 n os
        have x3 := fun n os => cell_form blt RB.d3 n os
        have x4 := fun n os => cell_form blt RB.d4 n os
        have y4 := fun n os => cell_form slt (RC.own.at_ 4 _ rfl) n os
        have y5 := fun n os => cell_form slt (RC.own.at_ 5 _ rfl) n os
        have y6 := fun n os => cell_form slt (RC.own.at_ 6 _ rfl) n os
        have y7 := fun n os => cell_form slt (RC.own.at_ 7 _ rfl) n os
        have y8 := fun n os => cell_form slt (RC.own.at_ 8 _ rfl) n os
        have hbb := build_beat (bce : Int) bcr (bpe : Int) bpr (bep : Int)
        have hqq : ∀ w, (binOp .neq 33 (.agg #[.int .u64 (bce : Int), .int .i64 bcr, .int .u64 (bpe : Int), .int .i64 bpr, .int .u64 (bep : Int)]) (.agg #[.int .u64 (bce : Int), .int .i64 bcr, .int .u64 (bpe : Int), .int .i64 bpr, .int .u64 (bep : Int)])).run Try.prog w = .ok (.bool false) w := fun w => by
          have := neq_beat ⟨bce, bcr, bpe, bpr, bep⟩ ⟨bce, bcr, bpe, bpr, bep⟩ w
          rw [show sameB ⟨bce, bcr, bpe, bpr, bep⟩ ⟨bce, bcr, bpe, bpr, bep⟩ = true from (sameB_iff _ _).2 rfl] at this
          exact this
        have hoo : (o != o) = false := by cases o <;> rfl
        generalize rreachM M5 = rr at *
        have hrr := bne_same rr
        clear hreach RB RC
        refine wp_region_quiet_below (by kernel_rfl) (by kernel_rfl) ?_
        repeat (quiet_step (first | (go_at_call 16; exact calls_below (K1.out _ _)) | (go_at_call 17; exact calls_below (K2.out _ _))))
        refine wpQuiet_nil ?_
        intro _ hw'
        obtain ⟨⟨nq, osq⟩, hw''⟩ := hw'
        subst hw''
        have D11 := D10.later (form_below w10 nq osq)
        have A11 := A10.below (form_below w10 nq osq)
        clear K1 K2 u0 u1 u2 u3 u4 x0 x1 x2 x3 x4 y4 y5 y6 y7 y8 hbb hqq D10 A10 hrr flt blt slt
        generalize (grow (atD w10 nq) osq) = w11 at *
        go_upto_region 32 with fail
        have K3 : Hid (∀ n os, Calls Try.prog 18 #[.pointer (some ⟨g, 0, none⟩)] (grow (atD w11 n) os) fun e w'' => e = .returned (.int .u64 (repochK M5 64 : Nat)) ∧ Below (grow (atD w11 n) os).heap.size (grow (atD w11 n) os) w'') := Lib.hid (fun n os => by rw [← hepoch]; exact eepoch (D11.ear.below (form_below w11 n os)))
        have K4 : Hid (∀ n os, Calls Try.prog 19 #[.agg #[.int .i64 M5.me, .int .i64 M5.n, .int .i64 M5.timeout, .int .i64 M5.now, .slice ao5 M5.all.length cap5]] (grow (atD w11 n) os) fun e w'' => e = .returned (.int .u64 (repochK M5 64 : Nat)) ∧ Below (grow (atD w11 n) os).heap.size (grow (atD w11 n) os) w'') := Lib.hid (fun n os => repoch (D11.at_.below (form_below w11 n os)) cap5)
        have K5 : Hid (∀ n os, Calls Try.prog 20 #[.pointer (some ⟨g, 0, none⟩), .int .u64 (a.s : Int), .agg #[.int .u64 (ce : Int), .int .i64 cr]] (grow (atD w11 n) os) fun e w'' => e = .returned (.int .u64 (rstrangeM M5 a.s ce cr : Nat)) ∧ Below (grow (atD w11 n) os).heap.size (grow (atD w11 n) os) w'') := Lib.hid (fun n os => by rw [← hstr]; exact estrange (D11.ear.below (form_below w11 n os)) a.s ha.s ce cr)
        have K6 : Hid (∀ n os, Calls Try.prog 21 #[.agg #[.int .i64 M5.me, .int .i64 M5.n, .int .i64 M5.timeout, .int .i64 M5.now, .slice ao5 M5.all.length cap5], .int .u64 (a.s : Int), .agg #[.int .u64 (ce : Int), .int .i64 cr]] (grow (atD w11 n) os) fun e w'' => e = .returned (.int .u64 (rstrangeM M5 a.s ce cr : Nat)) ∧ Below (grow (atD w11 n) os).heap.size (grow (atD w11 n) os) w'') := Lib.hid (fun n os => rstrange (D11.at_.below (form_below w11 n os)) cap5 a.s ha.s ce cr)
        have flt := D11.rf.lt
        have klt := A11.lt
        have clt := D11.conf.lt
        have u0 := fun n os => cell_form flt (D11.rf.own.at_ 0 _ rfl) n os
        have u1 := fun n os => cell_form flt (D11.rf.own.at_ 1 _ rfl) n os
        have u2 := fun n os => cell_form flt (D11.rf.own.at_ 2 _ rfl) n os
        have u3 := fun n os => cell_form flt (D11.rf.own.at_ 3 _ rfl) n os
        have u4 := fun n os => cell_form flt (D11.rf.own.at_ 4 _ rfl) n os
        have c7 := fun n os => cell_form klt (A11.own.at_ 7 _ rfl) n os
        have z0 := fun n os => cell_form clt (D11.conf.at_ 0 _ rfl) n os
        have z1 := fun n os => cell_form clt (D11.conf.at_ 1 _ rfl) n os
        generalize repochK M5 64 = re at *
        generalize rstrangeM M5 a.s ce cr = rs at *
        have hre := bne_same re
        have hrs := bne_same rs
        clear hepoch hstr
        refine wp_region_quiet_below (by kernel_rfl) (by kernel_rfl) ?_
        repeat (quiet_step (first | (go_at_call 18; exact calls_below (K3.out _ _)) | (go_at_call 19; exact calls_below (K4.out _ _)) | (go_at_call 20; exact calls_below (K5.out _ _)) | (go_at_call 21; exact calls_below (K6.out _ _))))
        refine wpQuiet_nil ?_
        intro _ hw'
        obtain ⟨⟨nq2, osq2⟩, hw''⟩ := hw'
        subst hw''
        have D12 := Lib.hid (D11.later (form_below w11 nq2 osq2))
        have HR5 := Lib.hid R5
        clear K3 K4 K5 K6 u0 u1 u2 u3 u4 c7 z0 z1 D11 A11 hre hrs flt klt clt R5 hoo
        generalize (grow (atD w11 nq2) osq2) = w12 at *
        go_wp2
        go_roundw
        case rel => exact ⟨i + 1, E5, M5, ao5, cap5, by omega, by go_num, D12.out, HR5.out, HC.out, HML.out⟩
        case measure => simp [intOf]; omega
      by_cases hk3 : a.kind = 3
      · have e0 : (a.kind == 0) = false := by simp [hk0]
        have e1 : (a.kind == 1) = false := by simp [hk1]
        have e2 : (a.kind == 2) = false := by simp [hk2]
        have e3 : (a.kind == 3) = true := by simp [hk3]
        have c0 := A4.own.at_ 0 _ rfl
        have c1 := A4.own.at_ 1 _ rfl
        have c2 := A4.own.at_ 2 _ rfl
        have c3 := A4.own.at_ 3 _ rfl
        have c4 := A4.own.at_ 4 _ rfl
        have c5 := A4.own.at_ 5 _ rfl
        have c6 := A4.own.at_ 6 _ rfl
        have c7 := A4.own.at_ 7 _ rfl
        have H1 := eforget D4.ear a.s ha.s
        go_wp2_with fail
        refine H1.mono ?_
        rintro e w5 ⟨rfl, M5'⟩
        have D5 := D4.first M5' F
        have A5 := A4.grown M5'.gr (by intro e; cases e; exact hgk rfl)
        clear H1 M5' D4 A4
        clear c0 c1 c2 c3 c4 c5 c6 c7
        have RG : Rel (goneE E (fun q => decide (q < 0) && a.s.testBit q)) M := by rw [goneK_zero]; exact R
        have HGN := Lib.hid (fun q hq => goneK_next E a.s q hq)
        have HGA := Lib.hid (goneK_all E a.s ha.s)
        have HSB := Lib.hid (fun q => and_bit64 a.s q ha.s)
        obtain ⟨GE, hGE⟩ : ∃ GE : Nat → Er, GE = fun q' => goneE E (fun q => decide (q < q') && a.s.testBit q) := ⟨_, rfl⟩
        have HGO : Hid (∀ q, (GE q).ok) := Lib.hid (fun q => by rw [hGE]; exact ok_gone hEok.out _)
        have HG1 : Hid (∀ q, q < 64 → a.s.testBit q = true → GE (q + 1) = { GE q with recs := upd (GE q).recs q (goneR ((GE q).recs q)) }) := Lib.hid (fun q hq hb => by rw [hGE]; have := HGN.out q hq; rw [if_pos hb] at this; exact this)
        have HG0 : Hid (∀ q, q < 64 → a.s.testBit q = false → GE (q + 1) = GE q) := Lib.hid (fun q hq hb => by rw [hGE]; have := HGN.out q hq; rw [if_neg (by rw [hb]; decide)] at this; exact this)
        have HGZ : Hid (∀ q, q = 64 → GE q = forgetE E a.s) := Lib.hid (fun q hq => by rw [hGE, hq]; exact HGA.out)
        have RG : Rel (GE 0) M := by rw [hGE]; exact RG
        clear hGE HGN HGA R
        go_wp2
        go_loopw [15] (fun sq wr => ∃ (q : Nat) (N : Rf) (ao' : Option Addr) (cap' : Nat), q ≤ 64 ∧ sq = .int .i64 q ∧ HpB w wr g f cb (forgetE E a.s) N ao' cap' ce cr ∧ HaB wr k a ∧ Rel (GE q) N ∧ N.all.length ≤ M.all.length + q) (fun sq _ => 64 - (intOf sq).toNat)
        case atStart => exact ⟨0, M, ao, cap, Nat.zero_le _, rfl, D5, A5, RG, Nat.le_refl _⟩
        case round =>
          obtain ⟨q, N, ao', cap', hq, rfl, DD, AA, RR, hNl⟩ := hrel
          clear D5 A5 RG
          by_cases hq64 : q < 64
          · have c7 := AA.own.at_ 7 _ rfl
            have hsb := HSB.out q
            cases hbit : a.s.testBit q
            · rw [hbit] at hsb
              replace hsb : bits .and .u64 ((a.s : Int) / 2 ^ q) 1 = 0 := hsb
              have RR := Lib.hid (show Rel (GE (q + 1)) N by rw [HG0.out q hq64 hbit]; exact RR)
              have DDH := Lib.hid DD
              have AAH := Lib.hid AA
              clear hbit DD AA
              go_wp2
              go_roundw
              case rel => exact ⟨q + 1, N, ao', cap', by omega, by go_num, DDH.out, AAH.out, RR.out, by omega⟩
              case measure => simp [intOf] <;> omega
            · rw [hbit] at hsb
              replace hsb : bits .and .u64 ((a.s : Int) / 2 ^ q) 1 = 1 := hsb
              have RR2 := Lib.hid (show Rel (GE (q + 1)) (addM N ⟨(q : Int), 0, false, true, bt0⟩) by rw [HG1.out q hq64 hbit]; exact Rel.gone (HGO.out q) RR q hq64 0)
              have HLN := Lib.hid (show (addM N ⟨(q : Int), 0, false, true, bt0⟩).all.length ≤ M.all.length + (q + 1) by have := add_len N ⟨(q : Int), 0, false, true, bt0⟩; omega)
              clear hbit RR
              have u0 := DD.rf.own.at_ 0 _ rfl
              have u1 := DD.rf.own.at_ 1 _ rfl
              have u2 := DD.rf.own.at_ 2 _ rfl
              have u3 := DD.rf.own.at_ 3 _ rfl
              have u4 := DD.rf.own.at_ 4 _ rfl
              have HR : Calls Try.prog 11 #[.agg #[.int .i64 N.me, .int .i64 N.n, .int .i64 N.timeout, .int .i64 N.now, .slice ao' N.all.length cap'], .agg #[.int .i64 (q : Int), .int .i64 0, .bool false, .bool true, .int .u64 0, .int .i64 0, .int .u64 0, .int .i64 0, .int .u64 0]] wr (RaddPost wr N ⟨(q : Int), 0, false, true, bt0⟩ ao') := radd DD.at_ cap' DD.nil (by omega) ⟨(q : Int), 0, false, true, bt0⟩ (by show _ ≤ (q : Int); omega) (by show (q : Int) ≤ _; omega)
              go_wp2_with fail
              refine HR.mono ?_
              rintro e w6 ⟨ao2, cap2, rfl, R6, N6, F6, B6⟩
              have RB := DD.rf.below B6
              have D6 := DD.put F R6 N6 F6 B6
              have A6 := (AA.below B6).row f #[.int .i64 (addM N ⟨(q : Int), 0, false, true, bt0⟩).me, .int .i64 (addM N ⟨(q : Int), 0, false, true, bt0⟩).n, .int .i64 (addM N ⟨(q : Int), 0, false, true, bt0⟩).timeout, .int .i64 (addM N ⟨(q : Int), 0, false, true, bt0⟩).now, .slice ao2 (addM N ⟨(q : Int), 0, false, true, bt0⟩).all.length cap2] (fun e => hfk e.symm)
              have DDH := Lib.hid D6
              have AAH := Lib.hid A6
              clear HR R6 N6 F6 u0 u1 u2 u3 u4 DD AA c7 hsb D6 A6
              generalize addM N ⟨(q : Int), 0, false, true, bt0⟩ = N2 at *
              go_wp2_with (refine store_rf rfl (.tmp 12) (.tmp 113) rfl f N2.me N2.n N2.timeout N2.now ao2 N2.all.length cap2 rfl rfl RB ?_)
              go_roundw
              case rel => exact ⟨q + 1, N2, ao2, cap2, by omega, by go_num, DDH.out, AAH.out, RR2.out, HLN.out⟩
              case measure => simp [intOf] <;> omega
          · have RR := (show Rel (forgetE E a.s) N by rw [← HGZ.out q (by omega)]; exact RR)
            have D6 := DD
            have A6 := AA
            have R := RR
            clear DD AA RR HGZ HG0 HG1 HGO HSB
            go_upto_region 28 with fail
            have R5 : Rel (forgetE E a.s) N := R
            have HC := Lib.hid (show ((forgetE E a.s)).clock ≤ ((i + 1 : Nat) : Int) by show E.clock ≤ _; omega)
            have HML := Lib.hid (show (N).all.length ≤ 64 * (i + 1) by omega)
            have D5 := D6
            have A5 := A6
            clear D6 A6 R
            obtain ⟨E5, hE5⟩ : ∃ E5, E5 = (forgetE E a.s) := ⟨_, rfl⟩
            obtain ⟨M5, hM5⟩ : ∃ M5, M5 = N := ⟨_, rfl⟩
            rw [← hE5] at D5 HC R5
            rw [← hM5] at D5 HML R5
            clear hE5 hM5
            obtain ⟨ao5, hao5⟩ : ∃ ao5, ao5 = ao' := ⟨_, rfl⟩
            obtain ⟨cap5, hcap5⟩ : ∃ cap5, cap5 = cap' := ⟨_, rfl⟩
            rw [← hao5, ← hcap5] at D5
            clear hao5 hcap5
            clear hp0 hp1 hEok hMok
            have hp0 := ha.p0
            have hp1 := ha.p1
            have HOE := eof D5.ear a.p hp0 hp1
            have ho := R5.of a.p
            rw [ho.1, ho.2, ← sdO_b] at HOE
            have HRO : Hid (∀ w', RfAt w' M5 ao5 → Calls Try.prog 15 #[.agg #[.int .i64 M5.me, .int .i64 M5.n, .int .i64 M5.timeout, .int .i64 M5.now, .slice ao5 M5.all.length cap5], .int .i64 a.p] w' fun e w'' => e = .returned (.tuple #[.agg #[.int .i64 (sdO (ofT M5.all a.p)).p, .int .i64 (sdO (ofT M5.all a.p)).at_, .bool (sdO (ofT M5.all a.p)).beat, .bool (sdO (ofT M5.all a.p)).gone, .int .u64 ((sdO (ofT M5.all a.p)).b.ce : Int), .int .i64 (sdO (ofT M5.all a.p)).b.cr, .int .u64 ((sdO (ofT M5.all a.p)).b.pe : Int), .int .i64 (sdO (ofT M5.all a.p)).b.pr, .int .u64 ((sdO (ofT M5.all a.p)).b.ep : Int)], .bool (ofT M5.all a.p).isSome]) ∧ Below w'.heap.size w' w'') := Lib.hid (fun w' h => rof h cap5 a.p ha.p0 ha.p1)
            clear ho
            generalize sdO (ofT M5.all a.p) = sd at *
            generalize (ofT M5.all a.p).isSome = o at *
            have hreach := R5.reach D5.ear.ok
            have hepoch := R5.epoch
            have hstr := R5.strange a.s ce cr
            have c1 := A5.own.at_ 1 _ rfl
            go_upto_region 29 with (first | (go_at_call 14; refine HOE.mono ?_; rintro e w7 ⟨rfl, B7⟩) | (refine store_bt rfl (.tmp 16) (.tmp 119) rfl w7.heap.size sd.b rfl rfl (BtB.zero w7) ?_))
            (try simp only [Act.put])
            obtain ⟨RB, LB⟩ := btb_put w7 sd.b
            have D8 := (D5.later B7).later LB
            have A8 := (A5.below B7).below LB
            clear LB B7 HOE D5 A5 c1
            generalize ((w7.alloc (.cells #[.int .u64 0, .int .i64 0, .int .u64 0, .int .i64 0, .int .u64 0] 33)).setRow w7.heap.size #[.int .u64 (sd.b.ce : Int), .int .i64 sd.b.cr, .int .u64 (sd.b.pe : Int), .int .i64 sd.b.pr, .int .u64 (sd.b.ep : Int)]) = w8 at *
            generalize w7.heap.size = bx at *
            have HOF := HRO.out w8 D8.at_
            have c1 := A8.own.at_ 1 _ rfl
            have u0 := D8.rf.own.at_ 0 _ rfl
            have u1 := D8.rf.own.at_ 1 _ rfl
            have u2 := D8.rf.own.at_ 2 _ rfl
            have u3 := D8.rf.own.at_ 3 _ rfl
            have u4 := D8.rf.own.at_ 4 _ rfl
            clear HRO
            go_upto_region 30 with (first | (go_at_call 15; refine HOF.mono ?_; rintro e w9 ⟨rfl, B9⟩) | (refine store_sd rfl (.tmp 18) (.tmp 126) rfl w9.heap.size sd rfl rfl (SdB.zero w9) ?_))
            (try simp only [Act.put])
            obtain ⟨RC, LC⟩ := sd_put w9 sd
            have D10 := (D8.later B9).later LC
            have A10 := (A8.below B9).below LC
            have RB := (RB.below B9).below LC
            clear LC B9 HOF D8 A8 c1 u0 u1 u2 u3 u4
            generalize ((w9.alloc (.cells #[.int .i64 0, .int .i64 0, .bool false, .bool false, .int .u64 0, .int .i64 0, .int .u64 0, .int .i64 0, .int .u64 0] 39)).setRow w9.heap.size #[.int .i64 sd.p, .int .i64 sd.at_, .bool sd.beat, .bool sd.gone, .int .u64 (sd.b.ce : Int), .int .i64 sd.b.cr, .int .u64 (sd.b.pe : Int), .int .i64 sd.b.pr, .int .u64 (sd.b.ep : Int)]) = w10 at *
            generalize w9.heap.size = sx at *
            obtain ⟨sp, sa, sbt, sg, bce, bcr, bpe, bpr, bep⟩ := sd
            simp only at RB RC ⊢
            have K1 : Hid (∀ n os, Calls Try.prog 16 #[.pointer (some ⟨g, 0, none⟩)] (grow (atD w10 n) os) fun e w'' => e = .returned (.int .u64 (rreachM M5 : Nat)) ∧ Below (grow (atD w10 n) os).heap.size (grow (atD w10 n) os) w'') := Lib.hid (fun n os => by rw [← hreach]; exact ereach (D10.ear.below (form_below w10 n os)))
            have K2 : Hid (∀ n os, Calls Try.prog 17 #[.agg #[.int .i64 M5.me, .int .i64 M5.n, .int .i64 M5.timeout, .int .i64 M5.now, .slice ao5 M5.all.length cap5]] (grow (atD w10 n) os) fun e w'' => e = .returned (.int .u64 (rreachM M5 : Nat)) ∧ Below (grow (atD w10 n) os).heap.size (grow (atD w10 n) os) w'') := Lib.hid (fun n os => rreach (D10.at_.below (form_below w10 n os)) cap5)
            have flt := D10.rf.lt
            have blt := RB.lt
            have slt := RC.lt
            have u0 := fun n os => cell_form flt (D10.rf.own.at_ 0 _ rfl) n os
            have u1 := fun n os => cell_form flt (D10.rf.own.at_ 1 _ rfl) n os
            have u2 := fun n os => cell_form flt (D10.rf.own.at_ 2 _ rfl) n os
            have u3 := fun n os => cell_form flt (D10.rf.own.at_ 3 _ rfl) n os
            have u4 := fun n os => cell_form flt (D10.rf.own.at_ 4 _ rfl) n os
            have x0 := fun n os => cell_form blt RB.d0 n os
            have x1 := fun n os => cell_form blt RB.d1 n os
            have x2 := fun n os => cell_form blt RB.d2 n os
            have x3 := fun n os => cell_form blt RB.d3 n os
            have x4 := fun n os => cell_form blt RB.d4 n os
            have y4 := fun n os => cell_form slt (RC.own.at_ 4 _ rfl) n os
            have y5 := fun n os => cell_form slt (RC.own.at_ 5 _ rfl) n os
            have y6 := fun n os => cell_form slt (RC.own.at_ 6 _ rfl) n os
            have y7 := fun n os => cell_form slt (RC.own.at_ 7 _ rfl) n os
            have y8 := fun n os => cell_form slt (RC.own.at_ 8 _ rfl) n os
            have hbb := build_beat (bce : Int) bcr (bpe : Int) bpr (bep : Int)
            have hqq : ∀ w, (binOp .neq 33 (.agg #[.int .u64 (bce : Int), .int .i64 bcr, .int .u64 (bpe : Int), .int .i64 bpr, .int .u64 (bep : Int)]) (.agg #[.int .u64 (bce : Int), .int .i64 bcr, .int .u64 (bpe : Int), .int .i64 bpr, .int .u64 (bep : Int)])).run Try.prog w = .ok (.bool false) w := fun w => by
              have := neq_beat ⟨bce, bcr, bpe, bpr, bep⟩ ⟨bce, bcr, bpe, bpr, bep⟩ w
              rw [show sameB ⟨bce, bcr, bpe, bpr, bep⟩ ⟨bce, bcr, bpe, bpr, bep⟩ = true from (sameB_iff _ _).2 rfl] at this
              exact this
            have hoo : (o != o) = false := by cases o <;> rfl
            generalize rreachM M5 = rr at *
            have hrr := bne_same rr
            clear hreach RB RC
            refine wp_region_quiet_below (by kernel_rfl) (by kernel_rfl) ?_
            repeat (quiet_step (first | (go_at_call 16; exact calls_below (K1.out _ _)) | (go_at_call 17; exact calls_below (K2.out _ _))))
            refine wpQuiet_nil ?_
            intro _ hw'
            obtain ⟨⟨nq, osq⟩, hw''⟩ := hw'
            subst hw''
            have D11 := D10.later (form_below w10 nq osq)
            have A11 := A10.below (form_below w10 nq osq)
            clear K1 K2 u0 u1 u2 u3 u4 x0 x1 x2 x3 x4 y4 y5 y6 y7 y8 hbb hqq D10 A10 hrr flt blt slt
            generalize (grow (atD w10 nq) osq) = w11 at *
            go_upto_region 32 with fail
            have K3 : Hid (∀ n os, Calls Try.prog 18 #[.pointer (some ⟨g, 0, none⟩)] (grow (atD w11 n) os) fun e w'' => e = .returned (.int .u64 (repochK M5 64 : Nat)) ∧ Below (grow (atD w11 n) os).heap.size (grow (atD w11 n) os) w'') := Lib.hid (fun n os => by rw [← hepoch]; exact eepoch (D11.ear.below (form_below w11 n os)))
            have K4 : Hid (∀ n os, Calls Try.prog 19 #[.agg #[.int .i64 M5.me, .int .i64 M5.n, .int .i64 M5.timeout, .int .i64 M5.now, .slice ao5 M5.all.length cap5]] (grow (atD w11 n) os) fun e w'' => e = .returned (.int .u64 (repochK M5 64 : Nat)) ∧ Below (grow (atD w11 n) os).heap.size (grow (atD w11 n) os) w'') := Lib.hid (fun n os => repoch (D11.at_.below (form_below w11 n os)) cap5)
            have K5 : Hid (∀ n os, Calls Try.prog 20 #[.pointer (some ⟨g, 0, none⟩), .int .u64 (a.s : Int), .agg #[.int .u64 (ce : Int), .int .i64 cr]] (grow (atD w11 n) os) fun e w'' => e = .returned (.int .u64 (rstrangeM M5 a.s ce cr : Nat)) ∧ Below (grow (atD w11 n) os).heap.size (grow (atD w11 n) os) w'') := Lib.hid (fun n os => by rw [← hstr]; exact estrange (D11.ear.below (form_below w11 n os)) a.s ha.s ce cr)
            have K6 : Hid (∀ n os, Calls Try.prog 21 #[.agg #[.int .i64 M5.me, .int .i64 M5.n, .int .i64 M5.timeout, .int .i64 M5.now, .slice ao5 M5.all.length cap5], .int .u64 (a.s : Int), .agg #[.int .u64 (ce : Int), .int .i64 cr]] (grow (atD w11 n) os) fun e w'' => e = .returned (.int .u64 (rstrangeM M5 a.s ce cr : Nat)) ∧ Below (grow (atD w11 n) os).heap.size (grow (atD w11 n) os) w'') := Lib.hid (fun n os => rstrange (D11.at_.below (form_below w11 n os)) cap5 a.s ha.s ce cr)
            have flt := D11.rf.lt
            have klt := A11.lt
            have clt := D11.conf.lt
            have u0 := fun n os => cell_form flt (D11.rf.own.at_ 0 _ rfl) n os
            have u1 := fun n os => cell_form flt (D11.rf.own.at_ 1 _ rfl) n os
            have u2 := fun n os => cell_form flt (D11.rf.own.at_ 2 _ rfl) n os
            have u3 := fun n os => cell_form flt (D11.rf.own.at_ 3 _ rfl) n os
            have u4 := fun n os => cell_form flt (D11.rf.own.at_ 4 _ rfl) n os
            have c7 := fun n os => cell_form klt (A11.own.at_ 7 _ rfl) n os
            have z0 := fun n os => cell_form clt (D11.conf.at_ 0 _ rfl) n os
            have z1 := fun n os => cell_form clt (D11.conf.at_ 1 _ rfl) n os
            generalize repochK M5 64 = re at *
            generalize rstrangeM M5 a.s ce cr = rs at *
            have hre := bne_same re
            have hrs := bne_same rs
            clear hepoch hstr
            refine wp_region_quiet_below (by kernel_rfl) (by kernel_rfl) ?_
            repeat (quiet_step (first | (go_at_call 18; exact calls_below (K3.out _ _)) | (go_at_call 19; exact calls_below (K4.out _ _)) | (go_at_call 20; exact calls_below (K5.out _ _)) | (go_at_call 21; exact calls_below (K6.out _ _))))
            refine wpQuiet_nil ?_
            intro _ hw'
            obtain ⟨⟨nq2, osq2⟩, hw''⟩ := hw'
            subst hw''
            have D12 := Lib.hid (D11.later (form_below w11 nq2 osq2))
            have HR5 := Lib.hid R5
            clear K3 K4 K5 K6 u0 u1 u2 u3 u4 c7 z0 z1 D11 A11 hre hrs flt klt clt R5 hoo
            generalize (grow (atD w11 nq2) osq2) = w12 at *
            go_wp2
            go_roundw
            case rel => exact ⟨i + 1, E5, M5, ao5, cap5, by omega, by go_num, D12.out, HR5.out, HC.out, HML.out⟩
            case measure => simp [intOf]; omega
      have e0 : (a.kind == 0) = false := by simp [hk0]
      have e1 : (a.kind == 1) = false := by simp [hk1]
      have e2 : (a.kind == 2) = false := by simp [hk2]
      have e3 : (a.kind == 3) = false := by simp [hk3]
      have c0 := A4.own.at_ 0 _ rfl
      have c1 := A4.own.at_ 1 _ rfl
      have c2 := A4.own.at_ 2 _ rfl
      have c3 := A4.own.at_ 3 _ rfl
      have c4 := A4.own.at_ 4 _ rfl
      have c5 := A4.own.at_ 5 _ rfl
      have c6 := A4.own.at_ 6 _ rfl
      have c7 := A4.own.at_ 7 _ rfl
      go_upto_region 28 with fail
      clear c0 c1 c2 c3 c4 c5 c6 c7
      have R5 : Rel E M := R
      have HC := Lib.hid (show (E).clock ≤ ((i + 1 : Nat) : Int) by omega)
      have HML := Lib.hid (show (M).all.length ≤ 64 * (i + 1) by omega)
      have D5 := D4
      have A5 := A4
      clear D4 A4 R
      obtain ⟨E5, hE5⟩ : ∃ E5, E5 = E := ⟨_, rfl⟩
      obtain ⟨M5, hM5⟩ : ∃ M5, M5 = M := ⟨_, rfl⟩
      rw [← hE5] at D5 HC R5
      rw [← hM5] at D5 HML R5
      clear hE5 hM5
      obtain ⟨ao5, hao5⟩ : ∃ ao5, ao5 = ao := ⟨_, rfl⟩
      obtain ⟨cap5, hcap5⟩ : ∃ cap5, cap5 = cap := ⟨_, rfl⟩
      rw [← hao5, ← hcap5] at D5
      clear hao5 hcap5
      clear hp0 hp1 hEok hMok
      have hp0 := ha.p0
      have hp1 := ha.p1
      have HOE := eof D5.ear a.p hp0 hp1
      have ho := R5.of a.p
      rw [ho.1, ho.2, ← sdO_b] at HOE
      have HRO : Hid (∀ w', RfAt w' M5 ao5 → Calls Try.prog 15 #[.agg #[.int .i64 M5.me, .int .i64 M5.n, .int .i64 M5.timeout, .int .i64 M5.now, .slice ao5 M5.all.length cap5], .int .i64 a.p] w' fun e w'' => e = .returned (.tuple #[.agg #[.int .i64 (sdO (ofT M5.all a.p)).p, .int .i64 (sdO (ofT M5.all a.p)).at_, .bool (sdO (ofT M5.all a.p)).beat, .bool (sdO (ofT M5.all a.p)).gone, .int .u64 ((sdO (ofT M5.all a.p)).b.ce : Int), .int .i64 (sdO (ofT M5.all a.p)).b.cr, .int .u64 ((sdO (ofT M5.all a.p)).b.pe : Int), .int .i64 (sdO (ofT M5.all a.p)).b.pr, .int .u64 ((sdO (ofT M5.all a.p)).b.ep : Int)], .bool (ofT M5.all a.p).isSome]) ∧ Below w'.heap.size w' w'') := Lib.hid (fun w' h => rof h cap5 a.p ha.p0 ha.p1)
      clear ho
      generalize sdO (ofT M5.all a.p) = sd at *
      generalize (ofT M5.all a.p).isSome = o at *
      have hreach := R5.reach D5.ear.ok
      have hepoch := R5.epoch
      have hstr := R5.strange a.s ce cr
      have c1 := A5.own.at_ 1 _ rfl
      go_upto_region 29 with (first | (go_at_call 14; refine HOE.mono ?_; rintro e w7 ⟨rfl, B7⟩) | (refine store_bt rfl (.tmp 16) (.tmp 119) rfl w7.heap.size sd.b rfl rfl (BtB.zero w7) ?_))
      (try simp only [Act.put])
      obtain ⟨RB, LB⟩ := btb_put w7 sd.b
      have D8 := (D5.later B7).later LB
      have A8 := (A5.below B7).below LB
      clear LB B7 HOE D5 A5 c1
      generalize ((w7.alloc (.cells #[.int .u64 0, .int .i64 0, .int .u64 0, .int .i64 0, .int .u64 0] 33)).setRow w7.heap.size #[.int .u64 (sd.b.ce : Int), .int .i64 sd.b.cr, .int .u64 (sd.b.pe : Int), .int .i64 sd.b.pr, .int .u64 (sd.b.ep : Int)]) = w8 at *
      generalize w7.heap.size = bx at *
      have HOF := HRO.out w8 D8.at_
      have c1 := A8.own.at_ 1 _ rfl
      have u0 := D8.rf.own.at_ 0 _ rfl
      have u1 := D8.rf.own.at_ 1 _ rfl
      have u2 := D8.rf.own.at_ 2 _ rfl
      have u3 := D8.rf.own.at_ 3 _ rfl
      have u4 := D8.rf.own.at_ 4 _ rfl
      clear HRO
      go_upto_region 30 with (first | (go_at_call 15; refine HOF.mono ?_; rintro e w9 ⟨rfl, B9⟩) | (refine store_sd rfl (.tmp 18) (.tmp 126) rfl w9.heap.size sd rfl rfl (SdB.zero w9) ?_))
      (try simp only [Act.put])
      obtain ⟨RC, LC⟩ := sd_put w9 sd
      have D10 := (D8.later B9).later LC
      have A10 := (A8.below B9).below LC
      have RB := (RB.below B9).below LC
      clear LC B9 HOF D8 A8 c1 u0 u1 u2 u3 u4
      generalize ((w9.alloc (.cells #[.int .i64 0, .int .i64 0, .bool false, .bool false, .int .u64 0, .int .i64 0, .int .u64 0, .int .i64 0, .int .u64 0] 39)).setRow w9.heap.size #[.int .i64 sd.p, .int .i64 sd.at_, .bool sd.beat, .bool sd.gone, .int .u64 (sd.b.ce : Int), .int .i64 sd.b.cr, .int .u64 (sd.b.pe : Int), .int .i64 sd.b.pr, .int .u64 (sd.b.ep : Int)]) = w10 at *
      generalize w9.heap.size = sx at *
      obtain ⟨sp, sa, sbt, sg, bce, bcr, bpe, bpr, bep⟩ := sd
      simp only at RB RC ⊢
      have K1 : Hid (∀ n os, Calls Try.prog 16 #[.pointer (some ⟨g, 0, none⟩)] (grow (atD w10 n) os) fun e w'' => e = .returned (.int .u64 (rreachM M5 : Nat)) ∧ Below (grow (atD w10 n) os).heap.size (grow (atD w10 n) os) w'') := Lib.hid (fun n os => by rw [← hreach]; exact ereach (D10.ear.below (form_below w10 n os)))
      have K2 : Hid (∀ n os, Calls Try.prog 17 #[.agg #[.int .i64 M5.me, .int .i64 M5.n, .int .i64 M5.timeout, .int .i64 M5.now, .slice ao5 M5.all.length cap5]] (grow (atD w10 n) os) fun e w'' => e = .returned (.int .u64 (rreachM M5 : Nat)) ∧ Below (grow (atD w10 n) os).heap.size (grow (atD w10 n) os) w'') := Lib.hid (fun n os => rreach (D10.at_.below (form_below w10 n os)) cap5)
      have flt := D10.rf.lt
      have blt := RB.lt
      have slt := RC.lt
      have u0 := fun n os => cell_form flt (D10.rf.own.at_ 0 _ rfl) n os
      have u1 := fun n os => cell_form flt (D10.rf.own.at_ 1 _ rfl) n os
      have u2 := fun n os => cell_form flt (D10.rf.own.at_ 2 _ rfl) n os
      have u3 := fun n os => cell_form flt (D10.rf.own.at_ 3 _ rfl) n os
      have u4 := fun n os => cell_form flt (D10.rf.own.at_ 4 _ rfl) n os
      have x0 := fun n os => cell_form blt RB.d0 n os
      have x1 := fun n os => cell_form blt RB.d1 n os
      have x2 := fun n os => cell_form blt RB.d2 n os
      have x3 := fun n os => cell_form blt RB.d3 n os
      have x4 := fun n os => cell_form blt RB.d4 n os
      have y4 := fun n os => cell_form slt (RC.own.at_ 4 _ rfl) n os
      have y5 := fun n os => cell_form slt (RC.own.at_ 5 _ rfl) n os
      have y6 := fun n os => cell_form slt (RC.own.at_ 6 _ rfl) n os
      have y7 := fun n os => cell_form slt (RC.own.at_ 7 _ rfl) n os
      have y8 := fun n os => cell_form slt (RC.own.at_ 8 _ rfl) n os
      have hbb := build_beat (bce : Int) bcr (bpe : Int) bpr (bep : Int)
      have hqq : ∀ w, (binOp .neq 33 (.agg #[.int .u64 (bce : Int), .int .i64 bcr, .int .u64 (bpe : Int), .int .i64 bpr, .int .u64 (bep : Int)]) (.agg #[.int .u64 (bce : Int), .int .i64 bcr, .int .u64 (bpe : Int), .int .i64 bpr, .int .u64 (bep : Int)])).run Try.prog w = .ok (.bool false) w := fun w => by
        have := neq_beat ⟨bce, bcr, bpe, bpr, bep⟩ ⟨bce, bcr, bpe, bpr, bep⟩ w
        rw [show sameB ⟨bce, bcr, bpe, bpr, bep⟩ ⟨bce, bcr, bpe, bpr, bep⟩ = true from (sameB_iff _ _).2 rfl] at this
        exact this
      have hoo : (o != o) = false := by cases o <;> rfl
      generalize rreachM M5 = rr at *
      have hrr := bne_same rr
      clear hreach RB RC
      refine wp_region_quiet_below (by kernel_rfl) (by kernel_rfl) ?_
      repeat (quiet_step (first | (go_at_call 16; exact calls_below (K1.out _ _)) | (go_at_call 17; exact calls_below (K2.out _ _))))
      refine wpQuiet_nil ?_
      intro _ hw'
      obtain ⟨⟨nq, osq⟩, hw''⟩ := hw'
      subst hw''
      have D11 := D10.later (form_below w10 nq osq)
      have A11 := A10.below (form_below w10 nq osq)
      clear K1 K2 u0 u1 u2 u3 u4 x0 x1 x2 x3 x4 y4 y5 y6 y7 y8 hbb hqq D10 A10 hrr flt blt slt
      generalize (grow (atD w10 nq) osq) = w11 at *
      go_upto_region 32 with fail
      have K3 : Hid (∀ n os, Calls Try.prog 18 #[.pointer (some ⟨g, 0, none⟩)] (grow (atD w11 n) os) fun e w'' => e = .returned (.int .u64 (repochK M5 64 : Nat)) ∧ Below (grow (atD w11 n) os).heap.size (grow (atD w11 n) os) w'') := Lib.hid (fun n os => by rw [← hepoch]; exact eepoch (D11.ear.below (form_below w11 n os)))
      have K4 : Hid (∀ n os, Calls Try.prog 19 #[.agg #[.int .i64 M5.me, .int .i64 M5.n, .int .i64 M5.timeout, .int .i64 M5.now, .slice ao5 M5.all.length cap5]] (grow (atD w11 n) os) fun e w'' => e = .returned (.int .u64 (repochK M5 64 : Nat)) ∧ Below (grow (atD w11 n) os).heap.size (grow (atD w11 n) os) w'') := Lib.hid (fun n os => repoch (D11.at_.below (form_below w11 n os)) cap5)
      have K5 : Hid (∀ n os, Calls Try.prog 20 #[.pointer (some ⟨g, 0, none⟩), .int .u64 (a.s : Int), .agg #[.int .u64 (ce : Int), .int .i64 cr]] (grow (atD w11 n) os) fun e w'' => e = .returned (.int .u64 (rstrangeM M5 a.s ce cr : Nat)) ∧ Below (grow (atD w11 n) os).heap.size (grow (atD w11 n) os) w'') := Lib.hid (fun n os => by rw [← hstr]; exact estrange (D11.ear.below (form_below w11 n os)) a.s ha.s ce cr)
      have K6 : Hid (∀ n os, Calls Try.prog 21 #[.agg #[.int .i64 M5.me, .int .i64 M5.n, .int .i64 M5.timeout, .int .i64 M5.now, .slice ao5 M5.all.length cap5], .int .u64 (a.s : Int), .agg #[.int .u64 (ce : Int), .int .i64 cr]] (grow (atD w11 n) os) fun e w'' => e = .returned (.int .u64 (rstrangeM M5 a.s ce cr : Nat)) ∧ Below (grow (atD w11 n) os).heap.size (grow (atD w11 n) os) w'') := Lib.hid (fun n os => rstrange (D11.at_.below (form_below w11 n os)) cap5 a.s ha.s ce cr)
      have flt := D11.rf.lt
      have klt := A11.lt
      have clt := D11.conf.lt
      have u0 := fun n os => cell_form flt (D11.rf.own.at_ 0 _ rfl) n os
      have u1 := fun n os => cell_form flt (D11.rf.own.at_ 1 _ rfl) n os
      have u2 := fun n os => cell_form flt (D11.rf.own.at_ 2 _ rfl) n os
      have u3 := fun n os => cell_form flt (D11.rf.own.at_ 3 _ rfl) n os
      have u4 := fun n os => cell_form flt (D11.rf.own.at_ 4 _ rfl) n os
      have c7 := fun n os => cell_form klt (A11.own.at_ 7 _ rfl) n os
      have z0 := fun n os => cell_form clt (D11.conf.at_ 0 _ rfl) n os
      have z1 := fun n os => cell_form clt (D11.conf.at_ 1 _ rfl) n os
      generalize repochK M5 64 = re at *
      generalize rstrangeM M5 a.s ce cr = rs at *
      have hre := bne_same re
      have hrs := bne_same rs
      clear hepoch hstr
      refine wp_region_quiet_below (by kernel_rfl) (by kernel_rfl) ?_
      repeat (quiet_step (first | (go_at_call 18; exact calls_below (K3.out _ _)) | (go_at_call 19; exact calls_below (K4.out _ _)) | (go_at_call 20; exact calls_below (K5.out _ _)) | (go_at_call 21; exact calls_below (K6.out _ _))))
      refine wpQuiet_nil ?_
      intro _ hw'
      obtain ⟨⟨nq2, osq2⟩, hw''⟩ := hw'
      subst hw''
      have D12 := Lib.hid (D11.later (form_below w11 nq2 osq2))
      have HR5 := Lib.hid R5
      clear K3 K4 K5 K6 u0 u1 u2 u3 u4 c7 z0 z1 D11 A11 hre hrs flt klt clt R5 hoo
      generalize (grow (atD w11 nq2) osq2) = w12 at *
      go_wp2
      go_roundw
      case rel => exact ⟨i + 1, E5, M5, ao5, cap5, by omega, by go_num, D12.out, HR5.out, HC.out, HML.out⟩
      case measure => simp [intOf]; omega
    · have HLL := Lib.hid D.below
      clear D R
      go_wp2
      go_ret
      exact ⟨rfl, by rw [HCB.out] at HLL ⊢; exact HLL.out⟩
theorem walk_HeardPlays {w : World} (me : Int) (wm : (Lit.int .i64 me).wf = true) (n : Int) (wn : (Lit.int .i64 n).wf = true) (T : Int) (wT : (Lit.int .i64 T).wf = true) (ao : Option Addr) (len cap : Nat) (l : List HA) (hl : Lst encH 8 w ao len l ∧ len ≤ maxLen ∧ ∀ m ∈ l, m.ok) (ce : Nat) (cr : Int) :
    Calls Try.prog 3 #[.int .i64 me, .int .i64 n, .int .i64 T, .slice ao len cap, .agg #[.int .u64 (ce : Int), .int .i64 cr]] w fun e w' => e = .returned (.bool true) ∧ Below w.heap.size w w' := by
  have b0 := Go.bounds_i64 wm
  have b1 := Go.bounds_i64 wn
  have b2 := Go.bounds_i64 wT
  exact full_HeardPlays me n T (by omega) (by omega) (by omega) (by omega) (by omega) (by omega) ao len cap l ce cr w hl.1 hl.2.1 hl.2.2
end Go.Proofs.Ytcjbjcojmjfmaaa
