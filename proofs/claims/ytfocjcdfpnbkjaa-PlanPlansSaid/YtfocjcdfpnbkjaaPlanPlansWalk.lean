/- The walk of PlanPlans. -/
import Derived.Test.YtfocjcdfpnbkjaaPlRefA
import Derived.Test.YtfocjcdfpnbkjaaPlRefB
import Derived.Test.YtfocjcdfpnbkjaaPlRefC
import Derived.Test.YtfocjcdfpnbkjaaPlRefD
set_option linter.unusedVariables false
set_option maxRecDepth 100000
set_option linter.unusedSimpArgs false
namespace Go.Proofs.Ytfocjcdfpnbkjaa
open Go.RowKit Go.Sort Go.Shelf Go.Maps

theorem held_gap15 : Try.prog.stoodInHeld 106 = false := by kernel_rfl
theorem eq_gap15 (k : Nat) (a b c d : Int) (w : World) : (Op.equalIn (k + 2) 106 (.agg #[.int .i64 a, .int .i64 b, .int .u32 c, .int .u32 d]) (.agg #[.int .i64 a, .int .i64 b, .int .u32 c, .int .u32 d])).run Try.prog w = .ok true w := by
  have hp := held_gap15
  go_simp
theorem gapK_more (f : Nat → Wh) (cnt : List Int) (k : Nat) : ∀ j, ∃ r, gapK f cnt (k + j) = gapK f cnt k ++ r
  | 0 => ⟨[], by simp⟩
  | j + 1 => by
    obtain ⟨r, hr⟩ := gapK_more f cnt k j
    refine ⟨r ++ (if cnt.getD (k + j) 0 < (f (k + j)).n then [⟨((k + j : Nat) : Int), (f (k + j)).h, cnt.getD (k + j) 0 + 1, (f (k + j)).n⟩] else []), ?_⟩
    show gapK f cnt (k + j) ++ _ = _
    rw [hr, List.append_assoc]
    rfl
theorem gapK_no {f : Nat → Wh} {cnt : List Int} {k : Nat} (h : ¬ cnt.getD k 0 < (f k).n) : gapK f cnt (k + 1) = gapK f cnt k := by
  show gapK f cnt k ++ _ = _
  rw [if_neg h, List.append_nil]
theorem gapK_yes {f : Nat → Wh} {cnt : List Int} {k : Nat} (h : cnt.getD k 0 < (f k).n) : gapK f cnt (k + 1) = gapK f cnt k ++ [⟨(k : Int), (f k).h, cnt.getD k 0 + 1, (f k).n⟩] := by
  show gapK f cnt k ++ _ = _
  rw [if_pos h]
theorem gapK_at {f : Nat → Wh} {cnt : List Int} {k : Nat} (hk : k < 64) (h : cnt.getD k 0 < (f k).n) : (gapK f cnt 64)[(gapK f cnt k).length]? = some ⟨(k : Int), (f k).h, cnt.getD k 0 + 1, (f k).n⟩ := by
  obtain ⟨r, hr⟩ := gapK_more f cnt (k + 1) (64 - (k + 1))
  rw [show k + 1 + (64 - (k + 1)) = 64 by omega, gapK_yes h, List.append_assoc] at hr
  rw [hr, List.getElem?_append_right (Nat.le_refl _), Nat.sub_self]
  rfl
def gapAll (f : Nat → Wh) (cnt : List Int) : List Gp := gapK f cnt 64
theorem gapAll_at {f : Nat → Wh} {cnt : List Int} {k : Nat} (hk : k < 64) (h : cnt.getD k 0 < (f k).n) : (gapAll f cnt)[(gapK f cnt k).length]? = some ⟨(k : Int), (f k).h, cnt.getD k 0 + 1, (f k).n⟩ := gapK_at hk h
theorem gapAll_end {f : Nat → Wh} {cnt : List Int} {k j n : Nat} (hj : j = (gapK f cnt k).length) (hk : k = 64) (h : (gapAll f cnt).length = n) : j = n := by subst hk; rw [hj]; exact h
theorem no_plan {l : List Xg} {me : Int} (h : (∀ x ∈ l, x.w ≠ me) ∨ ¬ Apart l) : ¬ ∃ y, HasPlan l me y := fun ⟨y, hy⟩ => by
  rcases h with h | h
  · exact h y hy.mem hy.me
  · exact h hy.ap
set_option maxHeartbeats 16000000 in
theorem plans_core (me : Int) (m0 : -9223372036854775808 ≤ me) (m1 : me ≤ 9223372036854775807) (ao : Option Addr) (n c : Nat) (l : List Xg) (no : Option Addr) (cn cc : Nat) (cnt : List Int) (q : Int) (q0 : -9223372036854775808 ≤ q) (q1 : q ≤ 9223372036854775807) (w : World)
    (hl : XgL w ao n l) (hc : Lst (fun n : Int => [.int .u32 n]) 1 w no cn cnt) (hu : ∀ v ∈ cnt, 0 ≤ v ∧ v < 4294967296) :
    Calls Try.prog 8 #[.int .i64 me, .slice ao n c, .slice no cn cc, .int .i64 q] w fun e w' => e = .returned (.bool true) ∧ Below w.heap.size w w' := by
  have PA := pawake w
  have HL := Lib.hid hl
  have HC := Lib.hid hc
  have HU := Lib.hid hu
  clear hl hc hu
  go_enter Try.func8, Try.ntmps8
  go_wp2_with fail
  refine PA.mono ?_
  rintro e w1 ⟨rfl, B1⟩
  have PF := pfew (HL.out.below B1) c
  have HB1 := Lib.hid B1
  clear PA B1
  go_wp2_with fail
  refine PF.mono ?_
  rintro e w1' ⟨h2, rfl⟩
  clear PF
  rcases h2 with rfl | ⟨rfl, hn⟩
  · go_wp2
    go_ret
    exact ⟨rfl, HB1.out⟩
  cases h200 : decide ((200 : Int) < (cn : Int)) with
  | true =>
    go_wp2
    go_ret
    exact ⟨rfl, HB1.out⟩
  | false =>
  have PN := pnew (HL.out.below HB1.out) c (by omega) me m0 m1
  go_wp2_with fail
  clear h200
  refine PN.mono ?_
  rintro e w3 hs
  clear PN
  cases hs with
  | no _ hno hb =>
    have HB3 := Lib.hid (HB1.out.trans (hb.mono HB1.out.size))
    have HNO := Lib.hid (no_plan hno)
    have PR := refRight (HL.out.below HB3.out) c (by omega) me m0 m1
    clear hno hb HB1
    go_wp2_with fail
    refine PR.mono ?_
    rintro e w4 ⟨h, B4⟩
    have HB4 := Lib.hid (HB3.out.trans (B4.mono HB3.out.size))
    rcases h with ⟨_, hy⟩ | ⟨rfl, _⟩
    · exact absurd hy HNO.out
    · go_wp2
      go_ret
      exact ⟨rfl, HB4.out⟩
  | yes g y _ hp hpb hg hb =>
    have HB3 := Lib.hid (HB1.out.trans (hb.mono HB1.out.size))
    have HP := Lib.hid hp
    have HPB := Lib.hid hpb
    have PR := refRight (HL.out.below HB3.out) c (by omega) me m0 m1
    clear hp hpb hg hb HB1
    go_wp2_with fail
    refine PR.mono ?_
    rintro e w4 ⟨h, B4⟩
    have HB4 := Lib.hid (HB3.out.trans (B4.mono HB3.out.size))
    have HPB4 := Lib.hid (HPB.out.below B4)
    clear PR B4 HPB HB3
    have h' := h.resolve_right (fun hh => hh.2 ⟨y, HP.out⟩)
    obtain ⟨rfl, _⟩ := h'
    clear h
    have PC := refComp (HL.out.below HB4.out) c (by omega) me m0 m1 y HP.out
    go_wp2_with fail
    refine PC.mono ?_
    rintro e w5 ⟨ca, cm, cc2, rfl, hcl, hcm, B5⟩
    have HB5 := Lib.hid (HB4.out.trans (B5.mono HB4.out.size))
    have HPB5 := Lib.hid (HPB4.out.below B5)
    have HCL := Lib.hid hcl
    have HCC := Lib.hid (show ∀ x ∈ compL y l, 0 ≤ x.w ∧ x.w < 64 from fun x hx => HP.out.ap.in_ x (List.mem_filter.1 hx).1)
    have HOK := Lib.hid (plan_ok HL.out HP.out)
    clear PC B5 hcl HPB4 HB4 HP
    generalize compL y l = C at *
    have P1 := pcomp HPB5.out
    have P2 := refSet HCL.out cc2 (by omega) HCC.out
    have P3 := pwhole HPB5.out q q0 q1
    have P4 := refWhole HCL.out cc2 (by omega) q
    have P5 := pholder HPB5.out q q0 q1
    have P6 := refHolder HCL.out cc2 (by omega) q HCC.out
    have PB := pbound HPB5.out
    change Calls _ _ _ _ (fun e w' => e = .returned (.int .u64 ((csL C : Nat) : Int)) ∧ w5 = w') at P1
    change Calls _ _ _ _ (fun e w' => e = .returned (.int .u32 (wholeP (whL C) q)) ∧ w5 = w') at P3
    change Calls _ _ _ _ (fun e w' => e = .returned (.int .i64 (holdP (whL C) q)) ∧ w5 = w') at P5
    change Calls _ _ _ _ (fun e w' => e = .returned (.agg #[.int .u64 (lastK (C.map Xg.k)).n, .int .i64 (lastK (C.map Xg.k)).p]) ∧ Grw w5 w') at PB
    obtain ⟨cs, hcs⟩ : ∃ cs, cs = csL C := ⟨_, rfl⟩
    obtain ⟨u, hu⟩ : ∃ u, u = wholeP (whL C) q := ⟨_, rfl⟩
    obtain ⟨h, hh⟩ : ∃ h, h = holdP (whL C) q := ⟨_, rfl⟩
    obtain ⟨kk, hkk⟩ : ∃ kk, kk = lastK (C.map Xg.k) := ⟨_, rfl⟩
    rw [← hcs] at P1 P2
    rw [← hu] at P3 P4
    rw [← hh] at P5 P6
    rw [← hkk] at PB
    have HKK := Lib.hid hkk
    clear hcs hu hh hkk
    obtain ⟨kn, kp⟩ := kk
    simp only at PB
    have hv : (h != h) = false := by simp
    have hw : (u != u) = false := by simp
    go_wp2_with (first
      | (go_at_call 44; (with_reducible refine P1.mono ?_); rintro e w' ⟨rfl, rfl⟩)
      | (go_at_call 45; (with_reducible refine P2.mono ?_); rintro e w' ⟨rfl, rfl⟩)
      | (go_at_call 46; (with_reducible refine P3.mono ?_); rintro e w' ⟨rfl, rfl⟩)
      | (go_at_call 47; (with_reducible refine P4.mono ?_); rintro e w' ⟨rfl, rfl⟩)
      | (go_at_call 48; (with_reducible refine P5.mono ?_); rintro e w' ⟨rfl, rfl⟩)
      | (go_at_call 49; (with_reducible refine P6.mono ?_); rintro e w' ⟨rfl, rfl⟩)
      | fail)
    refine PB.mono ?_
    rintro e w6 ⟨rfl, G6⟩
    have HB6 := Lib.hid (HB5.out.trans (G6.below.mono HB5.out.size))
    have HPB6 := Lib.hid (HPB5.out.below G6.below)
    have HCL6 := Lib.hid (HCL.out.below G6.below)
    have PD := refBound HCL6.out cc2 (by omega)
    rw [← HKK.out] at PD
    simp only at PD
    have hq := held_key15
    clear PB G6 P1 P2 P3 P4 P5 P6 HB5 HPB5 HCL HKK
    go_wp2_with fail
    refine PD.mono ?_
    rintro e w7 ⟨rfl, B7⟩
    have HB7 := Lib.hid (HB6.out.trans (B7.mono HB6.out.size))
    have HPB7 := Lib.hid (HPB6.out.below B7)
    have HCL7 := Lib.hid (HCL6.out.below B7)
    have PL := placks HPB7.out HOK.out no cn cc cnt (HC.out.below HB7.out) HU.out
    clear PD B7 HB6 HPB6 HCL6 hq
    go_wp2_with fail
    refine PL.mono ?_
    rintro e w8 ⟨ga, gn, gc, rfl, hk⟩
    have HB8 := Lib.hid (HB7.out.trans (hk.bel.mono HB7.out.size))
    have HCL8 := Lib.hid (HCL7.out.below hk.bel)
    have HG := Lib.hid (own_lst' encGp_length hk.len hk.own)
    have HGL := Lib.hid hk.len
    have HOK2 : Hid (WhOk (whL C)) := Lib.hid HOK.out
    change Hid (Lst encGp 4 w8 ga gn (gapAll (whL C) cnt)) at HG
    have hgl : (gapAll (whL C) cnt).length = gn := HGL.out
    clear HGL
    have HEND := Lib.hid (show ∀ (j k : Nat), j = (gapK (whL C) cnt k).length → k = 64 → j = gn from fun j k hj hk => gapAll_end hj hk hgl)
    have HATL := Lib.hid (show ∀ k, k < 64 → cnt.getD k 0 < (whL C k).n → (gapAll (whL C) cnt)[(gapK (whL C) cnt k).length]? = some ⟨(k : Int), (whL C k).h, cnt.getD k 0 + 1, (whL C k).n⟩ from fun k => gapAll_at)
    generalize gapAll (whL C) cnt = L at *
    have HGL := Lib.hid hgl
    clear hgl
    clear PL hk HB7 HPB7 HCL7 HOK
    go_wp2
    go_loopw [13, 14] (fun sn si wr => ∃ (k j : Nat), k ≤ 64 ∧ j ≤ k ∧ sn = .int .i64 j ∧ si = .int .i64 k ∧ Aside (j = (gapK (whL C) cnt k).length) ∧ Aside (Below w8.heap.size w8 wr)) (fun _ si _ => 64 - (intOf si).toNat)
    case atStart => exact ⟨0, 0, Nat.zero_le _, Nat.le_refl _, rfl, rfl, rfl, Below.refl _ _⟩
    case round =>
      obtain ⟨k, j, hk, hjk, rfl, rfl, HJ, HK⟩ := hrel
      by_cases hlt : k < 64
      · have PW := refWhole (HCL8.out.below HK.out) cc2 (by omega) (k : Int)
        have PA := refAt cc ((HC.out.below HB8.out).below HK.out) (k : Int)
        have D20 := fun n' => ((Grw.refl wr).drewN n').below
        have PH := fun n' => refHolder ((HCL8.out.below HK.out).below (D20 n')) cc2 (by omega) (k : Int) HCC.out
        have PA2 := fun n' => refAt cc (((HC.out.below HB8.out).below HK.out).below (D20 n')) (k : Int)
        have hb := HOK2.out.lo k
        obtain ⟨b0, b1⟩ := hb
        have e1 : wholeP (whL C) (k : Int) = (whL C k).n := by rw [whole_in _ _ (by omega) (by omega), Int.toNat_natCast]
        have e2 : atL cnt (k : Int) = cnt.getD k 0 := by rw [atL_in _ _ (by omega), Int.toNat_natCast]
        have hvb : 0 ≤ cnt.getD k 0 := by
          rw [List.getD_eq_getElem?_getD]
          cases hq : cnt[k]? with
          | none => exact Int.le_refl 0
          | some v => exact (HU.out v (List.mem_of_getElem? hq)).1
        have HNO := Lib.hid (gapK_no (f := whL C) (cnt := cnt) (k := k))
        have HYES := Lib.hid (gapK_yes (f := whL C) (cnt := cnt) (k := k))
        have HAT := Lib.hid (HATL.out k hlt)
        have HHO := Lib.hid (show 0 < (whL C k).n → holdP (whL C) (k : Int) = (whL C k).h from fun h => by
          unfold holdP
          rw [if_pos ⟨by omega, by omega⟩, Int.toNat_natCast, if_neg (by omega)])
        rw [e1] at PW
        rw [e2] at PA
        simp only [e2] at PA2
        clear e1 e2 D20
        obtain ⟨u, hu⟩ : ∃ u, u = (whL C k).n := ⟨_, rfl⟩
        obtain ⟨v, hv⟩ : ∃ v, v = cnt.getD k 0 := ⟨_, rfl⟩
        obtain ⟨y, hy⟩ : ∃ y, y = (whL C k).h := ⟨_, rfl⟩
        rw [← hu] at PW b0 b1 HNO HYES HAT HHO
        rw [← hv] at PA hvb HNO HYES HAT
        simp only [← hv] at PA2
        rw [← hy] at HYES HAT HHO
        clear hu hv hy
        cases hd : decide (v < u) with
        | false =>
          have HJ2 := Lib.hid (show j = (gapK (whL C) cnt (k + 1)).length by rw [HNO.out (of_decide_eq_false hd)]; exact HJ.out)
          go_wp2_with (first
            | (go_at_call 47; (with_reducible refine PW.mono ?_); rintro e w' ⟨rfl, rfl⟩)
            | (go_at_call 53; (with_reducible refine PA.mono ?_); rintro e w' ⟨rfl, rfl⟩)
            | fail)
          go_roundw
          case rel => exact ⟨k + 1, j, by omega, by omega, rfl, by go_num, HJ2.out, HK.out⟩
          case measure => simp [intOf]; omega
        | true =>
          have hd2 := of_decide_eq_true hd
          have HJ2 := Lib.hid (show j + 1 = (gapK (whL C) cnt (k + 1)).length by rw [HYES.out hd2, List.length_append, ← HJ.out]; rfl)
          have hat := HAT.out hd2
          rw [← HJ.out] at hat
          have hjn : j < gn := by have := (List.getElem?_eq_some_iff.1 hat).1; have := HGL.out; omega
          obtain ⟨gb, go, rfl, hr⟩ := HG.out.src (by omega)
          have g0 : wr.cell? ⟨gb, go + j * 4, none⟩ = some (.int .i64 (k : Int)) := cell_later HK.out (hr j _ hat 0 _ rfl)
          have g1 : wr.cell? ⟨gb, go + j * 4 + 1, none⟩ = some (.int .i64 y) := cell_later HK.out (hr j _ hat 1 _ rfl)
          have g2 : wr.cell? ⟨gb, go + j * 4 + 2, none⟩ = some (.int .u32 (v + 1)) := cell_later HK.out (hr j _ hat 2 _ rfl)
          have g3 : wr.cell? ⟨gb, go + j * 4 + 3, none⟩ = some (.int .u32 u) := cell_later HK.out (hr j _ hat 3 _ rfl)
          have hwr : IntKind.u32.wrap (v + 1) = v + 1 := by rw [IntKind.wrap_u32']; omega
          rw [HHO.out (by omega)] at PH
          have hEq : ∀ W, (Op.equalIn 10000 106 (.agg #[.int .i64 (k : Int), .int .i64 y, .int .u32 (v + 1), .int .u32 u]) (.agg #[.int .i64 (k : Int), .int .i64 y, .int .u32 (v + 1), .int .u32 u])).run Try.prog W = .ok true W := fun W => eq_gap15 9998 _ _ _ _ W
          clear hr hat hd2 HAT HNO HYES HHO
          go_upto_region 20 with (first
            | (go_at_call 47; (with_reducible refine PW.mono ?_); rintro e w' ⟨rfl, rfl⟩)
            | (go_at_call 53; (with_reducible refine PA.mono ?_); rintro e w' ⟨rfl, rfl⟩)
            | fail)
          go_quiet ((first
            | (go_at_call 49; exact Calls.quiet_of_same ((PH _).mono fun _ _ ⟨he, hw⟩ => ⟨he, hw.symm⟩))
            | (go_at_call 53; exact Calls.quiet_of_same ((PA2 _).mono fun _ _ ⟨he, hw⟩ => ⟨he, hw.symm⟩))))
          have HK2 := Lib.hid (HK.out.trans (((Grw.refl wr).drewN nq).below.mono HK.out.size))
          clear HK PW PA PH PA2 g0 g1 g2 g3 hEq hwr
          go_wp2
          go_roundw
          case rel => exact ⟨k + 1, j + 1, by omega, by omega, by go_num, by go_num, HJ2.out, HK2.out⟩
          case measure => simp [intOf]; omega
      · have hjn : j = gn := HEND.out j k HJ.out (by omega)
        subst hjn
        obtain rfl : k = 64 := by omega
        clear HJ
        have HB9 := Lib.hid (HB8.out.trans (HK.out.mono HB8.out.size))
        go_wp2
        go_ret
        exact ⟨rfl, HB9.out⟩
theorem walk_PlanPlans {w : World} (me : Int) (wm : (Lit.int .i64 me).wf = true) (ao : Option Addr) (n c : Nat) (l : List Xg) (hl : Lst encXg 6 w ao n l ∧ (ao = none → c = 0) ∧ n ≤ c ∧ ∀ m ∈ l, XgIn w m ∧ m.ok) (no : Option Addr) (cn cc : Nat) (cnt : List Int) (hc : Lst (fun n : Int => [.int .u32 n]) 1 w no cn cnt ∧ (no = none → cc = 0) ∧ cn ≤ cc ∧ ∀ v ∈ cnt, 0 ≤ v ∧ v < 4294967296) (q : Int) (wq : (Lit.int .i64 q).wf = true) :
    Calls Try.prog 8 #[.int .i64 me, .slice ao n c, .slice no cn cc, .int .i64 q] w fun e w' => e = .returned (.bool true) ∧ Below w.heap.size w w' := by
  have b := Go.bounds_i64 wm
  have b2 := Go.bounds_i64 wq
  exact plans_core me b.1 b.2 ao n c l no cn cc cnt q b2.1 b2.2 w ⟨hl.1, hl.2.2.2⟩ hc.1 hc.2.2.2
end Go.Proofs.Ytfocjcdfpnbkjaa
