/- The walk of PlanOne. -/
import Derived.Test.YtfocjcdfpnbkjaaPlLaws
import Derived.Test.YtfocjcdfpnbkjaaSAll
import Derived.Test.YtfocjcdfpnbkjaaSetFns
set_option linter.unusedVariables false
set_option maxRecDepth 100000
set_option linter.unusedSimpArgs false
namespace Go.Proofs.Ytfocjcdfpnbkjaa
open Go.RowKit Go.Sort Go.Shelf Go.Maps

set_option maxHeartbeats 8000000 in
theorem one_core (ao : Option Addr) (n c : Nat) (l : List Xg) (ro : Option Addr) (rn rc : Nat) (R : List Mg) (a b : Int) (a0 : -9223372036854775808 ≤ a) (a1 : a ≤ 9223372036854775807) (b0 : -9223372036854775808 ≤ b) (b1 : b ≤ 9223372036854775807) (w : World) (hl : XgL w ao n l) (hr : Lst encG 6 w ro rn R) (hd : ∀ m ∈ R, DpIn w m ∧ DepsOk m.deps ∧ -9223372036854775808 ≤ m.f ∧ m.f ≤ 9223372036854775807 ∧ 0 ≤ m.q ∧ m.q < 4294967296) :
    Calls Try.prog 10 #[.slice ao n c, .slice ro rn rc, .int .i64 a, .int .i64 b] w fun e w' => e = .returned (.bool true) ∧ Below w.heap.size w w' := by
  have PA := pawake w
  have HL := Lib.hid hl
  have HR := Lib.hid hr
  have HD := Lib.hid hd
  clear hl hr hd
  go_enter Try.func10, Try.ntmps10
  go_wp2_with fail
  refine PA.mono ?_
  rintro e w1 ⟨rfl, B1⟩
  have PF := pfew (HL.out.below B1) c
  have HB1 := Lib.hid B1
  clear PA B1
  go_wp2_with fail
  refine PF.mono ?_
  rintro e w1' ⟨h2, rfl⟩
  clear PF
  rcases h2 with rfl | ⟨rfl, hn⟩
  · go_wp2
    go_ret
    exact ⟨rfl, HB1.out⟩
  have PG := fewG_any ro rn rc R w1 (HR.out.below HB1.out)
  go_wp2_with fail
  refine PG.mono ?_
  rintro e w2 ⟨h2, B2⟩
  have HB2 := Lib.hid (HB1.out.trans (B2.mono HB1.out.size))
  clear PG B2 HB1
  rcases h2 with rfl | ⟨rfl, hrn, hdl⟩
  · go_wp2
    go_ret
    exact ⟨rfl, HB2.out⟩
  have HDL := Lib.hid hdl
  clear hdl
  cases h60 : decide ((60 : Int) < (rn : Int)) with
  | true =>
    go_wp2
    go_ret
    exact ⟨rfl, HB2.out⟩
  | false =>
  have h60' := of_decide_eq_false h60
  have PN := pnew (HL.out.below HB2.out) c (by omega) a a0 a1
  go_wp2_with fail
  refine PN.mono ?_
  rintro e w3 hs
  have HB3 : Hid (Below w.heap.size w w3) := Lib.hid (by cases hs with
    | no _ _ hb => exact HB2.out.trans (hb.mono HB2.out.size)
    | yes _ _ _ _ _ _ hb => exact HB2.out.trans (hb.mono HB2.out.size))
  have PM := pnew (HL.out.below HB3.out) c (by omega) b b0 b1
  clear PN
  cases hs with
  | no _ hn1 hb1 =>
    clear hn1 hb1 HB2
    go_wp2_with fail
    refine PM.mono ?_
    rintro e w4 hs
    clear PM
    cases hs with
    | no _ hn1 hb1 =>
      have HB4 := Lib.hid (HB3.out.trans (hb1.mono HB3.out.size))
      clear hn1 hb1
      go_wp2
      go_ret
      exact ⟨rfl, HB4.out⟩
    | yes g y _ h hp hg hb1 =>
      have HB4 := Lib.hid (HB3.out.trans (hb1.mono HB3.out.size))
      clear h hp hg hb1
      go_wp2
      go_ret
      exact ⟨rfl, HB4.out⟩
  | yes g x _ hx hp hg hb1 =>
    have HX := Lib.hid hx
    have HP3 := Lib.hid hp
    clear hx hp hg hb1 HB2
    go_wp2_with fail
    refine PM.mono ?_
    rintro e w4 hs
    clear PM
    cases hs with
    | no _ hn1 hb1 =>
      have HB4 := Lib.hid (HB3.out.trans (hb1.mono HB3.out.size))
      clear hn1 hb1
      go_wp2
      go_ret
      exact ⟨rfl, HB4.out⟩
    | yes g2 y _ hy hq hg2 hb1 =>
      have HB4 := Lib.hid (HB3.out.trans (hb1.mono HB3.out.size))
      have HP4 := Lib.hid (HP3.out.below hb1)
      have HY := Lib.hid hy
      have HQ4 := Lib.hid hq
      clear hy hq hg2 hb1 HB3 HP3
      have PC := pcomp HP4.out
      have hcl := csL_lt (compL x l)
      have PH := has_any (csL (compL x l)) b w4 hcl b0 b1
      change Calls _ _ _ _ (fun e w' => e = .returned (.int .u64 ((csL (compL x l) : Nat) : Int)) ∧ w4 = w') at PC
      obtain ⟨cs, hcs⟩ : ∃ cs, cs = csL (compL x l) := ⟨_, rfl⟩
      rw [← hcs] at PC PH hcl
      have HCS := Lib.hid hcs
      clear hcs
      cases hm : mem cs b with
      | false =>
        rw [hm] at PH
        go_wp2_with (first | (go_at_call 44; (with_reducible refine PC.mono ?_); rintro e w' ⟨rfl, rfl⟩) | (go_at_call 57; (with_reducible refine PH.mono ?_); rintro e w' ⟨rfl, rfl⟩) | fail)
        go_ret
        exact ⟨rfl, HB4.out⟩
      | true =>
        rw [hm] at PH
        have hone := plan_one HX.out HY.out (by rw [← HCS.out]; exact hm)
        have HQ5 := HQ4.out
        rw [hone] at HQ5
        have HQ := Lib.hid HQ5
        have HOK := Lib.hid (plan_ok HL.out HX.out)
        have HHM := Lib.hid (fun q hq => hold_mem HL.out HX.out q hq)
        have HME := Lib.hid (plan_me HX.out)
        rw [← HCS.out] at HHM HME
        clear HQ5 hone hm HQ4 HY HX
        generalize hPP : planL (compL x l) = PP at *
        have HCP : Hid (PP.cs = cs) := Lib.hid (by rw [HCS.out, ← hPP]; rfl)
        clear hPP HCS
        go_wp2_with (first | (go_at_call 44; (with_reducible refine PC.mono ?_); rintro e w' ⟨rfl, rfl⟩) | (go_at_call 57; (with_reducible refine PH.mono ?_); rintro e w' ⟨rfl, rfl⟩) | fail)
        clear PC PH
        go_loop [13] (fun si => ∃ k : Nat, k ≤ 64 ∧ si = .int .i64 k) (fun si => 64 - (intOf si).toNat)
        case atStart => exact ⟨0, Nat.zero_le _, rfl⟩
        case round =>
          obtain ⟨k, hk, rfl⟩ := hrel
          by_cases hlt : k < 64
          · have Wg := pwhole HP4.out (k : Int) (by omega) (by omega)
            have Wh := pwhole HQ.out (k : Int) (by omega) (by omega)
            have Hg := pholder HP4.out (k : Int) (by omega) (by omega)
            have Hh := pholder HQ.out (k : Int) (by omega) (by omega)
            have PC := pcomp HP4.out
            rw [HCP.out] at PC
            have HM := Lib.hid (HHM.out (k : Int))
            have hhb : -1 ≤ holdP PP.f (k : Int) ∧ holdP PP.f (k : Int) < 64 := by
              have := HOK.out.ho k
              unfold holdP
              rw [if_pos ⟨by omega, by omega⟩, Int.toNat_natCast]
              split
              · omega
              · omega
            obtain ⟨hb0, hb1⟩ := hhb
            generalize wholeP PP.f (k : Int) = u at *
            obtain ⟨h, hh⟩ : ∃ h, h = holdP PP.f (k : Int) := ⟨_, rfl⟩
            rw [← hh] at Hg Hh HM hb0 hb1
            clear hh
            have PH := has_any cs h w4 hcl (by omega) (by omega)
            have hu : (u != u) = false := by simp
            have hv : (h != h) = false := by simp
            cases ht : decide (0 ≤ h) with
            | false =>
              go_wp2_with (first | (go_at_call 46; (first | (with_reducible refine Wg.mono ?_) | (with_reducible refine Wh.mono ?_)); rintro e w' ⟨rfl, rfl⟩) | (go_at_call 48; (first | (with_reducible refine Hg.mono ?_) | (with_reducible refine Hh.mono ?_)); rintro e w' ⟨rfl, rfl⟩) | fail)
              go_round
              case rel => exact ⟨k + 1, by omega, by go_num⟩
              case measure => simp [intOf]; omega
            | true =>
              rw [HM.out (of_decide_eq_true ht)] at PH
              go_wp2_with (first | (go_at_call 46; (first | (with_reducible refine Wg.mono ?_) | (with_reducible refine Wh.mono ?_)); rintro e w' ⟨rfl, rfl⟩) | (go_at_call 48; (first | (with_reducible refine Hg.mono ?_) | (with_reducible refine Hh.mono ?_)); rintro e w' ⟨rfl, rfl⟩) | (go_at_call 44; (with_reducible refine PC.mono ?_); rintro e w' ⟨rfl, rfl⟩) | (go_at_call 57; (with_reducible refine PH.mono ?_); rintro e w' ⟨rfl, rfl⟩) | fail)
              go_round
              case rel => exact ⟨k + 1, by omega, by go_num⟩
              case measure => simp [intOf]; omega
          · obtain rfl : k = 64 := by omega
            have Cg := pcomp HP4.out
            have Ch := pcomp HQ.out
            rw [HCP.out] at Cg Ch
            have PB := pbound HP4.out
            obtain ⟨kn, hkn⟩ : ∃ kn, kn = PP.bd.n := ⟨_, rfl⟩
            obtain ⟨kp, hkp⟩ : ∃ kp, kp = PP.bd.p := ⟨_, rfl⟩
            rw [← hkn, ← hkp] at PB
            have hq := held_key15
            go_wp2_with (first | (go_at_call 44; (first | (with_reducible refine Cg.mono ?_) | (with_reducible refine Ch.mono ?_)); rintro e w' ⟨rfl, rfl⟩) | fail)
            refine PB.mono ?_
            rintro e w5 ⟨rfl, G5⟩
            have HB5 := Lib.hid (HB4.out.trans (G5.below.mono HB4.out.size))
            have HP5 := Lib.hid (HP4.out.below G5.below)
            have HQ5 := Lib.hid (HQ.out.below G5.below)
            have PB2 := pbound HQ5.out
            rw [← hkn, ← hkp] at PB2
            clear PB G5 Cg Ch hkn hkp HP4 HQ HB4
            go_wp2_with fail
            refine PB2.mono ?_
            rintro e w6 ⟨rfl, G6⟩
            have HB6 := Lib.hid (HB5.out.trans (G6.below.mono HB5.out.size))
            have HP6 := Lib.hid (HP5.out.below G6.below)
            have HQ6 := Lib.hid (HQ5.out.below G6.below)
            have hR6 := HR.out.below HB6.out
            have hD6 : ∀ m ∈ R, MgN w6 m := fun m hm => (MgN.of (HD.out m hm) (by have := HDL.out m hm; omega)).below HB6.out
            have PK := pkeep HP6.out HOK.out ro rn rc R hR6 hD6 (by omega)
            clear PB2 G6 HP5 HQ5 HB5 hR6 hD6
            go_wp2_with fail
            refine PK.mono ?_
            rintro e w7 ⟨sa, sn, sc, X, rfl, hX1, hX2, hX3, hX4, B7⟩
            have HB7 := Lib.hid (HB6.out.trans (B7.mono HB6.out.size))
            have HP7 := Lib.hid (HP6.out.below B7)
            have HQ7 := Lib.hid (HQ6.out.below B7)
            have HX := Lib.hid (And.intro (own_lst' encG_length hX2 hX1) (And.intro hX3 (And.intro hX4 hX2)))
            have hR7 := HR.out.below HB7.out
            have hD7 : ∀ m ∈ R, MgN w7 m := fun m hm => (MgN.of (HD.out m hm) (by have := HDL.out m hm; omega)).below HB7.out
            have PK2 := pkeep HQ7.out HOK.out ro rn rc R hR7 hD7 (by omega)
            clear PK B7 HP6 HQ6 HB6 hX1 hX2 hX3 hX4 hR7 hD7
            go_wp2_with fail
            refine PK2.mono ?_
            rintro e w8 ⟨ta, tn, tc, Y, rfl, hY1, hY2, hY3, hY4, B8⟩
            have HB8 := Lib.hid (HB7.out.trans (B8.mono HB7.out.size))
            have HP8 := Lib.hid (HP7.out.below B8)
            have PALL := all_rows15 (sc := sc) (tc := tc) (HX.out.1.below B8) (own_lst' encG_length hY2 hY1) (fun x hx => ⟨((HX.out.2.1 x hx).below B8).deps, (HX.out.2.1 x hx).few⟩) (fun y hy => (hY3 y hy).deps) (HX.out.2.2.1.trans hY4.symm) (by
              have h1 := congrArg List.length HX.out.2.2.1
              rw [List.length_map, List.length_map] at h1
              have h2 := keep_len (f := PP.f) (R := R)
              have h3 := HR.out.size
              have h4 := HX.out.2.2.2
              omega)
            clear PK2 B8 HQ7 HP7 HB7 HX hY1 hY2 hY3 hY4
            go_wp2_with fail
            refine PALL.mono ?_
            rintro e w9 ⟨rfl, G9⟩
            have HB9 := Lib.hid (HB8.out.trans (G9.below.mono HB8.out.size))
            have PC := pcomp (HP8.out.below G9.below)
            rw [HCP.out] at PC
            have PH := has_any cs a w9 hcl a0 a1
            rw [HME.out] at PH
            clear PALL G9 HP8 HB8
            go_wp2_with (first | (go_at_call 44; (with_reducible refine PC.mono ?_); rintro e w' ⟨rfl, rfl⟩) | (go_at_call 57; (with_reducible refine PH.mono ?_); rintro e w' ⟨rfl, rfl⟩) | fail)
            go_ret
            exact ⟨rfl, HB9.out⟩
theorem walk_PlanOne {w : World} (ao : Option Addr) (n c : Nat) (l : List Xg) (hl : Lst encXg 6 w ao n l ∧ (ao = none → c = 0) ∧ n ≤ c ∧ ∀ m ∈ l, XgIn w m ∧ m.ok) (ro : Option Addr) (rn rc : Nat) (R : List Mg) (hr : Lst encG 6 w ro rn R ∧ (ro = none → rc = 0) ∧ rn ≤ rc ∧ ∀ m ∈ R, DpIn w m ∧ DepsOk m.deps ∧ -9223372036854775808 ≤ m.f ∧ m.f ≤ 9223372036854775807 ∧ 0 ≤ m.q ∧ m.q < 4294967296) (a : Int) (wa : (Lit.int .i64 a).wf = true) (b : Int) (wb : (Lit.int .i64 b).wf = true) :
    Calls Try.prog 10 #[.slice ao n c, .slice ro rn rc, .int .i64 a, .int .i64 b] w fun e w' => e = .returned (.bool true) ∧ Below w.heap.size w w' := by
  have a0 := Go.bounds_i64 wa
  have b0 := Go.bounds_i64 wb
  exact one_core ao n c l ro rn rc R a b a0.1 a0.2 b0.1 b0.2 w ⟨hl.1, hl.2.2.2⟩ hr.1 hr.2.2.2
end Go.Proofs.Ytfocjcdfpnbkjaa
