/- The walk of PlanKeeps. -/
import Derived.Test.YtfocjcdfpnbkjaaPlRefG
import Derived.Test.YtfocjcdfpnbkjaaPlRefB
import Derived.Test.YtfocjcdfpnbkjaaPlRefC
import Derived.Test.YtfocjcdfpnbkjaaSAll
set_option linter.unusedVariables false
set_option maxRecDepth 100000
set_option linter.unusedSimpArgs false
namespace Go.Proofs.Ytfocjcdfpnbkjaa
open Go.RowKit Go.Sort Go.Shelf Go.Maps

theorem no_planK {l : List Xg} {me : Int} (h : (∀ x ∈ l, x.w ≠ me) ∨ ¬ Apart l) : ¬ ∃ y, HasPlan l me y := fun ⟨y, hy⟩ => by
  rcases h with h | h
  · exact h y hy.mem hy.me
  · exact h hy.ap
set_option maxHeartbeats 16000000 in
theorem keeps_core (me : Int) (m0 : -9223372036854775808 ≤ me) (m1 : me ≤ 9223372036854775807) (ao : Option Addr) (n c : Nat) (l : List Xg) (ro : Option Addr) (rn rc : Nat) (R : List Mg) (w : World) (hl : XgL w ao n l) (hr : Lst encG 6 w ro rn R) (hnil : ro = none → rc = 0) (hd : ∀ m ∈ R, DpIn w m ∧ DepsOk m.deps ∧ -9223372036854775808 ≤ m.f ∧ m.f ≤ 9223372036854775807 ∧ 0 ≤ m.q ∧ m.q < 4294967296) :
    Calls Try.prog 9 #[.int .i64 me, .slice ao n c, .slice ro rn rc] w fun e w' => e = .returned (.bool true) ∧ Below w.heap.size w w' := by
  have PA := pawake w
  have HL := Lib.hid hl
  have HR := Lib.hid hr
  have HD := Lib.hid hd
  have HNIL := Lib.hid hnil
  clear hl hr hd hnil
  go_enter Try.func9, Try.ntmps9
  go_wp2_with fail
  refine PA.mono ?_
  rintro e w1 ⟨rfl, B1⟩
  have PF := pfew (HL.out.below B1) c
  have HB1 := Lib.hid B1
  clear PA B1
  go_wp2_with fail
  refine PF.mono ?_
  rintro e w1' ⟨h2, rfl⟩
  clear PF
  rcases h2 with rfl | ⟨rfl, hn⟩
  · go_wp2
    go_ret
    exact ⟨rfl, HB1.out⟩
  have PG := fewG_any ro rn rc R w1 (HR.out.below HB1.out)
  go_wp2_with fail
  refine PG.mono ?_
  rintro e w2 ⟨h2, B2⟩
  have HB2 := Lib.hid (HB1.out.trans (B2.mono HB1.out.size))
  clear PG B2 HB1
  rcases h2 with rfl | ⟨rfl, hrn, hdl⟩
  · go_wp2
    go_ret
    exact ⟨rfl, HB2.out⟩
  have HDL := Lib.hid hdl
  clear hdl
  cases h40 : decide ((40 : Int) < (rn : Int)) with
  | true =>
    go_wp2
    go_ret
    exact ⟨rfl, HB2.out⟩
  | false =>
  have h40' := of_decide_eq_false h40
  have PR := refRight (HL.out.below HB2.out) c (by omega) me m0 m1
  go_wp2_with fail
  refine PR.mono ?_
  rintro e w3 ⟨h, B3⟩
  have HB3 := Lib.hid (HB2.out.trans (B3.mono HB2.out.size))
  clear PR B3 HB2
  rcases h with ⟨rfl, hy⟩ | ⟨rfl, _⟩
  case inr =>
    go_wp2
    go_ret
    exact ⟨rfl, HB3.out⟩
  case inl =>
  have HY := Lib.hid hy
  have PN := pnew (HL.out.below HB3.out) c (by omega) me m0 m1
  clear hy
  go_wp2_with fail
  clear h40
  refine PN.mono ?_
  rintro e w4 hs
  clear PN
  cases hs with
  | no _ hno hb => exact absurd HY.out (no_planK hno)
  | yes g y _ hp hpb hg hb =>
    have HB4 := Lib.hid (HB3.out.trans (hb.mono HB3.out.size))
    have HP := Lib.hid hp
    have HPB := Lib.hid hpb
    have HOK := Lib.hid (plan_ok HL.out hp)
    have G5 := ((Grw.refl w4).alloc (.cells #[] 47)).below
    have R5 := World.ownsRow_made (e := 47) (size := 6) w4 #[] 0 (Nat.le_refl _) (Nat.zero_le _) (by simp)
    have HS5 := Lib.hid (show w4.heap.size ≤ (w4.alloc (.cells #[] 47)).heap.size from G5.size)
    have HR5 := Lib.hid (And.intro R5 (Lst.below (HR.out.below HB4.out) G5))
    have HG5 := Lib.hid G5
    clear hp hpb hg hb HB3 HY G5 R5
    go_wp2_with (at_builtin; refine append_mg _ rfl (.tmp 43) (.tmp 44) rfl w4.heap.size (.slice (some ⟨w4.heap.size, 0, none⟩) 0 0) 0 [] rfl HR5.out.1 ro rn rc R rfl HNIL.out HR5.out.2 (by omega) HS5.out ?_; intro v6 w6 h1 h2)
    obtain ⟨ma, mc, rfl⟩ := own_form' (own_eq h1 (show 0 + rn = rn by omega) rfl)
    have B6 : Below w4.heap.size w4 w6 := HG5.out.trans ((Below.refl _ _).grown h2 HS5.out (fun j hj => by have := own_behind HR5.out.1 j hj; omega))
    have HB6 := Lib.hid (HB4.out.trans (B6.mono HB4.out.size))
    have HPB6 := Lib.hid (HPB.out.below B6)
    have HM6 := Lib.hid (own_lst' encG_length HR.out.size (own_eq (n' := rn) (xs' := flat encG R) h1 (by omega) (by rw [List.nil_append])))
    have hD6 : ∀ m ∈ R, MgN w6 m := fun m hm => (MgN.of (HD.out m hm) (by have := HDL.out m hm; omega)).below HB6.out
    have PK := pkeep HPB6.out HOK.out ma rn mc R HM6.out hD6 (by omega)
    clear h1 h2 B6 HR5 HS5 HG5 HPB hD6 HB4
    go_wp2_with fail
    refine PK.mono ?_
    rintro e w7 ⟨sa, sn, sc, X, rfl, hX1, hX2, hX3, hX4, B7⟩
    have HB7 := Lib.hid (HB6.out.trans (B7.mono HB6.out.size))
    have HM7 := Lib.hid (Lst.below HM6.out B7)
    have HX := Lib.hid (And.intro (own_lst' encG_length hX2 hX1) (And.intro hX3 (And.intro hX4 hX2)))
    have PC := refComp (HL.out.below HB7.out) c (by omega) me m0 m1 y HP.out
    clear PK B7 HM6 HB6 HPB6 hX1 hX2 hX3 hX4
    go_wp2_with fail
    refine PC.mono ?_
    rintro e w8 ⟨ca, cm, cc2, rfl, hcl, hcm, B8⟩
    have HB8 := Lib.hid (HB7.out.trans (B8.mono HB7.out.size))
    have HM8 := Lib.hid (Lst.below HM7.out B8)
    have HX8 := Lib.hid (And.intro (Lst.below HX.out.1 B8) (fun x hx => ((HX.out.2.1 x hx).below B8)))
    have HXX := Lib.hid HX.out.2.2
    have PE := refKeep hcl cc2 rc (by omega) (HR.out.below HB8.out) (fun x hx => ⟨((HD.out x hx).1).below HB8.out, by have := HDL.out x hx; omega⟩) (by omega)
    clear PC B8 HM7 HX HB7 hcl
    go_wp2_with fail
    refine PE.mono ?_
    rintro e w9 ⟨ta, tn, tc, rfl, hY, B9⟩
    have HB9 := Lib.hid (HB8.out.trans (B9.mono HB8.out.size))
    have HM9 := Lib.hid (Lst.below HM8.out B9)
    have PALL := all_rows15 (sc := sc) (tc := tc) (Lst.below HX8.out.1 B9) hY (fun x hx => ⟨((HX8.out.2 x hx).below B9).deps, (HX8.out.2 x hx).few⟩) (fun x hx => ((HD.out x (keep_mem.1 hx).1).1).below HB9.out) HXX.out.1 (by
      have h1 := congrArg List.length HXX.out.1
      rw [List.length_map, List.length_map] at h1
      have h2 := keep_len (f := whL (compL y l)) (R := R)
      change X.length = (keepL (whL (compL y l)) R).length at h1
      have h3 := HR.out.size
      have h4 := HXX.out.2
      omega)
    clear PE B9 HM8 HX8 HXX HB8 hY
    go_wp2_with fail
    refine PALL.mono ?_
    rintro e w10 ⟨rfl, G10⟩
    have HB10 := Lib.hid (HB9.out.trans (G10.below.mono HB9.out.size))
    have PAL2 := all_rows15 (sc := mc) (tc := rc) (Lst.below HM9.out G10.below) (HR.out.below HB10.out) (fun x hx => ⟨((HD.out x hx).1).below HB10.out, by have := HDL.out x hx; omega⟩) (fun x hx => ((HD.out x hx).1).below HB10.out) rfl (by omega)
    clear PALL G10 HM9 HB9
    go_wp2_with fail
    refine PAL2.mono ?_
    rintro e w11 ⟨rfl, G11⟩
    have HB11 := Lib.hid (HB10.out.trans (G11.below.mono HB10.out.size))
    go_wp2
    go_ret
    exact ⟨rfl, HB11.out⟩
theorem walk_PlanKeeps {w : World} (me : Int) (wm : (Lit.int .i64 me).wf = true) (ao : Option Addr) (n c : Nat) (l : List Xg) (hl : Lst encXg 6 w ao n l ∧ (ao = none → c = 0) ∧ n ≤ c ∧ ∀ m ∈ l, XgIn w m ∧ m.ok) (ro : Option Addr) (rn rc : Nat) (R : List Mg) (hr : Lst encG 6 w ro rn R ∧ (ro = none → rc = 0) ∧ rn ≤ rc ∧ ∀ m ∈ R, DpIn w m ∧ DepsOk m.deps ∧ -9223372036854775808 ≤ m.f ∧ m.f ≤ 9223372036854775807 ∧ 0 ≤ m.q ∧ m.q < 4294967296) :
    Calls Try.prog 9 #[.int .i64 me, .slice ao n c, .slice ro rn rc] w fun e w' => e = .returned (.bool true) ∧ Below w.heap.size w w' := by
  have b := Go.bounds_i64 wm
  exact keeps_core me b.1 b.2 ao n c l ro rn rc R w ⟨hl.1, hl.2.2.2⟩ hr.1 hr.2.1 hr.2.2.2
end Go.Proofs.Ytfocjcdfpnbkjaa
