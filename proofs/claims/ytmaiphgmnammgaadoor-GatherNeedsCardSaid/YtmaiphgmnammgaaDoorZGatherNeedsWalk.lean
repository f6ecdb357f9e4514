/- The walk of GatherNeeds. (Written by wip/gen_ganeeds.py.) -/
import Derived.Test.YtmaiphgmnammgaaDoorZGaAwake
import Derived.Test.YtmaiphgmnammgaaDoorZKeyMaths
set_option linter.unusedVariables false
set_option maxRecDepth 100000
set_option linter.unusedSimpArgs false
namespace Go.Proofs.YtmaiphgmnammgaaDoor
open Go.RowKit Go.Sort Go.Maps

theorem kcmp_less (a b : K) : decide (0 < kcmp a b) = b.less a := by
  cases h : b.less a with
  | true => exact decide_eq_true ((kcmp_pos a b).2 h)
  | false => exact decide_eq_false fun e => by rw [(kcmp_pos a b).1 e] at h; cases h
/-- What the law wants of Fails. -/
def wantB (M R : Nat) (p : Int) (a c : K) : Bool := decide (R ≠ M) || (mem M p && a.less c)
theorem want_is {M R : Nat} {p : Int} {a c : K} {b : Bool} (h : b = true ↔ R ≠ M ∨ ∃ k x, setI (fun _ => none) p (some c) k = some x ∧ badC M a k x = true) : b = wantB M R p a c := by
  have e : (∃ k x, setI (fun _ => none) p (some c) k = some x ∧ badC M a k x = true) ↔ (mem M p && a.less c) = true := by
    constructor
    · rintro ⟨k, x, h1, h2⟩
      by_cases e : k = p
      · subst e
        rw [setI_same] at h1
        injection h1 with h1
        subst h1
        unfold badC at h2
        rwa [kcmp_less] at h2
      · rw [setI_other _ _ _ e] at h1; cases h1
    · intro h
      exact ⟨p, c, setI_same _ _ _, by unfold badC; rw [kcmp_less]; exact h⟩
  rw [e] at h
  unfold wantB
  cases b with
  | true =>
    rcases h.1 rfl with h1 | h1
    · rw [decide_eq_true h1]; rfl
    · rw [h1]; simp
  | false =>
    have h1 : ¬ (R ≠ M) := fun e => by have := h.2 (.inl e); cases this
    rw [decide_eq_false h1]
    cases h2 : (mem M p && a.less c) with
    | false => rfl
    | true => have := h.2 (.inr h2); cases this
set_option maxHeartbeats 8000000 in
theorem needs_core (M R T : Nat) (me : Int) (e0 r0 : Int) (p : Int) (e1 r1 : Int) (w : World) (hM : M < 18446744073709551616) (hR : R < 18446744073709551616) (hT : T < 18446744073709551616) (m0 : -9223372036854775808 ≤ me) (m1 : me ≤ 9223372036854775807) (p0 : -9223372036854775808 ≤ p) (p1 : p ≤ 9223372036854775807) (hTab : Tab w) :
    Calls Tryd.prog 4 #[.int .u64 (M : Int), .int .u64 (R : Int), .int .u64 (T : Int), .int .i64 me, .agg #[.int .u64 e0, .int .i64 r0], .int .i64 p, .agg #[.int .u64 e1, .int .i64 r1]] w fun e w' => e = .returned (.bool true) ∧ Below w.heap.size w w' := by
  have hmm := @run_makeMap Tryd.prog
  have L1 := (((Grw.refl w).alloc (.cells #[.int .u64 e0, .int .i64 r0] 24)).alloc (.cells #[.int .u64 e1, .int .i64 r1] 24)).below
  have A1 := (Own.new w 24 #[.int .u64 e0, .int .i64 r0])
  have A2 := Lib.hid (A1.below ((Grw.refl _).alloc (.cells #[.int .u64 e1, .int .i64 r1] 24)).below A1.lt)
  have C2 := Own.new (w.alloc (.cells #[.int .u64 e0, .int .i64 r0] 24)) 24 #[.int .u64 e1, .int .i64 r1]
  rw [show (w.alloc (.cells #[.int .u64 e0, .int .i64 r0] 24)).heap.size = w.heap.size + 1 by simp] at C2
  have HC2 := Lib.hid C2
  have HT := Lib.hid (hTab.below L1 (Nat.le_refl _))
  have HB := Lib.hid L1
  clear hTab L1 A1 C2
  go_enter Tryd.func4, Tryd.ntmps4
  go_upto_region 1 with fail
  generalize ((w.alloc (.cells #[.int .u64 e0, .int .i64 r0] 24)).alloc (.cells #[.int .u64 e1, .int .i64 r1] 24)) = w1 at *
  obtain ⟨ib, hib⟩ : ∃ ib, ib = w.heap.size := ⟨_, rfl⟩
  obtain ⟨cb, hcb⟩ : ∃ cb, cb = w.heap.size + 1 := ⟨_, rfl⟩
  rw [← hcb] at HC2
  rw [← hib] at A2
  try rw [← hcb]
  try rw [← hib]
  clear hib hcb
  have PA := gawake w1 HT.out
  go_wp2_with fail
  refine PA.mono ?_
  rintro e w2 ⟨rfl, B2⟩
  have A3 := Lib.hid (A2.out.below B2 A2.out.lt)
  have C3 := Lib.hid (HC2.out.below B2 HC2.out.lt)
  have T3 := Lib.hid (HT.out.below B2 (Nat.le_refl _))
  have HB2 := Lib.hid (HB.out.trans (B2.mono HB.out.size))
  clear PA B2 A2 HC2 HT HB
  have i0 := A3.out.at_ 0 _ rfl
  have i1 := A3.out.at_ 1 _ rfl
  have PN := gneeds e0 r0 M R T me w2 hM hR hT T3.out
  obtain ⟨nb, hnb⟩ : ∃ nb, nb = needsB M R T me := ⟨_, rfl⟩
  rw [← hnb] at PN
  go_wp2_with fail
  refine PN.mono ?_
  rintro e w3 ⟨rfl, B3⟩
  have A4 := Lib.hid (A3.out.below B3 A3.out.lt)
  have C4 := Lib.hid (C3.out.below B3 C3.out.lt)
  have HB3 := Lib.hid (HB2.out.trans (B3.mono HB2.out.size))
  have PR := rneeds M R T me w3 hM hR hT m0 m1
  rw [← hnb] at PR
  clear PN B3 A3 C3 T3 HB2 hnb i0 i1
  go_wp2_with fail
  refine PR.mono ?_
  rintro e w4 ⟨rfl, rfl⟩
  have hnn : (nb != nb) = false := by cases nb <;> rfl
  clear PR
  have i0 := A4.out.at_ 0 _ rfl
  have i1 := A4.out.at_ 1 _ rfl
  have PG := gnew e0 r0 M w3 hM
  go_wp2_with fail
  refine PG.mono ?_
  rintro e w5 ⟨g, mb, rfl, hg, hg0, hm0, B5⟩
  have A5 := Lib.hid (A4.out.below B5 A4.out.lt)
  have C5 := Lib.hid (C4.out.below B5 C4.out.lt)
  have G5 := Lib.hid hg
  have HB5 := Lib.hid (HB3.out.trans (B5.mono HB3.out.size))
  clear PG hg hg0 hm0 B5 A4 C4 HB3 i0 i1 hnn
  have i0 := A5.out.at_ 0 _ rfl
  have i1 := A5.out.at_ 1 _ rfl
  have j0 := C5.out.at_ 0 _ rfl
  have j1 := C5.out.at_ 1 _ rfl
  have hne := bne_of R M
  have PH := has_any M p w5 hM p0 p1
  have HW := Lib.hid (show wantB M R p ⟨e0, r0⟩ ⟨e1, r1⟩ = (decide (R ≠ M) || (mem M p && (⟨e0, r0⟩ : K).less ⟨e1, r1⟩)) from rfl)
  obtain ⟨wb, hwb⟩ : ∃ wb, wb = wantB M R p ⟨e0, r0⟩ ⟨e1, r1⟩ := ⟨_, rfl⟩
  rw [← hwb] at HW
  have HWB := Lib.hid hwb
  clear hwb
  cases hd : decide (R ≠ M) with
  | true =>
    rw [hd] at hne
    have HWT := Lib.hid (show true = wantB M R p ⟨e0, r0⟩ ⟨e1, r1⟩ by rw [← HWB.out, HW.out, hd]; rfl)
    have C6 := Lib.hid C5.out
    have G6 := Lib.hid G5.out
    have HB6 := Lib.hid HB5.out
    clear hd HW HWB PH A5 C5 G5 HB5
    go_upto_region 7 with fail
    clear i0 i1 j0 j1 hne
    have M8 := MapI.made encCv w5
    have L8 := ((Grw.refl w5).alloc (.map #[] 0)).below
    obtain ⟨w9, hrun9, A9, T9⟩ := M8.store mapC p ⟨p0, p1⟩ rfl (by decide) (⟨e1, r1⟩ : K)
    have B9 : Below w5.heap.size w5 w9 := L8.grown T9.grown L8.size fun k e => by injection e with e; omega
    have j0' := (C6.out.below L8 C6.out.lt).at_ 0 _ rfl
    have j1' := (C6.out.below L8 C6.out.lt).at_ 1 _ rfl
    have G9 := Lib.hid (G6.out.later B9)
    have HB9 := Lib.hid (HB6.out.trans (B9.mono HB6.out.size))
    have PF := gfails G9.out R w5.heap.size 1 _ A9
    unfold encCv at hrun9
    clear M8 L8 T9 B9 C6 G6 HB6
    go_wp2_with fail
    refine PF.mono ?_
    rintro e w10 ⟨b, rfl, hb, B10⟩
    have hb1 : b = true := by rw [HWT.out]; exact want_is hb
    subst hb1
    have G10 := Lib.hid (G9.out.later B10)
    have HB10 := Lib.hid (HB9.out.trans (B10.mono HB9.out.size))
    have PF2 := gfails_nil G10.out M rfl
    change Calls _ _ #[.pointer (some ⟨g, 0, none⟩), .int .u64 (M : Int), .map none] _ _ at PF2
    clear PF hb B10 hrun9 A9 G9 HB9 j0' j1' HWT
    go_wp2_with fail
    refine PF2.mono ?_
    rintro e w11 ⟨rfl, B11⟩
    have HB11 := Lib.hid (HB10.out.trans (B11.mono HB10.out.size))
    clear PF2 B11 G10 HB10
    go_wp2
    go_ret
    exact ⟨rfl, HB11.out⟩
  | false =>
  rw [hd] at hne
  cases hm : mem M p with
  | false =>
    rw [hm] at PH
    have HWT := Lib.hid (show false = wantB M R p ⟨e0, r0⟩ ⟨e1, r1⟩ by rw [← HWB.out, HW.out, hd, hm]; rfl)
    have C6 := Lib.hid C5.out
    have G6 := Lib.hid G5.out
    have HB6 := Lib.hid HB5.out
    clear hd hm HW HWB A5 C5 G5 HB5
    go_wp2_with fail
    refine PH.mono ?_
    rintro e w6 ⟨rfl, rfl⟩
    clear PH
    go_upto_region 7 with fail
    clear i0 i1 j0 j1 hne
    have M8 := MapI.made encCv w5
    have L8 := ((Grw.refl w5).alloc (.map #[] 0)).below
    obtain ⟨w9, hrun9, A9, T9⟩ := M8.store mapC p ⟨p0, p1⟩ rfl (by decide) (⟨e1, r1⟩ : K)
    have B9 : Below w5.heap.size w5 w9 := L8.grown T9.grown L8.size fun k e => by injection e with e; omega
    have j0' := (C6.out.below L8 C6.out.lt).at_ 0 _ rfl
    have j1' := (C6.out.below L8 C6.out.lt).at_ 1 _ rfl
    have G9 := Lib.hid (G6.out.later B9)
    have HB9 := Lib.hid (HB6.out.trans (B9.mono HB6.out.size))
    have PF := gfails G9.out R w5.heap.size 1 _ A9
    unfold encCv at hrun9
    clear M8 L8 T9 B9 C6 G6 HB6
    go_wp2_with fail
    refine PF.mono ?_
    rintro e w10 ⟨b, rfl, hb, B10⟩
    have hb1 : b = false := by rw [HWT.out]; exact want_is hb
    subst hb1
    have G10 := Lib.hid (G9.out.later B10)
    have HB10 := Lib.hid (HB9.out.trans (B10.mono HB9.out.size))
    have PF2 := gfails_nil G10.out M rfl
    change Calls _ _ #[.pointer (some ⟨g, 0, none⟩), .int .u64 (M : Int), .map none] _ _ at PF2
    clear PF hb B10 hrun9 A9 G9 HB9 j0' j1' HWT
    go_wp2_with fail
    refine PF2.mono ?_
    rintro e w11 ⟨rfl, B11⟩
    have HB11 := Lib.hid (HB10.out.trans (B11.mono HB10.out.size))
    clear PF2 B11 G10 HB10
    go_wp2
    go_ret
    exact ⟨rfl, HB11.out⟩
  | true =>
    rw [hm] at PH
    have PL := confLess_any ⟨e0, r0⟩ ⟨e1, r1⟩ w5
    cases hl : (⟨e0, r0⟩ : K).less ⟨e1, r1⟩ with
    | true =>
      rw [hl] at PL
      have HWT := Lib.hid (show true = wantB M R p ⟨e0, r0⟩ ⟨e1, r1⟩ by rw [← HWB.out, HW.out, hd, hm, hl]; rfl)
      clear hd hm hl HW HWB
      go_wp2_with fail
      refine PH.mono ?_
      rintro e w6 ⟨rfl, rfl⟩
      clear PH
      go_wp2_with fail
      refine PL.mono ?_
      rintro e w7 ⟨rfl, G7⟩
      have C6 := Lib.hid (C5.out.below G7.below C5.out.lt)
      have G6 := Lib.hid (G5.out.later G7.below)
      have HB6 := Lib.hid (HB5.out.trans (G7.below.mono HB5.out.size))
      clear PL G7 A5 C5 G5 HB5 i0 i1 j0 j1
      go_upto_region 7 with fail
      clear hne
      have M8 := MapI.made encCv w7
      have L8 := ((Grw.refl w7).alloc (.map #[] 0)).below
      obtain ⟨w9, hrun9, A9, T9⟩ := M8.store mapC p ⟨p0, p1⟩ rfl (by decide) (⟨e1, r1⟩ : K)
      have B9 : Below w7.heap.size w7 w9 := L8.grown T9.grown L8.size fun k e => by injection e with e; omega
      have j0' := (C6.out.below L8 C6.out.lt).at_ 0 _ rfl
      have j1' := (C6.out.below L8 C6.out.lt).at_ 1 _ rfl
      have G9 := Lib.hid (G6.out.later B9)
      have HB9 := Lib.hid (HB6.out.trans (B9.mono HB6.out.size))
      have PF := gfails G9.out R w7.heap.size 1 _ A9
      unfold encCv at hrun9
      clear M8 L8 T9 B9 C6 G6 HB6
      go_wp2_with fail
      refine PF.mono ?_
      rintro e w10 ⟨b, rfl, hb, B10⟩
      have hb1 : b = true := by rw [HWT.out]; exact want_is hb
      subst hb1
      have G10 := Lib.hid (G9.out.later B10)
      have HB10 := Lib.hid (HB9.out.trans (B10.mono HB9.out.size))
      have PF2 := gfails_nil G10.out M rfl
      change Calls _ _ #[.pointer (some ⟨g, 0, none⟩), .int .u64 (M : Int), .map none] _ _ at PF2
      clear PF hb B10 hrun9 A9 G9 HB9 j0' j1' HWT
      go_wp2_with fail
      refine PF2.mono ?_
      rintro e w11 ⟨rfl, B11⟩
      have HB11 := Lib.hid (HB10.out.trans (B11.mono HB10.out.size))
      clear PF2 B11 G10 HB10
      go_wp2
      go_ret
      exact ⟨rfl, HB11.out⟩
    | false =>
      rw [hl] at PL
      have HWT := Lib.hid (show false = wantB M R p ⟨e0, r0⟩ ⟨e1, r1⟩ by rw [← HWB.out, HW.out, hd, hm, hl]; rfl)
      clear hd hm hl HW HWB
      go_wp2_with fail
      refine PH.mono ?_
      rintro e w6 ⟨rfl, rfl⟩
      clear PH
      go_wp2_with fail
      refine PL.mono ?_
      rintro e w7 ⟨rfl, G7⟩
      have C6 := Lib.hid (C5.out.below G7.below C5.out.lt)
      have G6 := Lib.hid (G5.out.later G7.below)
      have HB6 := Lib.hid (HB5.out.trans (G7.below.mono HB5.out.size))
      clear PL G7 A5 C5 G5 HB5 i0 i1 j0 j1
      go_upto_region 7 with fail
      clear hne
      have M8 := MapI.made encCv w7
      have L8 := ((Grw.refl w7).alloc (.map #[] 0)).below
      obtain ⟨w9, hrun9, A9, T9⟩ := M8.store mapC p ⟨p0, p1⟩ rfl (by decide) (⟨e1, r1⟩ : K)
      have B9 : Below w7.heap.size w7 w9 := L8.grown T9.grown L8.size fun k e => by injection e with e; omega
      have j0' := (C6.out.below L8 C6.out.lt).at_ 0 _ rfl
      have j1' := (C6.out.below L8 C6.out.lt).at_ 1 _ rfl
      have G9 := Lib.hid (G6.out.later B9)
      have HB9 := Lib.hid (HB6.out.trans (B9.mono HB6.out.size))
      have PF := gfails G9.out R w7.heap.size 1 _ A9
      unfold encCv at hrun9
      clear M8 L8 T9 B9 C6 G6 HB6
      go_wp2_with fail
      refine PF.mono ?_
      rintro e w10 ⟨b, rfl, hb, B10⟩
      have hb1 : b = false := by rw [HWT.out]; exact want_is hb
      subst hb1
      have G10 := Lib.hid (G9.out.later B10)
      have HB10 := Lib.hid (HB9.out.trans (B10.mono HB9.out.size))
      have PF2 := gfails_nil G10.out M rfl
      change Calls _ _ #[.pointer (some ⟨g, 0, none⟩), .int .u64 (M : Int), .map none] _ _ at PF2
      clear PF hb B10 hrun9 A9 G9 HB9 j0' j1' HWT
      go_wp2_with fail
      refine PF2.mono ?_
      rintro e w11 ⟨rfl, B11⟩
      have HB11 := Lib.hid (HB10.out.trans (B11.mono HB10.out.size))
      clear PF2 B11 G10 HB10
      go_wp2
      go_ret
      exact ⟨rfl, HB11.out⟩
theorem walk_GatherNeeds {w : World} (M : Int) (wM : (Lit.int .u64 M).wf = true) (R : Int) (wR : (Lit.int .u64 R).wf = true) (T : Int) (wT : (Lit.int .u64 T).wf = true) (me : Int) (wm : (Lit.int .i64 me).wf = true) (e0 r0 : Int) (p : Int) (wp : (Lit.int .i64 p).wf = true) (e1 r1 : Int) (hTab : Tab w) :
    Calls Tryd.prog 4 #[.int .u64 M, .int .u64 R, .int .u64 T, .int .i64 me, .agg #[.int .u64 e0, .int .i64 r0], .int .i64 p, .agg #[.int .u64 e1, .int .i64 r1]] w fun e w' => e = .returned (.bool true) ∧ Below w.heap.size w w' := by
  have b1 := Go.bounds_u64 wM
  have b2 := Go.bounds_u64 wR
  have b3 := Go.bounds_u64 wT
  have b4 := Go.bounds_i64 wm
  have b5 := Go.bounds_i64 wp
  obtain ⟨M, rfl⟩ := Int.eq_ofNat_of_zero_le b1.1
  obtain ⟨R, rfl⟩ := Int.eq_ofNat_of_zero_le b2.1
  obtain ⟨T, rfl⟩ := Int.eq_ofNat_of_zero_le b3.1
  exact needs_core M R T me e0 r0 p e1 r1 w (by omega) (by omega) (by omega) b4.1 b4.2 b5.1 b5.2 hTab
end Go.Proofs.YtmaiphgmnammgaaDoor
