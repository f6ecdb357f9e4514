/- The walk of 'SetTells'. -/
import Derived.Test.YtkcjfofnnkdpaaaDoorSetAwake
set_option linter.unusedVariables false
set_option linter.unusedSimpArgs false
namespace Go.Proofs.YtkcjfofnnkdpaaaDoor
open Go.RowKit

set_option maxHeartbeats 2000000 in
theorem walk_SetTells (a : Int) (wa : (Lit.int .u64 a).wf = true) (b : Int) (wb : (Lit.int .u64 b).wf = true) (p : Int) (wp : (Lit.int .i64 p).wf = true) (w : World) (hT : Tab w) :
    Calls Tryd.prog 3 #[.int .u64 a, .int .u64 b, .int .i64 p] w fun e w' => e = .returned (.bool true) ∧ Below w.heap.size w w' := by
  obtain ⟨a0, a1⟩ := wf_u64 wa
  obtain ⟨b0, b1⟩ := wf_u64 wb
  obtain ⟨p0, p1⟩ := wf_i64 wp
  obtain ⟨x, rfl⟩ := Int.eq_ofNat_of_zero_le a0
  obtain ⟨y, rfl⟩ := Int.eq_ofNat_of_zero_le b0
  have hx : x < 18446744073709551616 := by omega
  have hy : y < 18446744073709551616 := by omega
  have hcl : card x ≤ 1099511627776 := Nat.le_trans (card_le x) (by decide)
  have HT := Lib.hid hT
  clear hT wa wb wp a0 a1 b0 b1
  go_enter Tryd.func3, Tryd.ntmps3
  go_wp2_with fail
  refine (awake2_any _).mono ?_
  rintro e w1 ⟨rfl, hB⟩
  go_wp2_with fail
  refine (has_any _ _ _ hx p0 p1).mono ?_
  rintro e w2 ⟨rfl, rfl⟩
  go_wp2_with fail
  refine (refHas_any _ _ _ hx p0 p1).mono ?_
  rintro e w2 ⟨rfl, h2⟩
  replace hB := hB.trans (h2.mono hB.size)
  clear h2
  go_wp2_with fail
  refine (both_any _ _ _ hx hy).mono ?_
  rintro e w3 ⟨rfl, rfl⟩
  go_wp2_with fail
  refine (refBoth_any _ _ _ hx hy).mono ?_
  rintro e w3 ⟨rfl, h2⟩
  replace hB := hB.trans (h2.mono hB.size)
  clear h2
  go_wp2_with fail
  refine (any_any _ _ _ hx hy).mono ?_
  rintro e w4 ⟨rfl, rfl⟩
  go_wp2_with fail
  refine (refAny_any _ _ _ hx hy).mono ?_
  rintro e w4 ⟨rfl, h2⟩
  replace hB := hB.trans (h2.mono hB.size)
  clear h2
  go_wp2_with fail
  refine (but_any _ _ _ hx hy).mono ?_
  rintro e w5 ⟨rfl, rfl⟩
  go_wp2_with fail
  refine (refBut_any _ _ _ hx hy).mono ?_
  rintro e w5 ⟨rfl, h2⟩
  replace hB := hB.trans (h2.mono hB.size)
  clear h2
  go_wp2_with fail
  refine (in_any _ _ _ hx hy).mono ?_
  rintro e w6 ⟨rfl, rfl⟩
  go_wp2_with fail
  refine (refIn_any _ _ _ hx hy).mono ?_
  rintro e w6 ⟨rfl, h2⟩
  replace hB := hB.trans (h2.mono hB.size)
  clear h2
  go_wp2_with fail
  refine (size_any _ _ hx).mono ?_
  rintro e w7 ⟨rfl, rfl⟩
  go_wp2_with fail
  refine (refSize_any _ _ hx).mono ?_
  rintro e w7 ⟨rfl, h2⟩
  replace hB := hB.trans (h2.mono hB.size)
  clear h2
  go_wp2_with fail
  refine (min_any _ _ hx (fun _ => HT.out.below hB (Nat.le_refl _))).mono ?_
  rintro e w8 ⟨rfl, rfl⟩
  go_wp2_with fail
  refine (refMin_any _ _ hx).mono ?_
  rintro e w8 ⟨rfl, h2⟩
  replace hB := hB.trans (h2.mono hB.size)
  clear h2
  go_wp2_with fail
  refine (list_any _ _ hx).mono ?_
  rintro e w9 ⟨rfl, i1, h2⟩
  replace hB := hB.trans (h2.mono hB.size)
  clear h2
  go_wp2_with fail
  refine (refList_any _ _ hx).mono ?_
  rintro e w10 ⟨ao, c, rfl, i2, h2⟩
  replace hB := hB.trans (h2.mono hB.size)
  have i3 := i1.below h2
  clear h2 i1
  go_wp2_with fail
  refine (same_any _ _ _ _ _ _ _ i3 i2 hcl).mono ?_
  rintro e w11 ⟨rfl, h2⟩
  replace hB := hB.trans (h2.mono hB.size)
  clear h2 i3 i2
  go_wp2_with fail
  refine (most_any _ _ _ hx hy).mono ?_
  rintro e w12 ⟨rfl, rfl⟩
  go_wp2_with fail
  refine (refMost_any _ _ _ hx hy).mono ?_
  rintro e w12 ⟨rfl, h2⟩
  replace hB := hB.trans (h2.mono hB.size)
  clear h2
  go_wp2_with fail
  refine (all_any _ _ p0 p1).mono ?_
  rintro e w13 ⟨rfl, rfl⟩
  go_wp2_with fail
  refine (refAll_any _ _ p0 p1).mono ?_
  rintro e w13 ⟨rfl, h2⟩
  replace hB := hB.trans (h2.mono hB.size)
  clear h2
  go_wp2
  go_ret
  exact ⟨rfl, hB⟩
end Go.Proofs.YtkcjfofnnkdpaaaDoor
