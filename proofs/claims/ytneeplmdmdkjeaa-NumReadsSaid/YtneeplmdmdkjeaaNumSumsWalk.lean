/- The walk of 'NumSums'. -/
import Derived.Test.YtneeplmdmdkjeaaAwake
set_option linter.unusedVariables false
set_option linter.unusedSimpArgs false
namespace Go.Proofs.Ytneeplmdmdkjeaa
open Go.RowKit

theorem wf_u64 {a : Int} (h : (Lit.int .u64 a).wf = true) : 0 ≤ a ∧ a ≤ 18446744073709551615 := by
  have := Go.bounds_u64 h
  omega

theorem walk_NumSums (a : Int) (wa : (Lit.int .u64 a).wf = true) (b : Int) (wb : (Lit.int .u64 b).wf = true) (c : Int) (wc : (Lit.int .u64 c).wf = true) (w : World) :
    Calls Try.prog 7 #[.int .u64 a, .int .u64 b, .int .u64 c] w fun e w' => e = .returned (.bool true) ∧ Below w.heap.size w w' := by
  obtain ⟨a0, a1⟩ := wf_u64 wa
  obtain ⟨b0, b1⟩ := wf_u64 wb
  obtain ⟨c0, c1⟩ := wf_u64 wc
  go_enter Try.func7, Try.ntmps7
  go_wp2_with fail
  refine (awake_any _).mono ?_
  rintro e w1 ⟨rfl, hb1⟩
  have hs := sat_bd a b a0 b0
  have hs2 := sat_bd b c b0 c0
  have l1 := sat_lo a b a1 b0
  have l2 : b ≤ sat a b := by rw [sat_comm]; exact sat_lo b a b1 a0
  go_wp2_with fail
  refine (sum_any _ _ _ a0 a1 b0 b1).mono ?_
  rintro e w2 ⟨rfl, rfl⟩
  go_wp2_with fail
  refine (sum_any _ _ _ hs.1 hs.2 c0 c1).mono ?_
  rintro e w2 ⟨rfl, rfl⟩
  rw [sat_assoc a b c a0 b0 c0]
  go_wp2_with fail
  refine (sum_any _ _ _ b0 b1 c0 c1).mono ?_
  rintro e w2 ⟨rfl, rfl⟩
  go_wp2_with fail
  refine (sum_any _ _ _ a0 a1 hs2.1 hs2.2).mono ?_
  rintro e w2 ⟨rfl, rfl⟩
  go_wp2_with fail
  refine (sum_any _ _ _ a0 a1 b0 b1).mono ?_
  rintro e w2 ⟨rfl, rfl⟩
  go_wp2_with fail
  refine (sum_any _ _ _ b0 b1 a0 a1).mono ?_
  rintro e w2 ⟨rfl, rfl⟩
  rw [sat_comm b a]
  go_wp2_with fail
  refine (sum_any _ _ _ a0 a1 (Int.le_refl 0) (by decide)).mono ?_
  rintro e w2 ⟨rfl, rfl⟩
  rw [sat_zero a a1]
  go_wp2_with fail
  refine (sum_any _ _ _ a0 a1 b0 b1).mono ?_
  rintro e w2 ⟨rfl, rfl⟩
  go_wp2_with fail
  refine (sum_any _ _ _ a0 a1 b0 b1).mono ?_
  rintro e w2 ⟨rfl, rfl⟩
  go_wp2
  go_ret
  exact ⟨rfl, hb1⟩
end Go.Proofs.Ytneeplmdmdkjeaa
