/- The walk of 'SetParts'. -/
import Derived.Test.YtkcjfofnnkdpaaaDoorSetAwake
import Derived.Test.YtkcjfofnnkdpaaaDoorSetLaws
import Derived.Deep.QuietTactic
import Derived.BigQuiet
set_option linter.unusedVariables false
set_option linter.unusedSimpArgs false
namespace Go.Proofs.YtkcjfofnnkdpaaaDoor
open Go.RowKit

set_option maxHeartbeats 2000000 in
theorem walk_SetParts (a : Int) (wa : (Lit.int .u64 a).wf = true) (b : Int) (wb : (Lit.int .u64 b).wf = true) (w : World) (hT : Tab w) :
    Calls Tryd.prog 7 #[.int .u64 a, .int .u64 b] w fun e w' => e = .returned (.bool true) ∧ Below w.heap.size w w' := by
  obtain ⟨a0, a1⟩ := wf_u64 wa
  obtain ⟨b0, b1⟩ := wf_u64 wb
  obtain ⟨x, rfl⟩ := Int.eq_ofNat_of_zero_le a0
  obtain ⟨y, rfl⟩ := Int.eq_ofNat_of_zero_le b0
  have hx : x < 18446744073709551616 := by omega
  have hy : y < 18446744073709551616 := by omega
  clear hT wa wb a0 a1 b0 b1
  have l1 := both_lt x y
  have l2 := but_lt x y
  have l3 := any_lt x y
  have l4 := both_lt (both x y) (but x y)
  have c1 := card_le (both x y)
  have c2 := card_le (but x y)
  have c3 := card_le (any x y)
  have c4 := card_le x
  have c5 := card_le y
  have e1 := parts_any x y hx
  have e2 := parts_both x y
  have s1 := parts_card x y
  have s2 := parts_sum x y
  have e3 : ((card (both x y) : Int) + (card (but x y) : Int) == (card x : Int)) = true := by rw [beq_iff_eq]; omega
  have e4 : ((card (any x y) : Int) + (card (both x y) : Int) == (card x : Int) + (card y : Int)) = true := by rw [beq_iff_eq]; omega
  have e5 := inn_both1 x y
  have e6 := inn_both2 x y
  have e7 := inn_any x y
  have e8 := inn_eq x y hx
  clear s1 s2
  go_enter Tryd.func7, Tryd.ntmps7
  go_wp2_with fail
  refine (awake2_any _).mono ?_
  rintro e w1 ⟨rfl, hB⟩
  go_wp2_with fail
  refine (both_any _ _ _ hx hy).mono ?_
  rintro e w2 ⟨rfl, rfl⟩
  go_wp2_with fail
  refine (but_any _ _ _ hx hy).mono ?_
  rintro e w2 ⟨rfl, rfl⟩
  go_wp2_with fail
  refine (any_any _ _ _ l1 l2).mono ?_
  rintro e w2 ⟨rfl, rfl⟩
  go_wp2_with fail
  refine (both_any _ _ _ l1 l2).mono ?_
  rintro e w2 ⟨rfl, rfl⟩
  go_wp2_with fail
  refine (size_any _ _ l1).mono ?_
  rintro e w2 ⟨rfl, rfl⟩
  go_wp2_with fail
  refine (size_any _ _ l2).mono ?_
  rintro e w2 ⟨rfl, rfl⟩
  go_wp2_with fail
  refine (size_any _ _ hx).mono ?_
  rintro e w2 ⟨rfl, rfl⟩
  go_wp2_with fail
  refine (any_any _ _ _ hx hy).mono ?_
  rintro e w2 ⟨rfl, rfl⟩
  go_wp2_with fail
  refine (size_any _ _ l3).mono ?_
  rintro e w2 ⟨rfl, rfl⟩
  go_wp2_with fail
  refine (size_any _ _ l1).mono ?_
  rintro e w2 ⟨rfl, rfl⟩
  go_wp2_with fail
  refine (size_any _ _ hx).mono ?_
  rintro e w2 ⟨rfl, rfl⟩
  go_wp2_with fail
  refine (size_any _ _ hy).mono ?_
  rintro e w2 ⟨rfl, rfl⟩
  go_wp2_with fail
  refine (in_any _ _ _ l1 hx).mono ?_
  rintro e w2 ⟨rfl, rfl⟩
  go_wp2_with fail
  refine (in_any _ _ _ l1 hy).mono ?_
  rintro e w2 ⟨rfl, rfl⟩
  go_wp2_with fail
  refine (any_any _ _ _ hx hy).mono ?_
  rintro e w2 ⟨rfl, rfl⟩
  go_wp2_with fail
  refine (in_any _ _ _ hx l3).mono ?_
  rintro e w2 ⟨rfl, rfl⟩
  go_wp2_with fail
  refine (in_any _ _ _ hx hy).mono ?_
  rintro e w2 ⟨rfl, rfl⟩
  go_wp2
  go_ret
  exact ⟨rfl, hB⟩
end Go.Proofs.YtkcjfofnnkdpaaaDoor
