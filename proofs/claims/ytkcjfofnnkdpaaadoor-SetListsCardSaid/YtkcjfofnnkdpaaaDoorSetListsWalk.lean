/- The walk of 'SetLists'. -/
import Derived.Test.YtkcjfofnnkdpaaaDoorSetAwake
set_option linter.unusedVariables false
set_option linter.unusedSimpArgs false
namespace Go.Proofs.YtkcjfofnnkdpaaaDoor
open Go.RowKit

set_option maxHeartbeats 2000000 in
theorem walk_SetLists (a : Int) (wa : (Lit.int .u64 a).wf = true) (ao : Option Addr) (len cap : Nat) (l : List Int) (w : World) (hin : InI w ao len l) (hT : Tab w) :
    Calls Tryd.prog 4 #[.int .u64 a, .slice ao len cap] w fun e w' => e = .returned (.bool true) ∧ Below w.heap.size w w' := by
  obtain ⟨a0, a1⟩ := wf_u64 wa
  obtain ⟨x, rfl⟩ := Int.eq_ofNat_of_zero_le a0
  have hx : x < 18446744073709551616 := by omega
  clear hT wa a0 a1
  by_cases hbig : (1000 : Int) < len
  · go_enter Tryd.func4, Tryd.ntmps4
    go_wp2_with fail
    refine (awake2_any _).mono ?_
    rintro e w1 ⟨rfl, hB⟩
    go_wp2
    go_ret
    exact ⟨rfl, hB⟩
  have hl : len ≤ 1099511627776 := by omega
  go_enter Tryd.func4, Tryd.ntmps4
  go_wp2_with fail
  refine (awake2_any _).mono ?_
  rintro e w1 ⟨rfl, hB⟩
  go_wp2_with fail
  refine (refOf_any _ _ _ _ _ (hin.below hB) hl).mono ?_
  rintro e w2 ⟨rfl, h2⟩
  replace hB := hB.trans (h2.mono hB.size)
  clear h2
  go_wp2_with fail
  refine (of_any _ _ _ _ _ (hin.below hB) hl).mono ?_
  rintro e w3 ⟨rfl, rfl⟩
  go_wp2_with fail
  refine (with_any _ _ _ _ _ _ hx (hin.below hB) hl).mono ?_
  rintro e w3 ⟨rfl, rfl⟩
  go_wp2_with fail
  refine (refAny_any _ _ _ hx (ofl_lt _)).mono ?_
  rintro e w3 ⟨rfl, h2⟩
  replace hB := hB.trans (h2.mono hB.size)
  clear h2
  go_wp2_with fail
  refine (less_any _ _ _ _ _ _ hx (hin.below hB) hl).mono ?_
  rintro e w4 ⟨rfl, rfl⟩
  go_wp2_with fail
  refine (refBut_any _ _ _ hx (ofl_lt _)).mono ?_
  rintro e w4 ⟨rfl, h2⟩
  replace hB := hB.trans (h2.mono hB.size)
  clear h2
  go_wp2
  go_ret
  exact ⟨rfl, hB⟩
end Go.Proofs.YtkcjfofnnkdpaaaDoor
