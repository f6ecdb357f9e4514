/- The contracts of the two sums that stay: the program's and the document's both answer 'sat'. -/
import Derived.Test.YtneeplmdmdkjeaaRows
import Derived.Test.YtneeplmdmdkjeaaMath
import Derived.WalkKit
import Derived.ProofKit
import Derived.OpenShut
set_option linter.unusedVariables false
set_option linter.unusedSimpArgs false
namespace Go.Proofs.Ytneeplmdmdkjeaa
open Go.RowKit

theorem sum_any (a b : Int) (w : World) (ha : 0 ≤ a) (ha' : a ≤ 18446744073709551615) (hb : 0 ≤ b) (hb' : b ≤ 18446744073709551615) :
    Calls Try.prog 13 #[.int .u64 a, .int .u64 b] w fun e w' => e = .returned (.int .u64 (sat a b)) ∧ w = w' := by
  by_cases h : 18446744073709551615 - b < a
  · have e : sat a b = 18446744073709551615 := by unfold sat top; split <;> omega
    rw [e]
    clear e
    go_enter Try.func13, Try.ntmps13
    go_wp2
    go_ret
    exact ⟨rfl, rfl⟩
  · have e : sat a b = a + b := by unfold sat top; split <;> omega
    rw [e]
    clear e
    have h0 : 0 ≤ a + b := by omega
    have h1 : a + b ≤ 18446744073709551615 := by omega
    go_enter Try.func13, Try.ntmps13
    go_wp2
    go_ret
    exact ⟨rfl, rfl⟩

theorem refSum_any (a b : Int) (w : World) (ha : 0 ≤ a) (ha' : a ≤ 18446744073709551615) (hb : 0 ≤ b) (hb' : b ≤ 18446744073709551615) :
    Calls Try.prog 14 #[.int .u64 a, .int .u64 b] w fun e w' => e = .returned (.int .u64 (sat a b)) ∧ w = w' := by
  by_cases h : 18446744073709551615 < a + b
  · have e : sat a b = 18446744073709551615 := by unfold sat top; split <;> omega
    have hw : IntKind.u64.wrap (a + b) < a := by rw [IntKind.wrap_u64]; omega
    rw [e]
    clear e
    go_enter Try.func14, Try.ntmps14
    go_wp2
    go_ret
    exact ⟨rfl, rfl⟩
  · have e : sat a b = a + b := by unfold sat top; split <;> omega
    rw [e]
    clear e
    have h0 : 0 ≤ a + b := by omega
    have h1 : a + b ≤ 18446744073709551615 := by omega
    go_enter Try.func14, Try.ntmps14
    go_wp2
    go_ret
    exact ⟨rfl, rfl⟩
end Go.Proofs.Ytneeplmdmdkjeaa
