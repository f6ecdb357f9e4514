/- The contracts of the document's own Set, Has, Both, Any, But, In, All. -/
import Derived.Test.YtblefbjmjhgkkaaZRefTruths
set_option linter.unusedVariables false
set_option maxRecDepth 100000
set_option linter.unusedSimpArgs false
namespace Go.Proofs.Ytblefbjmjhgkkaa
open Go.RowKit

theorem num_step (h : Nat) (hh : h < 2 ^ 63) (b : Bool) : IntKind.u64.wrap ((h : Int) * 2) = (h : Int) * 2 ∧ IntKind.u64.wrap ((h : Int) * 2 + 1) = ((h * 2 + 1 : Nat) : Int) := by
  have e : (2 : Nat) ^ 63 = 9223372036854775808 := by decide
  rw [e] at hh
  rw [IntKind.wrap_u64, IntKind.wrap_u64]
  omega

theorem wf_u64 {a : Int} (h : (Lit.int .u64 a).wf = true) : 0 ≤ a ∧ a ≤ 18446744073709551615 := by
  have := Go.bounds_u64 h
  omega
theorem wf_i64 {a : Int} (h : (Lit.int .i64 a).wf = true) : -9223372036854775808 ≤ a ∧ a ≤ 9223372036854775807 := by
  have := Go.bounds_i64 h
  omega
end Go.Proofs.Ytblefbjmjhgkkaa
