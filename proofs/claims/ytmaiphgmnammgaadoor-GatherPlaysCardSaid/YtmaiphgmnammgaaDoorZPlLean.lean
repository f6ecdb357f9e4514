/- Plans: does one lean on what is behind an end? -/
import Derived.Test.YtmaiphgmnammgaaDoorZPlFns
set_option linter.unusedVariables false
set_option maxRecDepth 100000
set_option linter.unusedSimpArgs false
namespace Go.Proofs.YtmaiphgmnammgaaDoor
open Go.RowKit Go.Sort Go.Shelf

/-- .. as a truth. -/
noncomputable def leantB (e : Nat → Int) (deps : List Int) : Bool := @decide (leantE e deps) (Classical.propDecidable _)
theorem leant_iff {e : Nat → Int} {deps : List Int} : leantB e deps = true ↔ leantE e deps := by unfold leantB; exact @decide_eq_true_iff _ (Classical.propDecidable _)
theorem leant_not {e : Nat → Int} {deps : List Int} (h : ∀ (q : Nat) (d : Int), deps[q]? = some d → d < endAt e (q : Int)) : leantB e deps = false := by
  cases hb : leantB e deps with
  | false => rfl
  | true =>
    obtain ⟨q, d, h1, h2⟩ := leant_iff.1 hb
    have := h q d h1
    omega
/-- Deps are numbers of their kind. -/
def DepsOk (deps : List Int) : Prop := ∀ d ∈ deps, 0 ≤ d ∧ d < 4294967296
section
variable {w : World} {b : Nat} {e : Nat → Int}
end
end Go.Proofs.YtmaiphgmnammgaaDoor
