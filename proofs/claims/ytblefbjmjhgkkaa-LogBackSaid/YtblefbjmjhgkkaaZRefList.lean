/- The contracts of the document's own List, Size, Min, Most, Same, Of. -/
import Derived.Test.YtblefbjmjhgkkaaZRefTwo
import Derived.RegionTactic
set_option linter.unusedVariables false
set_option maxRecDepth 100000
set_option linter.unusedSimpArgs false
namespace Go.Proofs.Ytblefbjmjhgkkaa
open Go.RowKit

/-- A slice of the call's own, nil or not, whose elements are the numbers L. -/
theorem InI.owned {w : World} {base n : Nat} {v : Value} {L : List Nat} (h : w.ownsRow base 3 1 v n (cellsI L)) (hL : ∀ p ∈ L, p < 64) : ∃ ao c, v = .slice ao n c ∧ InI w ao n (ints L) := by
  rcases h.2 with ⟨rfl, rfl⟩ | ⟨g, cap, cur, rfl, rest⟩
  · refine ⟨none, 0, rfl, ?_⟩
    have : L = [] := by have := h.1; simpa [cellsI] using this
    subst this
    exact ⟨rfl, fun j v hj => by simp [ints] at hj, fun v hv => by simp [ints] at hv⟩
  · exact ⟨some ⟨g, 0, none⟩, cap, rfl, InI.own (base := base) ⟨h.1, .inr ⟨g, cap, cur, rfl, rest⟩⟩ hL⟩

/-- A list's answer. -/
def Lists (a : Nat) (w : World) (e : Ending) (w' : World) : Prop := ∃ ao c, e = .returned (.slice ao (card a) c) ∧ InI w' ao (card a) (ints (lst a)) ∧ Below w.heap.size w w'

end Go.Proofs.Ytblefbjmjhgkkaa
