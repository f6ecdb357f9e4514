/- Plans: Keep. -/
import Derived.Test.YtmaiphgmnammgaaDoorZPlNew2
import Derived.Test.YtmaiphgmnammgaaDoorZSMaps
set_option linter.unusedVariables false
set_option maxRecDepth 100000
set_option linter.unusedSimpArgs false
namespace Go.Proofs.YtmaiphgmnammgaaDoor
open Go.RowKit Go.Sort Go.Shelf Go.Maps

theorem own_later15 {w w' : World} {base n : Nat} {t : TypeId} {v : Value} {xs : List Value} (h : w.ownsRow base t 6 v n xs) (hb : Below w.heap.size w w') : w'.ownsRow base t 6 v n xs := own_stays h fun j _ hl => hb.block j hl
theorem own_typ15 {w : World} {base n k : Nat} {t : TypeId} {v : Value} {xs : List Value} (h : w.ownsRow base t k v n xs) (j : Nat) (hj : some j = v.ownBlock) : base ≤ j ∧ ∃ cur, w.heap[j]? = some (.cells cur t (0, 0)) := by
  rcases h.2 with ⟨rfl, _⟩ | ⟨g, c, cur, rfl, h1, h3, _⟩
  · simp [Value.ownBlock] at hj
  · simp [Value.ownBlock] at hj
    subst hj
    exact ⟨h1, cur, h3⟩
section
variable {w wr w2 w' : World} {eb n : Nat} {e : Nat → Int} {L : List Mg} {v v' : Value} {X : List Mg}
end
theorem filt_take {e : Nat → Int} {R : List Mg} {k : Nat} {x : Mg} (hx : R[k]? = some x) : ((R.take (k + 1)).filter (aheadE e)).map strip = ((R.take k).filter (aheadE e)).map strip ++ (if aheadE e x = true then [strip x] else []) := by
  rw [List.take_add_one, hx, List.filter_append, List.map_append]
  congr 1
  show List.map strip (List.filter (aheadE e) [x]) = _
  rw [List.filter_cons]
  split
  · rw [List.filter_nil]; rfl
  · rfl
section
variable {w : World} {g : Nat} {P : Pn}
end
end Go.Proofs.YtmaiphgmnammgaaDoor
