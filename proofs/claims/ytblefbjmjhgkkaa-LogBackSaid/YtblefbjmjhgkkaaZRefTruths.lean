/- The contracts of the document's own Truths and Set: 64 truths. -/
import Derived.Test.YtblefbjmjhgkkaaZSetLists
import Derived.Deep.WholeRow
import Derived.Laws.Rows
import Derived.Laws.Tables
set_option linter.unusedVariables false
set_option maxRecDepth 100000
set_option linter.unusedSimpArgs false
namespace Go.Proofs.Ytblefbjmjhgkkaa
open Go.RowKit

/-- 64 truths as cells. -/
def truths (f : Nat → Bool) : Array Value := ((List.range 64).map fun p => Value.bool (f p)).toArray
theorem truths_size (f : Nat → Bool) : (truths f).size = 64 := by simp [truths]
theorem truths_get (f : Nat → Bool) (k : Nat) (h : k < 64) : (truths f)[k]? = some (.bool (f k)) := by
  simp [truths, h]
theorem truths_one (f : Nat → Bool) : (truths f).all (·.oneCell') = true := by
  simp [truths, Value.oneCell']
theorem truths_ext (f g : Nat → Bool) (h : ∀ i, i < 64 → f i = g i) : truths f = truths g := by
  unfold truths
  congr 1
  apply List.map_congr_left
  intro i hi
  rw [h i (by simpa using hi)]
theorem truths_set (f : Nat → Bool) (k : Nat) (b : Bool) (h : k < 64) : (truths f).setIfInBounds k (.bool b) = truths (fun p => if p = k then b else f p) := by
  apply Array.ext_getElem?
  intro i
  rw [Array.getElem?_setIfInBounds]
  by_cases hi : i < 64
  · rw [truths_get f i hi, truths_get _ i hi]
    by_cases e : k = i
    · subst e; rw [if_pos rfl, if_pos (by rw [truths_size]; exact h), if_pos rfl]
    · rw [if_neg e, if_neg (fun h2 => e h2.symm)]
  · rw [if_neg (by omega), Array.getElem?_eq_none (by rw [truths_size]; omega), Array.getElem?_eq_none (by rw [truths_size]; omega)]
theorem truths_none : truths (fun _ => false) = #[.bool false, .bool false, .bool false, .bool false, .bool false, .bool false, .bool false, .bool false, .bool false, .bool false, .bool false, .bool false, .bool false, .bool false, .bool false, .bool false,
    .bool false, .bool false, .bool false, .bool false, .bool false, .bool false, .bool false, .bool false, .bool false, .bool false, .bool false, .bool false, .bool false, .bool false, .bool false, .bool false,
    .bool false, .bool false, .bool false, .bool false, .bool false, .bool false, .bool false, .bool false, .bool false, .bool false, .bool false, .bool false, .bool false, .bool false, .bool false, .bool false,
    .bool false, .bool false, .bool false, .bool false, .bool false, .bool false, .bool false, .bool false, .bool false, .bool false, .bool false, .bool false, .bool false, .bool false, .bool false, .bool false] := by rfl

theorem below_setRow {B : Nat} {a w : World} (h : Below B a w) (g : Nat) (cs : Array Value) (hg : B ≤ g) : Below B a (w.setRow g cs) :=
  ⟨h.os, h.tape, h.output, by rw [setRow_size]; exact h.size, fun k hk => (setRow_other w g k cs (by omega)).trans (h.block k hk)⟩
theorem truths_same (f f' : Nat → Bool) : (truths f).size = (truths f').size := by rw [truths_size, truths_size]

theorem bit_of (x V k : Nat) (h : V = x / 2 ^ k) : (((V : Int) % 2) == 1) = x.testBit k := by
  rw [Nat.testBit_eq_decide_div_mod_eq, ← h]
  by_cases e : V % 2 = 1
  · rw [decide_eq_true e, beq_iff_eq]; omega
  · rw [decide_eq_false e, beq_eq_false_iff_ne]; omega
end Go.Proofs.Ytblefbjmjhgkkaa
