/- A slice whose elements take k cells each; two cells of the call's own; the greatest key of a list. -/
import Derived.Test.YtafenlacacghoaaMsg
import Derived.Deep.SlicePairs
set_option linter.unusedVariables false
set_option linter.unusedSimpArgs false
namespace Go.Proofs.Ytafenlacacghoaa
open Go.RowKit Go.Sort

/-- A key's two cells. -/
def encK (a : K) : List Value := [.int .u64 a.n, .int .i64 a.p]

/-- Two cells of one block, neither frozen. -/
structure Two (w : World) (g : Nat) (a b : Value) : Prop where
  c0 : w.cell? ⟨g, 0, none⟩ = some a
  c1 : w.cell? ⟨g, 1, none⟩ = some b
  f0 : w.frozen? ⟨g, 0, none⟩ = false
  f1 : w.frozen? ⟨g, 1, none⟩ = false
theorem Two.keep {w w' : World} {g : Nat} {a b : Value} (h : Two w g a b) (hc : ∀ i, w'.cell? ⟨g, i, none⟩ = w.cell? ⟨g, i, none⟩) (hf : ∀ i, w'.frozen? ⟨g, i, none⟩ = w.frozen? ⟨g, i, none⟩) : Two w' g a b :=
  ⟨(hc 0).trans h.c0, (hc 1).trans h.c1, (hf 0).trans h.f0, (hf 1).trans h.f1⟩
theorem Two.below {w w' : World} {g : Nat} {a b : Value} (h : Two w g a b) {B : Nat} (hb : Below B w w') (hg : g < B) : Two w' g a b :=
  h.keep (fun i => hb.cell (p := ⟨g, i, none⟩) hg) (fun i => hb.frozen (p := ⟨g, i, none⟩) hg)
theorem Two.lt {w : World} {g : Nat} {a b : Value} (h : Two w g a b) : g < w.heap.size := World.block_lt_of_cell? (a := ⟨g, 0, none⟩) _ h.c0
theorem Two.alloc {w : World} {g : Nat} {a b : Value} (h : Two w g a b) (o : Obj) : Two (w.alloc o) g a b :=
  h.below ((Below.refl w.heap.size w).alloc (Nat.le_refl _) o) h.lt

theorem lastK_next (l : List K) (k : Nat) (x : K) (hx : l[k]? = some x) : lastK (l.take (k + 1)) = if k = 0 then x else if (lastK (l.take k)).less x then x else lastK (l.take k) := by
  obtain ⟨hlt, rfl⟩ := List.getElem?_eq_some_iff.1 hx
  rw [List.take_succ_eq_append_getElem hlt]
  by_cases h0 : k = 0
  · subst h0; rw [if_pos rfl]; rfl
  · rw [if_neg h0, lastK_snoc]
    intro e
    have := congrArg List.length e
    rw [List.length_take, List.length_nil] at this
    omega
theorem Two.set {w : World} {g : Nat} {a b : Value} (h : Two w g a b) (u v : Value) : Two ((w.setCell ⟨g, 0, none⟩ u).setCell ⟨g, 1, none⟩ v) g u v := by
  obtain ⟨c0, c1, f0, f1⟩ := h
  refine ⟨?_, ?_, by rw [World.frozen?_setCell, World.frozen?_setCell]; exact f0, by rw [World.frozen?_setCell, World.frozen?_setCell]; exact f1⟩
  · rw [World.cell?_setCell_other _ _ _ _ (by intro e; injection e; omega)]
    exact World.cell?_setCell_same' _ _ _ (by rw [c0]; rfl)
  · refine World.cell?_setCell_same' _ _ _ ?_
    rw [World.cell?_setCell_other _ _ _ _ (by intro e; injection e; omega), c1]; rfl
theorem Two.far {w : World} {g : Nat} {a b : Value} (h : Two w g a b) {p : Addr} (hp : p.block ≠ g) (u : Value) : Two (w.setCell p u) g a b :=
  h.keep (fun i => World.cell?_setCell_other _ _ _ _ (by intro e; apply hp; rw [e])) (fun i => World.frozen?_setCell ..)

end Go.Proofs.Ytafenlacacghoaa
