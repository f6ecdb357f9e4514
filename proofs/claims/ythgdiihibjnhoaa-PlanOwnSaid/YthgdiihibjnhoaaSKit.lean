/- A stream in memory: its block, its map; what a call leaves of the rest; New, Count, Held, Lacks, holds. -/
import Derived.Test.YthgdiihibjnhoaaSMap
import Derived.Deep.RegionHeld3
set_option linter.unusedVariables false
set_option linter.unusedSimpArgs false
namespace Go.Proofs.Ythgdiihibjnhoaa
open Go.RowKit Go.Sort Go.Maps

/-- Nothing of what was there has turned but blocks g and b. -/
structure Mv (g b : Nat) (w w' : World) : Prop where
  os : w'.os = w.os
  tape : w'.tape = w.tape
  output : w'.output = w.output
  size : w.heap.size ≤ w'.heap.size
  block : ∀ k, k < w.heap.size → k ≠ g → k ≠ b → w'.heap[k]? = w.heap[k]?
theorem Mv.refl (g b : Nat) (w : World) : Mv g b w w := ⟨rfl, rfl, rfl, Nat.le_refl _, fun _ _ _ _ => rfl⟩
theorem Mv.trans {g b : Nat} {w w' w'' : World} (h : Mv g b w w') (k : Mv g b w' w'') : Mv g b w w'' :=
  ⟨k.os.trans h.os, k.tape.trans h.tape, k.output.trans h.output, Nat.le_trans h.size k.size, fun i hi h1 h2 => (k.block i (Nat.lt_of_lt_of_le hi h.size) h1 h2).trans (h.block i hi h1 h2)⟩
theorem Mv.of_below {g b : Nat} {w w' : World} (h : Below w.heap.size w w') : Mv g b w w' := ⟨h.os, h.tape, h.output, h.size, fun k hk _ _ => h.block k hk⟩
theorem Mv.grw {g b : Nat} {w w' : World} (h : Grw w w') : Mv g b w w' := .of_below h.below
/-- A step that turns a block that is new since w, or g, or b. -/
theorem Mv.grown {g b : Nat} {w w' w'' : World} {o : Option Nat} (h : Mv g b w w') (k : w'.grownBy w'' o) (ho : ∀ j, o = some j → w.heap.size ≤ j ∨ j = g ∨ j = b) : Mv g b w w'' :=
  ⟨k.os.trans h.os, k.tape.trans h.tape, k.output.trans h.output, Nat.le_trans h.size k.size, fun i hi h1 h2 => (k.block i (Nat.lt_of_lt_of_le hi h.size) (fun e => by
    rcases ho i e.symm with e1 | e1 | e1
    · omega
    · exact h1 e1
    · exact h2 e1)).trans (h.block i hi h1 h2)⟩
theorem Mv.below {g b : Nat} {w w' : World} (h : Mv g b w w') {B : Nat} (h0 : B ≤ w.heap.size) (h1 : B ≤ g) (h2 : B ≤ b) : Below B w w' :=
  ⟨h.os, h.tape, h.output, h.size, fun k hk => h.block k (by omega) (by omega) (by omega)⟩
theorem grown_set (w : World) (g j : Nat) (v : Value) : w.grownBy (w.setCell ⟨g, j, none⟩ v) (some g) :=
  ⟨rfl, rfl, rfl, by simp, fun k hk ho => heap_setCell_other w ⟨g, j, none⟩ k v (by intro e; apply ho; rw [e])⟩
theorem Mv.set {g b : Nat} {w w' : World} (h : Mv g b w w') (j : Nat) (v : Value) : Mv g b w (w'.setCell ⟨g, j, none⟩ v) := h.grown (grown_set w' g j v) (fun k e => by cases e; exact .inr (.inl rfl))
theorem Mv.turn {g b : Nat} {w w' w'' : World} (h : Mv g b w w') (k : w'.mapTurned w'' b) : Mv g b w w'' := h.grown k.grown (fun k e => by cases e; exact .inr (.inr rfl))
theorem Mv.drew {g b : Nat} {w w' : World} (h : Mv g b w w') : Mv g b w w'.drew := ⟨h.os, h.tape, h.output, h.size, h.block⟩
theorem Mv.alloc {g b : Nat} {w w' : World} (h : Mv g b w w') (o : Obj) : Mv g b w (w'.alloc o) := h.trans (.grw ((Grw.refl _).alloc o))

theorem msg_size : (Try.prog.info? 35).map (·.size) = some 6 := by kernel_rfl

/-- The size, as it counts. -/
def szN (n : Int) : Nat := (if n < 1 then 1 else if 64 < n then 64 else n).toNat
theorem szN_bounds (n : Int) : 1 ≤ szN n ∧ szN n ≤ 64 := by
  unfold szN
  split
  · decide
  · split
    · decide
    · omega

def lackN (c u : Nat) : Nat := if c < u then c + 1 else 0
end Go.Proofs.Ythgdiihibjnhoaa
