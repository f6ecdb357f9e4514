/- The contracts of 'once': a reader's call, what it gave up by recovered. -/
import Derived.Test.YtblefbjmjhgkkaaZPanics
import Derived.Tactics2
import Derived.Defers
import Derived.Recover
import Derived.Laws.Pointers
set_option linter.unusedVariables false
set_option maxRecDepth 100000
set_option linter.unusedSimpArgs false
namespace Go.Proofs.Ytblefbjmjhgkkaa
open Go.RowKit

theorem assert_short (w : World) : (Instr.typeAssert (.iface 34 (.int .i64 2)) 20 34 true).run Try.prog w = .ok (.tuple #[.int .i64 2, .bool true]) w := by kernel_rfl
theorem assert_nil (w : World) : (Instr.typeAssert .nilIface 20 34 true).run Try.prog w = .ok (.tuple #[.int .i64 0, .bool false]) w := by kernel_rfl

/-- A reader whose call was made good: what the block of it holds, and all other memory. -/
def Went (w w' : World) (b : Nat) (s : ByteArray) (a : Nat) : Prop := Rd w' b s a ∧ w.grownBy w' (some b)

/-- The three named results' boxes. -/
structure Boxes (w : World) (k : Nat) (v0 v1 v2 : Value) : Prop where
  c0 : w.cell? ⟨k + 1, 0, none⟩ = some v0
  c1 : w.cell? ⟨k + 1 + 1, 0, none⟩ = some v1
  c2 : w.cell? ⟨k + 1 + 1 + 1, 0, none⟩ = some v2
  f0 : w.frozen? ⟨k + 1, 0, none⟩ = false
  f1 : w.frozen? ⟨k + 1 + 1, 0, none⟩ = false
  f2 : w.frozen? ⟨k + 1 + 1 + 1, 0, none⟩ = false
theorem cell_new (w : World) (v : Value) (t : TypeId) (k : Nat) (h : w.heap.size = k) : (w.alloc (.cells #[v] t)).cell? ⟨k, 0, none⟩ = some v ∧ (w.alloc (.cells #[v] t)).frozen? ⟨k, 0, none⟩ = false := by
  subst h
  exact ⟨cell_one_new w v t 0 v rfl, by unfold World.frozen?; rw [heap_alloc_last]; rfl⟩
theorem Boxes.new (w : World) (o : Obj) (v0 v1 v2 : Value) (t0 t1 t2 : TypeId) : Boxes ((((w.alloc o).alloc (.cells #[v0] t0)).alloc (.cells #[v1] t1)).alloc (.cells #[v2] t2)) w.heap.size v0 v1 v2 := by
  have hz : (w.alloc o).heap.size = w.heap.size + 1 := by simp
  have a0 := cell_new (w.alloc o) v0 t0 _ hz
  have hz1 : ((w.alloc o).alloc (.cells #[v0] t0)).heap.size = w.heap.size + 1 + 1 := by simp
  have a1 := cell_new ((w.alloc o).alloc (.cells #[v0] t0)) v1 t1 _ hz1
  have hz2 : (((w.alloc o).alloc (.cells #[v0] t0)).alloc (.cells #[v1] t1)).heap.size = w.heap.size + 1 + 1 + 1 := by simp
  have a2 := cell_new (((w.alloc o).alloc (.cells #[v0] t0)).alloc (.cells #[v1] t1)) v2 t2 _ hz2
  have b1 : Below (w.heap.size + 1 + 1) ((w.alloc o).alloc (.cells #[v0] t0)) ((((w.alloc o).alloc (.cells #[v0] t0)).alloc (.cells #[v1] t1)).alloc (.cells #[v2] t2)) := ((Below.refl _ _).alloc (by rw [hz1]; omega) _).alloc (by rw [hz2]; omega) _
  have b2 : Below (w.heap.size + 1 + 1 + 1) (((w.alloc o).alloc (.cells #[v0] t0)).alloc (.cells #[v1] t1)) ((((w.alloc o).alloc (.cells #[v0] t0)).alloc (.cells #[v1] t1)).alloc (.cells #[v2] t2)) := (Below.refl _ _).alloc (by rw [hz2]; omega) _
  exact ⟨(b1.cell (p := ⟨w.heap.size + 1, 0, none⟩) (by simp)).trans a0.1, (b2.cell (p := ⟨w.heap.size + 1 + 1, 0, none⟩) (by simp)).trans a1.1, a2.1,
    (b1.frozen (p := ⟨w.heap.size + 1, 0, none⟩) (by simp)).trans a0.2, (b2.frozen (p := ⟨w.heap.size + 1 + 1, 0, none⟩) (by simp)).trans a1.2, a2.2⟩
/-- The boxes stay where one block below is turned. -/
theorem Boxes.kept {w w' : World} {k : Nat} {v0 v1 v2 : Value} (h : Boxes w k v0 v1 v2) {b : Nat} (hg : w.grownBy w' (some b)) (hb : b < k) : Boxes w' k v0 v1 v2 := by
  have hk : ∀ j, j < w.heap.size → j ≠ b → w'.heap[j]? = w.heap[j]? := fun j hj hn => hg.block j hj (fun e => hn (by cases e; rfl))
  have l0 := World.block_lt_of_cell? _ _ h.c0
  have l1 := World.block_lt_of_cell? _ _ h.c1
  have l2 := World.block_lt_of_cell? _ _ h.c2
  refine ⟨?_, ?_, ?_, ?_, ?_, ?_⟩
  · rw [World.cell?_of_block (hk _ l0 (by dsimp only; omega))]; exact h.c0
  · rw [World.cell?_of_block (hk _ l1 (by dsimp only; omega))]; exact h.c1
  · rw [World.cell?_of_block (hk _ l2 (by dsimp only; omega))]; exact h.c2
  · rw [World.frozen?_of_block (hk _ l0 (by dsimp only; omega))]; exact h.f0
  · rw [World.frozen?_of_block (hk _ l1 (by dsimp only; omega))]; exact h.f1
  · rw [World.frozen?_of_block (hk _ l2 (by dsimp only; omega))]; exact h.f2

/-- A reader whose call was made good: what the block of it holds, and all other memory. -/
theorem went_of {w w0 w1 : World} {b : Nat} {s : ByteArray} {a : Nat} {v0 v1 v2 : Value} {k : Nat} (hw : w.grownBy w1 (some b)) (hr : Rd w1 b s a) (hk : w.heap.size = k) (hb : b < k) :
    Went w (((w1.setCell ⟨k + 1, 0, none⟩ v0).setCell ⟨k + 1 + 1, 0, none⟩ v1).setCell ⟨k + 1 + 1 + 1, 0, none⟩ v2) b s a := by
  have hbl : Below k w1 (((w1.setCell ⟨k + 1, 0, none⟩ v0).setCell ⟨k + 1 + 1, 0, none⟩ v1).setCell ⟨k + 1 + 1 + 1, 0, none⟩ v2) :=
    (((Below.refl k w1).setCell (by simp) _).setCell (by simp; omega) _).setCell (by simp; omega) _
  refine ⟨hr.below hbl hb, ⟨hbl.os.trans hw.os, hbl.tape.trans hw.tape, hbl.output.trans hw.output, Nat.le_trans hw.size hbl.size, fun j hj hn => (hbl.block j (by omega)).trans (hw.block j hj hn)⟩⟩
theorem grown_allocs (w : World) (o0 o1 o2 o3 : Obj) (row : Option Nat) : w.grownBy ((((w.alloc o0).alloc o1).alloc o2).alloc o3) row := by
  have h : Below w.heap.size w ((((w.alloc o0).alloc o1).alloc o2).alloc o3) := ((((Below.refl _ _).alloc (Nat.le_refl _) _).alloc (by simp) _).alloc (by simp; omega) _).alloc (by simp; omega) _
  exact ⟨h.os, h.tape, h.output, h.size, fun k hk _ => h.block k hk⟩
theorem grown_trans {a b c : World} {row : Option Nat} (h : a.grownBy b row) (k : b.grownBy c row) : a.grownBy c row :=
  ⟨k.os.trans h.os, k.tape.trans h.tape, k.output.trans h.output, Nat.le_trans h.size k.size, fun i hi hn => (k.block i (Nat.lt_of_lt_of_le hi h.size) hn).trans (h.block i hi hn)⟩
theorem below_allocs (w : World) (o0 o1 o2 o3 : Obj) : Below w.heap.size w ((((w.alloc o0).alloc o1).alloc o2).alloc o3) :=
  ((((Below.refl _ _).alloc (Nat.le_refl _) _).alloc (by simp) _).alloc (by simp; omega) _).alloc (by simp; omega) _

end Go.Proofs.Ytblefbjmjhgkkaa
