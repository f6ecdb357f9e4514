/- The contract of strings.Clone: the same bytes. -/
import Derived.Test.YtblefbjmjhgkkaaZLaws
import Derived.Lib.Strings
import Derived.Lib.UnsafeStr
import Derived.Lib.BufferWrite
set_option linter.unusedVariables false
set_option maxRecDepth 100000
set_option linter.unusedSimpArgs false
namespace Go.Proofs.Ytblefbjmjhgkkaa
open Go.RowKit

set_option maxRecDepth 100000 in
theorem cloneIn_any (s : ByteArray) (w : World) (hs : s.size ≤ 1099511627776) :
    Calls Try.prog 74 #[.string s] w fun e w' => e = .returned (.string s) ∧ Below w.heap.size w w' := by
  by_cases h0 : s.size = 0
  · have hs0 : s = ⟨#[]⟩ := by
      apply ByteArray.ext
      exact Array.eq_empty_of_size_eq_zero h0
    subst hs0
    go_enter Try.func74, Try.ntmps74
    go_wp2
    go_ret
    exact ⟨rfl, Below.refl _ _⟩
  obtain ⟨i0, hi, hz0, hz1, hz2⟩ := info_parts Try.info8
  have hinfo : (Try.prog.info? 5).map (·.size) = some 1 := by rw [hi]; simp [hz1]
  have hco : Try.prog.cellsOf 5 = 1 := by simp [Program.cellsOf, hi, hz1]
  obtain ⟨C, hC⟩ : ∃ C, C = List.replicate s.size (Value.int .u8 0) := ⟨_, rfl⟩
  have hCs : C.length = s.size := by rw [hC, List.length_replicate]
  have hmk := makes8 s.size s.size (Nat.le_refl _) (by omega)
  rw [← hC] at hmk
  have hcp := Lib.run_copy_row_string (P := Try.prog) (w.alloc (.cells C.toArray 5)) 84 9 3 5 w.heap.size 0 s.size s.size s C.toArray 5 Try.underlying84 hinfo (heap_alloc_last w _) (Nat.le_refl _) (by rw [List.size_toArray, hCs]; omega)
  obtain ⟨Y, hY⟩ : ∃ Y, Y = (C.toArray.toList.take 0 ++ Lib.byteCells s.data.toList ++ C.toArray.toList.drop (0 + s.size)).toArray := ⟨_, rfl⟩
  rw [← hY] at hcp
  have hYl : Y.toList = Lib.byteCells s.data.toList := by
    rw [hY, List.toList_toArray, List.take_zero, List.nil_append, List.drop_of_length_le (by simp; omega), List.append_nil]
  have hYs : Y.size = s.size := by rw [← Array.length_toList, hYl, Lib.byteCells_length, ← Lib.size_eq]
  have hgY : ((w.alloc (.cells C.toArray 5)).setRow w.heap.size Y).heap[w.heap.size]? = some (.cells Y 5 (0, 0)) := setRow_heap _ _ C.toArray _ 5 (0, 0) (heap_alloc_last w _)
  have hne : s.data.toList ≠ [] := fun e => h0 (by rw [Lib.size_eq, e]; rfl)
  have hUS := Lib.run_unsafeString_row (P := Try.prog) ((w.alloc (.cells C.toArray 5)).setRow w.heap.size Y) 107 3 9 5 Try.underlying107 hco w.heap.size Y.size (by unfold World.shape?; rw [hgY]) s.data.toList hne (by rw [← Lib.size_eq]; omega) (by rw [← Lib.size_eq]; omega)
    (fun j x hx => Lib.cells_of_row hgY Y.size j _ (by rw [List.take_of_length_le (by rw [Array.length_toList]; exact Nat.le_refl _), hYl]; simp [Lib.byteCells, hx]))
  rw [← Lib.size_eq] at hUS
  clear hY hC hCs
  go_enter Try.func74, Try.ntmps74
  go_wp2
  go_ret
  have hb1 : Below w.heap.size w (w.alloc (.cells C.toArray 5)) := (Below.refl _ w).alloc (Nat.le_refl _) _
  exact ⟨rfl, Lib.below_freeze (below_setRow hb1 (Nat.le_refl _) _) (p := ⟨w.heap.size, 0, none⟩) (Nat.le_refl _) _⟩

theorem clone_any (s : ByteArray) (w : World) (hs : s.size ≤ 1099511627776) :
    Calls Try.prog 72 #[.string s] w fun e w' => e = .returned (.string s) ∧ Below w.heap.size w w' := by
  go_enter Try.func72, Try.ntmps72
  go_wp2_with fail
  refine (cloneIn_any _ _ hs).mono ?_
  rintro e w' ⟨rfl, hb⟩
  go_wp2
  go_ret
  exact ⟨rfl, hb⟩
end Go.Proofs.Ytblefbjmjhgkkaa
