/- The contracts of the document's own Truths and Set: 64 truths. -/
import Derived.Test.YtlaenabckpjikaaSetList
import Derived.Deep.WholeRow
import Derived.Laws.Rows
import Derived.Laws.Tables
set_option linter.unusedVariables false
set_option linter.unusedSimpArgs false
namespace Go.Proofs.Ytlaenabckpjikaa
open Go.RowKit

/-- 64 truths as cells. -/
def truths (f : Nat → Bool) : Array Value := ((List.range 64).map fun p => Value.bool (f p)).toArray
theorem truths_size (f : Nat → Bool) : (truths f).size = 64 := by simp [truths]
theorem truths_get (f : Nat → Bool) (k : Nat) (h : k < 64) : (truths f)[k]? = some (.bool (f k)) := by
  simp [truths, h]
theorem truths_one (f : Nat → Bool) : (truths f).all (·.oneCell') = true := by
  simp [truths, Value.oneCell']
theorem truths_ext (f g : Nat → Bool) (h : ∀ i, i < 64 → f i = g i) : truths f = truths g := by
  unfold truths
  congr 1
  apply List.map_congr_left
  intro i hi
  rw [h i (by simpa using hi)]
theorem truths_set (f : Nat → Bool) (k : Nat) (b : Bool) (h : k < 64) : (truths f).setIfInBounds k (.bool b) = truths (fun p => if p = k then b else f p) := by
  apply Array.ext_getElem?
  intro i
  rw [Array.getElem?_setIfInBounds]
  by_cases hi : i < 64
  · rw [truths_get f i hi, truths_get _ i hi]
    by_cases e : k = i
    · subst e; rw [if_pos rfl, if_pos (by rw [truths_size]; exact h), if_pos rfl]
    · rw [if_neg e, if_neg (fun h2 => e h2.symm)]
  · rw [if_neg (by omega), Array.getElem?_eq_none (by rw [truths_size]; omega), Array.getElem?_eq_none (by rw [truths_size]; omega)]
theorem truths_none : truths (fun _ => false) = #[.bool false, .bool false, .bool false, .bool false, .bool false, .bool false, .bool false, .bool false, .bool false, .bool false, .bool false, .bool false, .bool false, .bool false, .bool false, .bool false,
    .bool false, .bool false, .bool false, .bool false, .bool false, .bool false, .bool false, .bool false, .bool false, .bool false, .bool false, .bool false, .bool false, .bool false, .bool false, .bool false,
    .bool false, .bool false, .bool false, .bool false, .bool false, .bool false, .bool false, .bool false, .bool false, .bool false, .bool false, .bool false, .bool false, .bool false, .bool false, .bool false,
    .bool false, .bool false, .bool false, .bool false, .bool false, .bool false, .bool false, .bool false, .bool false, .bool false, .bool false, .bool false, .bool false, .bool false, .bool false, .bool false] := by rfl

/-- A block holds 64 truths. -/
structure Row (w : World) (g : Nat) (f : Nat → Bool) : Prop where
  is : w.heap[g]? = some (.cells (truths f) 71 (0, 0))
theorem Row.cell {w : World} {g : Nat} {f : Nat → Bool} (h : Row w g f) (k : Nat) (hk : k < 64) : w.cell? ⟨g, k, none⟩ = some (.bool (f k)) := by
  rw [cell_of_row w g k _ _ _ h.is, truths_get f k hk]
theorem Row.free {w : World} {g : Nat} {f : Nat → Bool} (h : Row w g f) (k : Nat) : w.frozen? ⟨g, k, none⟩ = false := frozen_of_row w g k _ _ h.is
theorem Row.set {w : World} {g : Nat} {f : Nat → Bool} (h : Row w g f) (k : Nat) (b : Bool) (hk : k < 64) : Row (w.setCell ⟨g, k, none⟩ (.bool b)) g (fun p => if p = k then b else f p) :=
  ⟨by rw [heap_setCell_same w g k _ _ _ h.is, truths_set f k b hk]⟩
theorem Row.other {w : World} {g g' : Nat} {f : Nat → Bool} (h : Row w g f) (k : Nat) (v : Value) (hg : g ≠ g') : Row (w.setCell ⟨g', k, none⟩ v) g f :=
  ⟨by rw [heap_setCell_other w ⟨g', k, none⟩ g v hg]; exact h.is⟩
theorem Row.ext {w : World} {g : Nat} {f f' : Nat → Bool} (h : Row w g f) (he : ∀ i, i < 64 → f i = f' i) : Row w g f' := ⟨by rw [← truths_ext f f' he]; exact h.is⟩
theorem Row.below {w w' : World} {g : Nat} {f : Nat → Bool} (h : Row w g f) {B : Nat} (hb : Below B w w') (hB : g < B) : Row w' g f := ⟨by rw [hb.block g hB]; exact h.is⟩
theorem Row.drew {w : World} {g : Nat} {f : Nat → Bool} (h : Row w g f) : Row w.drew g f := ⟨h.is⟩
theorem Row.alloc {w : World} {g : Nat} {f : Nat → Bool} (h : Row w g f) (o : Obj) : Row (w.alloc o) g f :=
  ⟨by rw [Below.heap_alloc w o g (Array.getElem?_eq_some_iff.1 h.is).1]; exact h.is⟩
/-- A whole row stored into another. -/
theorem Row.put {w : World} {g : Nat} {f : Nat → Bool} (h : Row w g f) (f' : Nat → Bool) : Row (w.setRow g (truths f')) g f' := ⟨setRow_heap w g _ _ _ _ h.is⟩
theorem Row.otherRow {w : World} {g g' : Nat} {f : Nat → Bool} (h : Row w g f) (cs : Array Value) (hg : g ≠ g') : Row (w.setRow g' cs) g f :=
  ⟨by rw [setRow_other w g' g cs hg]; exact h.is⟩
theorem below_setRow {B : Nat} {a w : World} (h : Below B a w) (g : Nat) (cs : Array Value) (hg : B ≤ g) : Below B a (w.setRow g cs) :=
  ⟨h.os, h.tape, h.output, by rw [setRow_size]; exact h.size, fun k hk => (setRow_other w g k cs (by omega)).trans (h.block k hk)⟩
theorem Try.info45 (f : Nat → Bool) : (Try.prog.info? 71).map (·.size) = some (truths f).size := by rw [truths_size]; kernel_rfl
theorem truths_same (f f' : Nat → Bool) : (truths f).size = (truths f').size := by rw [truths_size, truths_size]

theorem bit_of (x V k : Nat) (h : V = x / 2 ^ k) : (((V : Int) % 2) == 1) = x.testBit k := by
  rw [Nat.testBit_eq_decide_div_mod_eq, ← h]
  by_cases e : V % 2 = 1
  · rw [decide_eq_true e, beq_iff_eq]; omega
  · rw [decide_eq_false e, beq_eq_false_iff_ne]; omega
set_option maxHeartbeats 1000000 in
theorem truths_any (x : Nat) (w : World) (hx : x < 18446744073709551616) :
    Calls Try.prog 36 #[.int .u64 x] w fun e w' => e = .returned (.agg (truths x.testBit)) ∧ Below w.heap.size w w' := by
  go_enter Try.func36, Try.ntmps36
  go_wp2
  go_loopw [0, 4] (fun s i wr => ∃ k V : Nat, k ≤ 64 ∧ i = .int .i64 k ∧ s = .int .u64 (V : Int) ∧ V = x / 2 ^ k ∧
      Row wr w.heap.size (fun _ => false) ∧ Row wr (w.heap.size + 1) (fun p => decide (p < k) && x.testBit p) ∧ Below w.heap.size w wr)
    (fun _ i _ => 64 - (intOf i).toNat)
  case atStart =>
    refine ⟨0, x, Nat.zero_le _, rfl, rfl, by simp, ?_, ?_, ((Below.refl _ _).alloc (Nat.le_refl _) _).alloc (by simp) _⟩
    · exact ⟨heap_alloc2_old w _ _⟩
    · refine Row.ext (f := fun _ => false) ?_ (fun i _ => by simp)
      exact ⟨heap_alloc2_new w _ _⟩
  case round =>
    obtain ⟨k, V, hk, rfl, rfl, hV, h2, h3, hnx⟩ := hrel
    have hV64 : V < 18446744073709551616 := by rw [hV]; exact Nat.lt_of_le_of_lt (Nat.div_le_self _ _) hx
    have HB := Lib.hid (bit_of x V k hV)
    have HV := Lib.hid hV
    clear hV
    by_cases hlt : k < 64
    · have hc := h3.cell k hlt
      have hf := h3.free k
      go_wp2
      go_roundw
      case rel =>
        refine ⟨k + 1, V / 2, by omega, by go_num, by go_num, by rw [HV.out, Nat.div_div_eq_div_mul, Nat.pow_succ], h2.other _ _ (by omega), ?_, hnx.setCell (by simp) _⟩
        rw [HB.out]
        refine (h3.set k _ hlt).ext (fun i hi => ?_)
        by_cases e : i = k
        · subst e; simp
        · rw [if_neg e]
          congr 1
          apply decide_eq_decide.2
          omega
      case measure => simp [intOf]; omega
    · have hk2 : k = 64 := by omega
      have h3' : Row wr (w.heap.size + 1) x.testBit := h3.ext (fun i hi => by rw [hk2]; simp [hi])
      clear hk2 h3
      go_wp2_with (first
        | (with_reducible refine wpList_load_row rfl 71 (.tmp 3) rfl (w.heap.size + 1) rfl 71 (truths x.testBit) (0, 0) _ h3'.is Try.underlying71 rfl (Try.info45 _) ?_)
        | (with_reducible refine wpList_store_row rfl 71 (.tmp 2) (.tmp 16) rfl w.heap.size (truths x.testBit) rfl rfl 71 (truths fun _ => false) h2.is (Try.info45 _) (truths_same _ _) (truths_one _) ?_))
      refine bodyPost_ret (v := .agg (truths x.testBit)) (results_cell_row rfl _ _ w.heap.size 71 (truths x.testBit) (0, 0) _ rfl (h2.put _).is Try.underlying71 rfl (Try.info45 _)) rfl ⟨rfl, below_setRow hnx _ _ (Nat.le_refl _)⟩
end Go.Proofs.Ytlaenabckpjikaa
