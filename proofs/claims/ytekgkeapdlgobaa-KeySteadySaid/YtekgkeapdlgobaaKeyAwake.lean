/- 'awake' of layer 3 answers true: the answers that the document fixes. -/
import Derived.Test.YtekgkeapdlgobaaSortOne
import Derived.Test.YtekgkeapdlgobaaAbove
set_option linter.unusedVariables false
set_option linter.unusedSimpArgs false
namespace Go.Proofs.Ytekgkeapdlgobaa
open Go.RowKit Go.Sort

/-- A new block, read as a slice. -/
theorem lst_new {α : Type} {enc : α → List Value} {k : Nat} (hk : ∀ x, (enc x).length = k) {w : World} {g : Nat} {t : TypeId} {cs : Array Value} (l : List α) (n : Nat) (h : w.heap[g]? = some (.cells cs t (0, 0))) (hcs : cs = (flat enc l).toArray) (hn : l.length = n) : Lst enc k w (some ⟨g, 0, none⟩) n l := by
  refine ⟨hn, fun _ => ⟨g, 0, rfl, fun i x hx c v hv => ?_⟩⟩
  have hc : c < k := by rw [← hk x]; exact (List.getElem?_eq_some_iff.1 hv).1
  rw [cell_of_row w g _ _ _ _ h, hcs, List.getElem?_toArray, Nat.zero_add, flat_at enc k hk l i x hx c hc]
  exact hv
theorem heap_at (w : World) (o : Obj) (g : Nat) (h : g = w.heap.size) : (w.alloc o).heap[g]? = some o := by subst h; exact heap_alloc_new w o

theorem compare_lit (an ap bn bp r : Int) (hr : kcmp ⟨an, ap⟩ ⟨bn, bp⟩ = r) (w : World) : Calls Try.prog 10 #[.agg #[.int .u64 an, .int .i64 ap], .agg #[.int .u64 bn, .int .i64 bp]] w fun e w' => e = .returned (.int .i64 r) ∧ Below w.heap.size w w' := by
  subst hr
  exact (compare_any ⟨an, ap⟩ ⟨bn, bp⟩ w).mono fun _ _ ⟨he, hg⟩ => ⟨he, hg.below⟩
theorem confs_lit (an ap bn bp r : Int) (hr : kcmp ⟨an, ap⟩ ⟨bn, bp⟩ = r) (w : World) : Calls Try.prog 12 #[.agg #[.int .u64 an, .int .i64 ap], .agg #[.int .u64 bn, .int .i64 bp]] w fun e w' => e = .returned (.int .i64 r) ∧ Below w.heap.size w w' := by
  subst hr
  exact (confs_any ⟨an, ap⟩ ⟨bn, bp⟩ w).mono fun _ _ ⟨he, hg⟩ => ⟨he, hg.below⟩
theorem above_lit (g len cap : Nat) (l : List Int) (r : Int) (w : World) (t : TypeId) (cs : Array Value) (hg : w.heap[g]? = some (.cells cs t (0, 0))) (hcs : cs = (flat encU l).toArray) (hn : l.length = len) (hb : Bd64 l) (hr : up1 (maxl 0 l) = r) (hl : len ≤ 1000) :
    Calls Try.prog 18 #[.slice (some ⟨g, 0, none⟩) len cap] w fun e w' => e = .returned (.int .u64 r) ∧ w = w' := by
  subst hr
  exact above_any _ _ _ l w (lst_new (enc := encU) (k := 1) (fun _ => rfl) l len hg hcs hn) hb (by omega)
theorem above_none (w : World) : Calls Try.prog 18 #[.slice none 0 0] w fun e w' => e = .returned (.int .u64 1) ∧ w = w' :=
  above_any none 0 0 [] w ⟨rfl, fun h => by omega⟩ (fun _ h => by cases h) (by decide)
theorem last_none (w : World) : Calls Try.prog 14 #[.slice none 0 0] w fun e w' => e = .returned (.agg #[.int .u64 0, .int .i64 0]) ∧ Below w.heap.size w w' :=
  last_any none 0 0 [] w ⟨rfl, fun h => by omega⟩ (by decide)
theorem sort_two (g cap : Nat) (w : World) (t : TypeId) (cs : Array Value) (l : List Msg) (hg : w.heap[g]? = some (.cells cs t (0, 0))) (hcs : cs = (flat encM l).toArray) (hn : l.length = 2) :
    Calls Try.prog 22 #[.slice (some ⟨g, 0, none⟩) 2 cap] w fun e w' => ∃ ao c, e = .returned (.slice ao 2 c) ∧ Below w.heap.size w w' :=
  (sort_any 2 (stable_few 2 (by decide)) _ cap l w (lst_new encM_length l 2 hg hcs hn) (fun h => by cases h) (by decide)).mono fun _ _ ⟨ao, c, M, he, _, _, _, hB⟩ => ⟨ao, c, he, hB⟩

set_option maxHeartbeats 2000000 in
theorem awake3_any (w : World) : Calls Try.prog 9 #[] w fun e w' => e = .returned (.bool true) ∧ Below w.heap.size w w' := by
  go_enter Try.func9, Try.ntmps9
  go_wp2_with fail
  refine (compare_lit 3 1 3 2 (-1) (by decide) _).mono ?_
  rintro e w1 ⟨rfl, hB⟩
  go_wp2_with fail
  refine (confs_lit 4 0 3 9 1 (by decide) _).mono ?_
  rintro e w2 ⟨rfl, h2⟩
  replace hB := hB.trans (h2.mono hB.size)
  clear h2
  go_wp2_with fail
  refine (above_lit _ 2 2 [5, 2] 6 _ _ _ (heap_at _ _ _ rfl) rfl rfl (fun v hv => by simp at hv; omega) (by decide) (by decide)).mono ?_
  rintro e w3 ⟨rfl, rfl⟩
  replace hB := hB.alloc hB.size (.cells #[.int .u64 5, .int .u64 2] 22)
  go_wp2_with fail
  refine (above_none _).mono ?_
  rintro e w3 ⟨rfl, rfl⟩
  go_wp2_with fail
  refine (last_none _).mono ?_
  rintro e w3 ⟨rfl, h2⟩
  replace hB := hB.trans (h2.mono hB.size)
  clear h2
  go_wp2_with fail
  refine (sort_two _ 2 _ _ _ [⟨0, 0, 2, 0, none, 0, 0, [], ByteArray.empty⟩, ⟨0, 0, 1, 0, none, 0, 0, [], ByteArray.empty⟩] (heap_at _ _ _ rfl) rfl rfl).mono ?_
  rintro e w4 ⟨ao, c, rfl, h2⟩
  have hs := hB.size
  replace hB := (hB.alloc hs _).trans (h2.mono (by simp; omega))
  clear h2
  go_wp2
  go_ret
  exact ⟨rfl, hB⟩
end Go.Proofs.Ytekgkeapdlgobaa
