/- 'awake' of layer 2 answers true: the answers that the document fixes. -/
import Derived.Test.YtkcjfofnnkdpaaaDoorRefOf
set_option linter.unusedVariables false
set_option linter.unusedSimpArgs false
namespace Go.Proofs.YtkcjfofnnkdpaaaDoor
open Go.RowKit

theorem of_new (zs : List Int) (g len c : Nat) (r : Int) (w : World) (cs : Array Value) (hg : w.heap[g]? = some (.cells cs 3 (0, 0))) (hcs : cs = (zs.map (Value.int .i64)).toArray) (hz : zs.length = len) (hr : ((ofl zs : Nat) : Int) = r)
    (hb : ∀ v ∈ zs, -9223372036854775808 ≤ v ∧ v ≤ 9223372036854775807) (hl : len ≤ 1000) :
    Calls Tryd.prog 32 #[.slice (some ⟨g, 0, none⟩) len c] w fun e w' => e = .returned (.int .u64 r) ∧ w = w' := by
  subst hr
  refine of_any _ _ _ zs w ⟨hz, fun j v hj => ⟨_, rfl, ?_⟩, hb⟩ (by omega)
  rw [show (⟨g, 0, none⟩ : Addr).add j = ⟨g, j, none⟩ by cases j <;> simp [Addr.add], cell_of_row w g j _ _ _ hg, hcs]
  simp [hj]
theorem most_lit (a b : Nat) (x y : Int) (r : Bool) (w : World) (hx : x = a) (hy : y = b) (hr : most a b = r) (ha : a < 18446744073709551616) (hb : b < 18446744073709551616) :
    Calls Tryd.prog 27 #[.int .u64 x, .int .u64 y] w fun e w' => e = .returned (.bool r) ∧ w = w' := by
  subst hx hy hr
  exact most_any a b w ha hb
theorem all_lit (n r : Int) (w : World) (hr : ((below n : Nat) : Int) = r) (h0 : -9223372036854775808 ≤ n) (h1 : n ≤ 9223372036854775807) :
    Calls Tryd.prog 29 #[.int .i64 n] w fun e w' => e = .returned (.int .u64 r) ∧ w = w' := by
  subst hr
  exact all_any n w h0 h1
theorem min_zero (w : World) : Calls Tryd.prog 22 #[.int .u64 0] w fun e w' => e = .returned (.int .i64 (-1)) ∧ w = w' :=
  min_any 0 w (by decide) (fun h => absurd rfl h)

theorem heap_at (w : World) (o : Obj) (g : Nat) (h : g = w.heap.size) : (w.alloc o).heap[g]? = some o := by subst h; exact heap_alloc_new w o

set_option maxHeartbeats 1000000 in
theorem awake2_any (w : World) : Calls Tryd.prog 9 #[] w fun e w' => e = .returned (.bool true) ∧ Below w.heap.size w w' := by
  go_enter Tryd.func9, Tryd.ntmps9
  go_wp2_with fail
  refine (of_new [0, 2, 99] _ 3 3 5 _ _ (heap_at _ _ _ (by simp)) rfl rfl (by decide +kernel) (by decide) (by decide)).mono ?_
  rintro e w' ⟨rfl, rfl⟩
  go_wp2_with fail
  refine (of_new [1, 2] _ 2 2 6 _ _ (heap_at _ _ _ (by simp)) rfl rfl (by decide +kernel) (by decide) (by decide)).mono ?_
  rintro e w' ⟨rfl, rfl⟩
  go_wp2_with fail
  refine (of_new [1, 2, 3] _ 3 3 14 _ _ (heap_at _ _ _ (by simp)) rfl rfl (by decide +kernel) (by decide) (by decide)).mono ?_
  rintro e w' ⟨rfl, rfl⟩
  go_wp2_with fail
  refine (most_lit 6 14 _ _ true _ rfl rfl (by decide +kernel) (by decide) (by decide)).mono ?_
  rintro e w' ⟨rfl, rfl⟩
  go_wp2_with fail
  refine (of_new [1] _ 1 1 2 _ _ (heap_at _ _ _ (by simp)) rfl rfl (by decide +kernel) (by decide) (by decide)).mono ?_
  rintro e w' ⟨rfl, rfl⟩
  go_wp2_with fail
  refine (of_new [1, 2] _ 2 2 6 _ _ (heap_at _ _ _ (by simp)) rfl rfl (by decide +kernel) (by decide) (by decide)).mono ?_
  rintro e w' ⟨rfl, rfl⟩
  go_wp2_with fail
  refine (most_lit 2 6 _ _ false _ rfl rfl (by decide +kernel) (by decide) (by decide)).mono ?_
  rintro e w' ⟨rfl, rfl⟩
  go_wp2_with fail
  refine (all_lit 3 7 _ (by decide +kernel) (by decide) (by decide)).mono ?_
  rintro e w' ⟨rfl, rfl⟩
  go_wp2_with fail
  refine (min_zero _).mono ?_
  rintro e w' ⟨rfl, rfl⟩
  go_wp2
  go_ret
  exact ⟨rfl, (((((Below.refl _ _).alloc (Nat.le_refl _) _).alloc (by simp) _).alloc (by simp; omega) _).alloc (by simp; omega) _).alloc (by simp; omega) _⟩
end Go.Proofs.YtkcjfofnnkdpaaaDoor
