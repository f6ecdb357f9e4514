/- The contracts of the two orders: Compare, Confs. -/
import Derived.Test.YthgdiihibjnhoaaCmp
import Derived.Test.YthgdiihibjnhoaaFlat
import Derived.StillTailTactics
import Derived.Deep.QuietTactic
import Derived.BigQuiet
set_option linter.unusedVariables false
set_option linter.unusedSimpArgs false
set_option maxRecDepth 100000
namespace Go.Proofs.Ythgdiihibjnhoaa
open Go.RowKit Go.Sort

theorem flipped {P : Program} {f : FuncId} {args : Array Value} {w : World} {v : Value} (h : Calls P f args w fun e w' => e = .returned v ∧ w = w') : Calls P f args w fun e w' => e = .returned v ∧ w' = w :=
  h.mono fun _ _ ⟨he, hw⟩ => ⟨he, hw.symm⟩


set_option maxHeartbeats 1000000 in
theorem compare_any (a b : K) (w : World) : Calls Try.prog 7 #[.agg #[.int .u64 a.n, .int .i64 a.p], .agg #[.int .u64 b.n, .int .i64 b.p]] w fun e w' => e = .returned (.int .i64 (kcmp a b)) ∧ Grw w w' := by
  obtain ⟨an, ap⟩ := a
  obtain ⟨bn, bp⟩ := b
  show Calls Try.prog 7 #[.agg #[.int .u64 an, .int .i64 ap], .agg #[.int .u64 bn, .int .i64 bp]] w fun e w' => e = .returned (.int .i64 (orv (kc an bn) (kc ap bp))) ∧ Grw w w'
  generalize hr1 : kc an bn = r1
  generalize hr2 : kc ap bp = r2
  have c1 : ∀ W, Calls Try.prog 24 #[.int .u64 an, .int .u64 bn] W fun e w' => e = .returned (.int .i64 r1) ∧ w' = W := fun W => by rw [← hr1]; exact flipped (cmpU _ _ _)
  have c2 : ∀ W, Calls Try.prog 25 #[.int .i64 ap, .int .i64 bp] W fun e w' => e = .returned (.int .i64 r2) ∧ w' = W := fun W => by rw [← hr2]; exact flipped (cmpI _ _ _)
  clear hr1 hr2
  go_enter Try.func7, Try.ntmps7
  go_wp2
  generalize hW : ((w.alloc (.cells #[.int .u64 an, .int .i64 ap] 29)).alloc (.cells #[.int .u64 bn, .int .i64 bp] 29)) = W
  have k1 : W.drew.cell? ⟨w.heap.size, 0, none⟩ = some (.int .u64 an) := by rw [← hW]; simp
  have k2 : W.drew.cell? ⟨w.heap.size, 1, none⟩ = some (.int .i64 ap) := by rw [← hW]; simp
  have k3 : W.drew.cell? ⟨w.heap.size + 1, 0, none⟩ = some (.int .u64 bn) := by rw [← hW]; simp
  have k4 : W.drew.cell? ⟨w.heap.size + 1, 1, none⟩ = some (.int .i64 bp) := by rw [← hW]; simp
  have G : Grw w W.drew := by rw [← hW]; exact (((Grw.refl _).alloc _).alloc _).drew
  clear hW
  refine wp_region_still_tail 10 (by kernel_rfl) (by kernel_rfl) ?_
  simp only [List.take_succ_cons, List.take_zero, List.drop_succ_cons, List.drop_zero]
  change wpStill _ _ W.drew (fun a' => wpList _ _ _ _ a' W.drew) _ _
  generalize W.drew = V at k1 k2 k3 k4 G ⊢
  iterate 4 still_step
  still_call (c1 _)
  iterate 4 still_step
  still_call (c2 _)
  refine wpStill_nil ?_
  go_wp2_with fail
  refine (or_two r1 r2 _ _ _ (by simp) (by simp)).mono ?_
  rintro e w' ⟨rfl, rfl⟩
  go_wp2
  go_ret
  exact ⟨rfl, G.alloc _⟩

end Go.Proofs.Ythgdiihibjnhoaa
