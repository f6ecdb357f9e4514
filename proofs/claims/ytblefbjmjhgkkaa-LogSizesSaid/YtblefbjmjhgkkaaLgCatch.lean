/- Layer 19: what is recovered; a stable record parsed, an item parsed: the closures. -/
import Derived.Test.YtblefbjmjhgkkaaLgItem
import Derived.Test.YtblefbjmjhgkkaaOnce
import Derived.Tactics2
import Derived.Defers
import Derived.Recover
set_option linter.unusedVariables false
set_option maxRecDepth 100000
set_option linter.unusedSimpArgs false
namespace Go.Proofs.Ytblefbjmjhgkkaa
open Go.RowKit Go.Sort

theorem assert_errno (w : World) (c : Int) : (Instr.typeAssert (.iface 34 (.int .i64 c)) 20 34 true).run Try.prog w = .ok (.tuple #[.int .i64 c, .bool true]) w := by kernel_rfl
theorem errno_any (c : Int) (w : World) : Calls Try.prog 44 #[.iface 34 (.int .i64 c)] w fun e w' => e = .returned (.int .i64 c) ∧ w = w' := by
  have ha := fun W => assert_errno W c
  go_enter Try.func44, Try.ntmps44
  go_wp2
  go_ret
  exact ⟨rfl, rfl⟩
theorem neq_iface (w : World) (c : Int) : (binOp .neq 20 (.iface 34 (.int .i64 c)) .nilIface).run Try.prog w = .ok (.bool true) w := by kernel_rfl
theorem neq_nil (w : World) : (binOp .neq 20 .nilIface .nilIface).run Try.prog w = .ok (.bool false) w := by kernel_rfl

set_option maxHeartbeats 1000000 in
theorem acatchS (g : Nat) (c : Int) (w : World) (v1 : Value) (h1 : Own w g 34 #[v1]) :
    CallsD Try.prog 43 #[.pointer (some ⟨g, 0, none⟩)] (.panicking ({ v := .iface 34 (.int .i64 c), recovered := false } :: [])) w fun e u' w' =>
      e = .returned (.tuple #[]) ∧ u' = .panicking ({ v := .iface 34 (.int .i64 c), recovered := true } :: []) ∧ w' = w.setCell ⟨g, 0, none⟩ (.int .i64 c) := by
  have hn := fun W => neq_iface W c
  have c1 : w.cell? ⟨g, 0, none⟩ = some v1 := h1.at_ 0 _ rfl
  have f1 := h1.free 0
  refine callsD_of_wpS Try.func43 rfl fun c₀ cs hu => ?_
  apply wpS_seq
  apply wpS_region
  simp [wpOpsS, go_sem, recoverD, hu, Try.ntmps43, Exit.thenS]
  refine wpS_of_wp ?_
  rw [show (#[Value.pointer (some ⟨g, 0, none⟩)] ++ ((Array.replicate 6 undef).setIfInBounds 1 (Value.iface 34 (.int .i64 c))).setIfInBounds 0 (Value.iface 34 (.int .i64 c))) = #[Value.pointer (some ⟨g, 0, none⟩), Value.iface 34 (.int .i64 c), Value.iface 34 (.int .i64 c), undef, undef, undef, undef] from rfl]
  go_wp2_with fail
  refine (errno_any c _).mono ?_
  rintro e w1 ⟨rfl, rfl⟩
  go_wp2
  simp [bodyPostS, results, Try.results43]
theorem aidleS (p0 : Addr) (w : World) :
    CallsD Try.prog 43 #[.pointer (some p0)] .returning w fun e u' w' => e = .returned (.tuple #[]) ∧ u' = .returning ∧ w = w' := by
  have hn := neq_nil
  refine callsD_of_wpS Try.func43 rfl fun c₀ cs hu => ?_
  apply wpS_seq
  apply wpS_region
  simp [wpOpsS, go_sem, recoverD, hu, Try.ntmps43, Exit.thenS]
  refine wpS_of_wp ?_
  go_wp2
  cases c₀
  simp_all [bodyPostS, results, Try.results43]

set_option maxHeartbeats 1000000 in
theorem acatchI (g : Nat) (c : Int) (w : World) (v1 : Value) (h1 : Own w g 34 #[v1]) :
    CallsD Try.prog 50 #[.pointer (some ⟨g, 0, none⟩)] (.panicking ({ v := .iface 34 (.int .i64 c), recovered := false } :: [])) w fun e u' w' =>
      e = .returned (.tuple #[]) ∧ u' = .panicking ({ v := .iface 34 (.int .i64 c), recovered := true } :: []) ∧ w' = w.setCell ⟨g, 0, none⟩ (.int .i64 c) := by
  have hn := fun W => neq_iface W c
  have c1 : w.cell? ⟨g, 0, none⟩ = some v1 := h1.at_ 0 _ rfl
  have f1 := h1.free 0
  refine callsD_of_wpS Try.func50 rfl fun c₀ cs hu => ?_
  apply wpS_seq
  apply wpS_region
  simp [wpOpsS, go_sem, recoverD, hu, Try.ntmps50, Exit.thenS]
  refine wpS_of_wp ?_
  rw [show (#[Value.pointer (some ⟨g, 0, none⟩)] ++ ((Array.replicate 6 undef).setIfInBounds 1 (Value.iface 34 (.int .i64 c))).setIfInBounds 0 (Value.iface 34 (.int .i64 c))) = #[Value.pointer (some ⟨g, 0, none⟩), Value.iface 34 (.int .i64 c), Value.iface 34 (.int .i64 c), undef, undef, undef, undef] from rfl]
  go_wp2_with fail
  refine (errno_any c _).mono ?_
  rintro e w1 ⟨rfl, rfl⟩
  go_wp2
  simp [bodyPostS, results, Try.results50]
theorem aidleI (p0 : Addr) (w : World) :
    CallsD Try.prog 50 #[.pointer (some p0)] .returning w fun e u' w' => e = .returned (.tuple #[]) ∧ u' = .returning ∧ w = w' := by
  have hn := neq_nil
  refine callsD_of_wpS Try.func50 rfl fun c₀ cs hu => ?_
  apply wpS_seq
  apply wpS_region
  simp [wpOpsS, go_sem, recoverD, hu, Try.ntmps50, Exit.thenS]
  refine wpS_of_wp ?_
  go_wp2
  cases c₀
  simp_all [bodyPostS, results, Try.results50]

set_option maxHeartbeats 1000000 in
theorem acatchT (g : Nat) (c : Int) (w : World) (v1 : Value) (h1 : Own w g 34 #[v1]) :
    CallsD Try.prog 55 #[.pointer (some ⟨g, 0, none⟩)] (.panicking ({ v := .iface 34 (.int .i64 c), recovered := false } :: [])) w fun e u' w' =>
      e = .returned (.tuple #[]) ∧ u' = .panicking ({ v := .iface 34 (.int .i64 c), recovered := true } :: []) ∧ w' = w.setCell ⟨g, 0, none⟩ (.int .i64 c) := by
  have hn := fun W => neq_iface W c
  have c1 : w.cell? ⟨g, 0, none⟩ = some v1 := h1.at_ 0 _ rfl
  have f1 := h1.free 0
  refine callsD_of_wpS Try.func55 rfl fun c₀ cs hu => ?_
  apply wpS_seq
  apply wpS_region
  simp [wpOpsS, go_sem, recoverD, hu, Try.ntmps55, Exit.thenS]
  refine wpS_of_wp ?_
  rw [show (#[Value.pointer (some ⟨g, 0, none⟩)] ++ ((Array.replicate 6 undef).setIfInBounds 1 (Value.iface 34 (.int .i64 c))).setIfInBounds 0 (Value.iface 34 (.int .i64 c))) = #[Value.pointer (some ⟨g, 0, none⟩), Value.iface 34 (.int .i64 c), Value.iface 34 (.int .i64 c), undef, undef, undef, undef] from rfl]
  go_wp2_with fail
  refine (errno_any c _).mono ?_
  rintro e w1 ⟨rfl, rfl⟩
  go_wp2
  simp [bodyPostS, results, Try.results55]
theorem aidleT (p0 : Addr) (w : World) :
    CallsD Try.prog 55 #[.pointer (some p0)] .returning w fun e u' w' => e = .returned (.tuple #[]) ∧ u' = .returning ∧ w = w' := by
  have hn := neq_nil
  refine callsD_of_wpS Try.func55 rfl fun c₀ cs hu => ?_
  apply wpS_seq
  apply wpS_region
  simp [wpOpsS, go_sem, recoverD, hu, Try.ntmps55, Exit.thenS]
  refine wpS_of_wp ?_
  go_wp2
  cases c₀
  simp_all [bodyPostS, results, Try.results55]
end Go.Proofs.Ytblefbjmjhgkkaa
