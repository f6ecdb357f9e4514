/- Plans: New: its walk. -/
import Derived.Test.YtmaiphgmnammgaaDoorZPlNew
import Derived.Laws.StructEq
set_option linter.unusedVariables false
set_option maxRecDepth 100000
set_option linter.unusedSimpArgs false
namespace Go.Proofs.YtmaiphgmnammgaaDoor
open Go.RowKit Go.Sort Go.Shelf Go.Maps

theorem held_conf15 : Tryd.prog.stoodInHeld 24 = false := by kernel_rfl
theorem eq_conf15 (k : Nat) (a b c d : Int) (w : World) : (Op.equalIn (k + 2) 24 (.agg #[.int .u64 a, .int .i64 b]) (.agg #[.int .u64 c, .int .i64 d])).run Tryd.prog w = .ok (decide (a = c) && decide (b = d)) w := by
  have hp := held_conf15
  by_cases h : a = c
  · by_cases h' : b = d
    · subst h h'
      go_simp
    · subst h
      have e : (b == d) = false := by simpa using h'
      go_simp
  · have e : (a == c) = false := by simpa using h
    go_simp
def pn0 : Pn := ⟨0, whZ, ⟨0, 0⟩⟩
theorem step_build0 {ops : Array Oper} {rest : List Oper} {o : Oper} {a : Act} {w : World} {Q : Exit → Act → World → Prop} (hgd : o.guard = none) (ty : TypeId) (ho : o.op = .build ty #[])
    (v : Value) (hb : (Instr.build ty #[]).run Tryd.prog w = .ok v w) (h : wpList Tryd.prog ops Q rest (a.put o.dst v) w) : wpList Tryd.prog ops Q (o :: rest) a w :=
  wpList_plain hgd fun _ hK => by
    unfold Oper.wp execOp
    simp only [ho, List.map_toArray, List.map_nil, Sem.run_bind, Sem.run_pure, Result.andThen_ok, hb]
    exact hK _ _ h
section
variable {W w wr w' : World} {g m k : Nat} {y x : Xg} {l : List Xg} {v : Value}
theorem comp_snoc (y x : Xg) (l : List Xg) (h : sameOld x y = true) : compL y (l ++ [x]) = compL y l ++ [x] := by
  unfold compL; rw [List.filter_append]; simp [h]
theorem comp_skip (y x : Xg) (l : List Xg) (h : sameOld x y = false) : compL y (l ++ [x]) = compL y l := by
  unfold compL; rw [List.filter_append]; simp [h]
end
end Go.Proofs.YtmaiphgmnammgaaDoor
