/- Slices of rows of numbers, in a drawn region. -/
import Derived.Test.YtcnfkjjfegjecaaSLoop
set_option linter.unusedVariables false
set_option linter.unusedSimpArgs false
namespace Go.Proofs.Ytcnfkjjfegjecaa
open Go.RowKit Go.Sort Go.Maps

theorem u32_elem : Try.prog.underlying 35 = some (.slice (Try.prog.elem 35)) := by kernel_rfl
theorem u32_size (w : World) : (sizeOf (Try.prog.elem 35)).run Try.prog w = .ok 1 w := by kernel_rfl
theorem yields_sl_h {ops : Array Oper} {S : World → Prop} {op : Oper} {a : Act} (hw : Region.wanted op (yielded ops a.tmps) = true) (x y : Operand) (ho : op.op = .slice 35 x none (some y) none)
    (ad : Addr) (n c j : Nat) (hx : a.eval x = .slice (some ad) n c) (hy : a.eval y = .int .i64 (j : Int)) (hj : j ≤ c) (hc : 0 < c) : YieldsIf Try.prog ops S op (.slice (some ad) j c) a :=
  .inl ⟨hw, fun w _ => by
    have h1 := run_slice_h (P := Try.prog) w 35 (some ad) n c u32_elem .i64 (j : Int) (by omega) (by omega)
    unfold execOp
    simp only [ho, hx, hy, Option.map, Sem.run_bind, run_sliceAt_slice _ _ _ _ _ _ u32_elem, h1, u32_size, Result.andThen_ok, sliced, Int.toNat_natCast, Nat.zero_mul, Nat.sub_zero]
    have h2 : ¬ c = 0 := by omega
    simp [h2, Addr.add]⟩
theorem yields_sl_l {ops : Array Oper} {S : World → Prop} {op : Oper} {a : Act} (hw : Region.wanted op (yielded ops a.tmps) = true) (x y : Operand) (ho : op.op = .slice 35 x (some y) none none)
    (ad : Addr) (n c j : Nat) (hx : a.eval x = .slice (some ad) n c) (hy : a.eval y = .int .i64 (j : Int)) (hj : j ≤ n) : YieldsIf Try.prog ops S op (.slice (some (if c = j then ad else ad.add j)) (n - j) (c - j)) a :=
  .inl ⟨hw, fun w _ => by
    have h1 := run_slice_l (P := Try.prog) w 35 (some ad) n c u32_elem .i64 (j : Int) (by omega) (by omega)
    unfold execOp
    simp only [ho, hx, hy, Option.map, Sem.run_bind, run_sliceAt_slice _ _ _ _ _ _ u32_elem, h1, u32_size, Result.andThen_ok, sliced, Int.toNat_natCast, Nat.mul_one]
    split <;> simp⟩
end Go.Proofs.Ytcnfkjjfegjecaa
