/- What came in, opened: a configuration, by value. -/
import Derived.Test.YtcjbjcojmjfmaaaEarOpen
set_option linter.unusedVariables false
set_option linter.unusedSimpArgs false
namespace Go.Proofs.Ytcjbjcojmjfmaaa
open Go.ChangeShapes Go.WideShapes Go.ChangeAt Go.RowKit Go.Joins Go.Deep

theorem open_conf {H : Type} {enc : TypeId × Value → H} {W : World} {B : Nat} {hd : Bool} {B0 : Nat} {v : Value} {d : DataW H} {p : List MemPlace} (hv : Value.okWide Try.prog W .any B0 25 v) (h : DataW.Trod enc Try.prog W B (fun _ => true) hd 25 v d p) : ∃ (n : Nat) (q : Int), v = .agg #[.int .u64 (n : Int), .int .i64 q] := by
  obtain ⟨c0, c1, y0, y1, m, rfl, _, _, hy0, hy1⟩ := open_agg2 Try.underlying25 (by kernel_rfl) (by kernel_rfl) hv h
  obtain ⟨a, e0, _, w0⟩ := DataW.trod_int Try.underlying23 hy0
  obtain ⟨b, e1, _, _⟩ := DataW.trod_int Try.underlying3 hy1
  simp only [List.cons.injEq, and_true] at e0 e1
  have b0 := Go.bounds_u64 w0
  obtain ⟨a, rfl⟩ := Int.eq_ofNat_of_zero_le (show 0 ≤ a by omega)
  exact ⟨a, b, by rw [e0, e1]⟩
end Go.Proofs.Ytcjbjcojmjfmaaa
