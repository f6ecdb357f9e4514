/- What came in, opened: a key, by value. -/
import Derived.Test.YtafenlacacghoaaHdOpen
set_option linter.unusedVariables false
set_option linter.unusedSimpArgs false
namespace Go.Proofs.Ytafenlacacghoaa
open Go.ChangeShapes Go.WideShapes Go.ChangeAt Go.RowKit Go.Joins Go.Deep
theorem open_key {H : Type} {enc : TypeId × Value → H} {W : World} {B : Nat} {hd : Bool} {B0 : Nat} {v : Value} {d : DataW H} {p : List MemPlace} (hv : Value.okWide Try.prog W .any B0 26 v) (h : DataW.Trod enc Try.prog W B (fun _ => true) hd 26 v d p) : ∃ n q : Int, v = .agg #[.int .u64 n, .int .i64 q] := by
  obtain ⟨c0, c1, y0, y1, m, rfl, _, _, hy0, hy1⟩ := open_agg2 Try.underlying26 (by kernel_rfl) (by kernel_rfl) hv h
  obtain ⟨a, e0, _, _⟩ := DataW.trod_int Try.underlying24 hy0
  obtain ⟨b, e1, _, _⟩ := DataW.trod_int Try.underlying3 hy1
  simp only [List.cons.injEq, and_true] at e0 e1
  exact ⟨a, b, by rw [e0, e1]⟩
end Go.Proofs.Ytafenlacacghoaa
