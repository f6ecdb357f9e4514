/- A frame that came in by value, opened. -/
import Derived.Test.YtbciamoaohdbjaaRows
import Derived.WalkKit
import Derived.ProofKit
import Derived.OpenShut
import Derived.Lib.SmallJoins
set_option linter.unusedVariables false
set_option linter.unusedSimpArgs false
namespace Go.Proofs.Ytbciamoaohdbjaa
open Go.ChangeShapes Go.WideShapes Go.ChangeAt Go.RowKit Go.Joins

theorem open_frame {H : Type} {enc : TypeId × Value → H} {W : World} {B : Nat} {hd : Bool} {B0 : Nat} {v : Value} {d : DataW H} {p : List MemPlace} (hv : Value.okWide Try.prog W .any B0 23 v)
    (h : DataW.Trod enc Try.prog W B (fun _ => true) hd 23 v d p) :
    ∃ (k f t : Int) (b : ByteArray), v = .agg #[.int .i64 k, .int .i64 f, .int .i64 t, .string b] ∧ (Lit.int .i64 k).wf = true ∧ (Lit.int .i64 f).wf = true ∧ (Lit.int .i64 t).wf = true ∧ b.size ≤ maxLen := by
  obtain ⟨c0, c1, c2, c3, y0, y1, y2, y3, m, rfl, _, _, hy0, hy1, hy2, hy3⟩ := open_agg4 Try.underlying23 (by kernel_rfl) (by kernel_rfl) hv h
  obtain ⟨k, e0, _, w0⟩ := DataW.trod_int Try.underlying3 hy0
  obtain ⟨f, e1, _, w1⟩ := DataW.trod_int Try.underlying3 hy1
  obtain ⟨t, e2, _, w2⟩ := DataW.trod_int Try.underlying3 hy2
  obtain ⟨b, e3, _, w3⟩ := DataW.trod_string Try.underlying9 hy3
  simp only [List.cons.injEq, and_true] at e0 e1 e2 e3
  exact ⟨k, f, t, b, by rw [e0, e1, e2, e3], w0, w1, w2, w3⟩
end Go.Proofs.Ytbciamoaohdbjaa
