/- What a walk is told of a slice of acts that came in. -/
import Derived.Test.YtneeplmdmdkjeaaOpen
import Derived.Deep.SlicePairs
set_option linter.unusedVariables false
set_option linter.unusedSimpArgs false
namespace Go.Proofs.Ytneeplmdmdkjeaa
open Go.ChangeShapes Go.WideShapes Go.ChangeAt Go.RowKit

/-- The acts z 0 .. z (len - 1) lie in the slice's cells. -/
def InActs (w : World) (ao : Option Addr) (len : Nat) (z : Nat → Bool × Int) : Prop :=
  len = 0 ∨ ∃ b o, ao = some ⟨b, o, none⟩ ∧ ∀ i, i < len → w.cell? ⟨b, o + i * 2, none⟩ = some (.bool (z i).1) ∧ w.cell? ⟨b, o + i * 2 + 1, none⟩ = some (.int .i64 (z i).2) ∧
    -9223372036854775808 ≤ (z i).2 ∧ (z i).2 ≤ 9223372036854775807

theorem open_script {H : Type} {enc : TypeId × Value → H} {W : World} {B : Nat} {hd : Bool} {a : Option Addr} {len cap : Nat} {d : DataW H} {p : List MemPlace}
    (h : DataW.Trod enc Try.prog W B (fun _ => true) hd 33 (.slice a len cap) d p) : ∃ z, InActs W a len z := by
  obtain ⟨fuel, hf⟩ := h
  rcases Deep.open_slice_pairs Try.underlying33 Try.underlying39 (by kernel_rfl) rfl rfl (by kernel_rfl) (by kernel_rfl) hf with ⟨hcs, _⟩ | ⟨x, l, c, m, n, V0, V1, D0, D1, P0, P1, hcs, _, hl, hm, hmm, _, hx⟩
  · simp [Value.cells] at hcs
    obtain ⟨rfl, rfl, rfl⟩ := hcs
    exact ⟨fun _ => (false, 0), .inl rfl⟩
  · simp [Value.cells] at hcs
    obtain ⟨rfl, rfl, rfl⟩ := hcs
    have hm' : m = cap := by simpa using hmm
    have each : ∀ i, i < len → ∃ q : Bool × Int, W.cell? (x.add (i * 2)) = some (.bool q.1) ∧ W.cell? (x.add (i * 2 + 1)) = some (.int .i64 q.2) ∧ -9223372036854775808 ≤ q.2 ∧ q.2 ≤ 9223372036854775807 := by
      intro i hi
      obtain ⟨h0, h1, h2, h3⟩ := hx i (by omega)
      obtain ⟨t, e0, _⟩ := DataW.trod_bool Try.underlying4 h2
      obtain ⟨k, e1, _, wk⟩ := DataW.trod_int Try.underlying3 h3
      have hb := Go.bounds_i64 wk
      simp only [List.cons.injEq, and_true] at e0 e1
      exact ⟨(t, k), by rw [h0, e0], by rw [h1, e1], by omega, by omega⟩
    obtain ⟨z, hz⟩ := Deep.choose_lt each
    by_cases h0 : len = 0
    · exact ⟨z, .inl h0⟩
    · obtain ⟨b, o, sp⟩ := x
      have hsp : sp = none := by simpa [Addr.add] using World.cell?_spot (hz 0 (by omega)).1
      subst hsp
      refine ⟨z, .inr ⟨b, o, rfl, fun i hi => ?_⟩⟩
      have hq := hz i hi
      have ea : ∀ k, (⟨b, o, none⟩ : Addr).add k = ⟨b, o + k, none⟩ := fun k => by cases k <;> simp [Addr.add]
      rw [ea, ea] at hq
      exact ⟨hq.1, by rw [Nat.add_assoc]; exact hq.2.1, hq.2.2⟩
end Go.Proofs.Ytneeplmdmdkjeaa
