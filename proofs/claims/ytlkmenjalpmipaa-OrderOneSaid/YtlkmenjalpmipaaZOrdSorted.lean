/- A sorted list of whatever list there is. -/
import Derived.Test.YtlkmenjalpmipaaZOrdHonest
set_option linter.unusedVariables false
set_option maxRecDepth 100000
set_option linter.unusedSimpArgs false
namespace Go.Proofs.Ytlkmenjalpmipaa
open Go.RowKit Go.Sort Go.Shelf

theorem parted {α : Type} (p : α → Bool) : ∀ l : List α, ∃ a b, l = a ++ b ∧ (∀ y ∈ a, p y = true) ∧ ∀ y B, b = y :: B → p y = false
  | [] => ⟨[], [], rfl, (fun y h => by cases h), fun y B h => by cases h⟩
  | x :: l => by
    cases hx : p x with
    | true =>
      obtain ⟨a, b, e, h1, h2⟩ := parted p l
      refine ⟨x :: a, b, by rw [e]; rfl, fun y hy => ?_, h2⟩
      rcases List.mem_cons.1 hy with hy | hy
      · rw [hy]; exact hx
      · exact h1 y hy
    | false =>
      refine ⟨[], x :: l, rfl, (fun y h => by cases h), fun y B h => ?_⟩
      injection h with h1 h2
      rw [← h1]; exact hx
theorem srt_is : ∀ l : List Mg, ∃ Z, IsSrt Mg.key l Z
  | [] => ⟨[], IsSrt.same Srt.nil⟩
  | x :: l => by
    obtain ⟨Z, hZ⟩ := srt_is l
    obtain ⟨a, b, e, h1, h2⟩ := parted (fun y : Mg => y.key.less x.key) Z
    have hs : Srt Mg.key (a ++ b) := by rw [← e]; exact hZ.srt
    have hp : IsSrt Mg.key (x :: (a ++ b)) (a ++ x :: b) := put_first hs (fun A y he => h1 y (by rw [he]; simp)) h2
    refine ⟨a ++ x :: b, IsSrt.of_fil hp ?_⟩
    rw [← e]
    exact Fil.app (Fil.refl [x]) hZ.fil
end Go.Proofs.Ytlkmenjalpmipaa
