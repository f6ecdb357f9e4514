/- The next message of a sender: plain facts. -/
import Derived.Test.YtlkmenjalpmipaaZOrdSorted
set_option linter.unusedVariables false
set_option maxRecDepth 100000
set_option linter.unusedSimpArgs false
namespace Go.Proofs.Ytlkmenjalpmipaa
open Go.RowKit Go.Sort Go.Shelf

section
variable {A : List Mg} {p n : Nat}
/-- Whatever has the sender and the number is the sender's next one. -/
theorem give_hit (hA : Hon A) (hp : p < 4) {x : Mg} (hx : x ∈ A) (hf : x.f = (p : Int)) (hq : x.q = (n : Int) + 1) : (sub A p)[n]? = some x := by
  obtain ⟨i, hi⟩ := List.mem_iff_getElem?.1 (sub_mem.2 ⟨hx, hf⟩)
  have h1 := hA.num p hp i x hi
  have e : i = n := by omega
  rw [← e]; exact hi
/-- Where none has it all were given. -/
theorem give_none (hA : Hon A) (hp : p < 4) (h : ∀ x ∈ A, x.f = (p : Int) → x.q ≠ (n : Int) + 1) : (sub A p).length ≤ n := by
  rcases Nat.lt_or_ge n (sub A p).length with e | e
  · have hg := List.getElem?_eq_getElem e
    have hm := sub_mem.1 (List.getElem_mem e)
    exact absurd (hA.num p hp n _ hg) (h _ hm.1 hm.2)
  · exact e
/-- How many are given after one more. -/
def gv (A : List Mg) (p n : Nat) : Nat := if n < (sub A p).length then n + 1 else n
theorem gv_hit {x : Mg} (h : (sub A p)[n]? = some x) : gv A p n = n + 1 := by
  unfold gv
  rw [if_pos (List.getElem?_eq_some_iff.1 h).1]
theorem gv_none (h : (sub A p).length ≤ n) : gv A p n = n := by
  unfold gv
  rw [if_neg (by omega)]
theorem gv_le (h : n ≤ (sub A p).length) : gv A p n ≤ (sub A p).length := by
  unfold gv
  split <;> omega
theorem gv_ge {j : Nat} (h : j ≤ n ∨ (sub A p).length ≤ n) : j + 1 ≤ gv A p n ∨ (sub A p).length ≤ gv A p n := by
  unfold gv
  split <;> omega
theorem sub_len (A : List Mg) (p : Nat) : (sub A p).length ≤ A.length := List.length_filter_le _ _
theorem gv_all {j : Nat} (hj : A.length ≤ j) (h1 : n ≤ (sub A p).length) (h : j ≤ n ∨ (sub A p).length ≤ n) : n = (sub A p).length := by
  have := sub_len A p
  omega
/-- None among the first i. -/
theorem none_next {i : Nat} {x : Mg} (hx : A[i]? = some x) (h : ∀ y ∈ A.take i, y.f = (p : Int) → y.q ≠ (n : Int) + 1) (hn : x.f = (p : Int) → x.q ≠ (n : Int) + 1) : ∀ y ∈ A.take (i + 1), y.f = (p : Int) → y.q ≠ (n : Int) + 1 := by
  intro y hy
  obtain ⟨h1, h2⟩ := List.getElem?_eq_some_iff.1 hx
  rw [List.take_add_one, hx] at hy
  rcases List.mem_append.1 hy with hy | hy
  · exact h y hy
  · have e : y = x := by simpa using hy
    rw [e]; exact hn
end
end Go.Proofs.Ytlkmenjalpmipaa
