/- Laws of sets: plain facts. -/
import Derived.Test.YtkcjfofnnkdpaaaDoorSetFns
set_option linter.unusedVariables false
set_option linter.unusedSimpArgs false
namespace Go.Proofs.YtkcjfofnnkdpaaaDoor

theorem both_bit (a b i : Nat) (h : i < 64) : (both a b).testBit i = (a.testBit i && b.testBit i) := by unfold both; rw [num_bit]; simp [h]
theorem any_bit (a b i : Nat) (h : i < 64) : (any a b).testBit i = (a.testBit i || b.testBit i) := by unfold any; rw [num_bit]; simp [h]
theorem but_bit (a b i : Nat) (h : i < 64) : (but a b).testBit i = (a.testBit i && !b.testBit i) := by unfold but; rw [num_bit]; simp [h]
theorem card_lin (a b c d : Nat) (H : ∀ x, x < 64 → (a.testBit x).toNat + (b.testBit x).toNat ≤ (c.testBit x).toNat + (d.testBit x).toNat) : card a + card b ≤ card c + card d :=
  cnt_lin _ _ _ _ H

theorem most_iff (s t : Nat) : most s t = true ↔ card t < 2 * card (both s t) := by unfold most; simp
theorem most_false (s t : Nat) : most s t = false ↔ 2 * card (both s t) ≤ card t := by unfold most; simp

theorem meet (s t u : Nat) (hs : most s u = true) (ht : most t u = true) : 1 ≤ card (both (both s t) u) := by
  rw [most_iff] at hs ht
  have h := card_lin (both s u) (both t u) u (both (both s t) u) fun x hx => by
    rw [both_bit _ _ _ hx, both_bit _ _ _ hx, both_bit _ _ _ hx, both_bit _ _ _ hx]
    cases s.testBit x <;> cases t.testBit x <;> cases u.testBit x <;> decide
  omega
theorem most_more (s t u : Nat) (hs : most s u = true) : most (any s t) u = true := by
  rw [most_iff] at hs ⊢
  have h := card_lin (both s u) 0 (both (any s t) u) 0 fun x hx => by
    rw [both_bit _ _ _ hx, both_bit _ _ _ hx, any_bit _ _ _ hx]
    cases s.testBit x <;> cases t.testBit x <;> cases u.testBit x <;> simp
  omega
theorem most_rest (s u : Nat) (hs : most s u = true) : most (but u s) u = false := by
  rw [most_iff] at hs
  rw [most_false]
  have h := card_lin (both s u) (both (but u s) u) u 0 fun x hx => by
    rw [both_bit _ _ _ hx, both_bit _ _ _ hx, but_bit _ _ _ hx]
    cases s.testBit x <;> cases u.testBit x <;> simp
  rw [card_zero] at h
  omega
theorem most_self (u : Nat) : most u u = decide (0 < (card u : Int)) := by
  have h := card_lin u 0 (both u u) 0 fun x hx => by rw [both_bit _ _ _ hx]; cases u.testBit x <;> simp
  have h2 := card_lin (both u u) 0 u 0 fun x hx => by rw [both_bit _ _ _ hx]; cases u.testBit x <;> simp
  unfold most
  apply decide_eq_decide.2
  omega
theorem most_both (s u : Nat) : most (both s u) u = most s u := by
  unfold most
  have e : both (both s u) u = both s u := set_ext _ _ (num_lt _) (num_lt _) fun i hi => by
    rw [both_bit _ _ _ hi, both_bit _ _ _ hi]; cases s.testBit i <;> cases u.testBit i <;> rfl
  rw [e]

theorem parts_any (s t : Nat) (hs : s < 18446744073709551616) : any (both s t) (but s t) = s :=
  set_ext _ _ (num_lt _) hs fun i hi => by rw [any_bit _ _ _ hi, both_bit _ _ _ hi, but_bit _ _ _ hi]; cases s.testBit i <;> cases t.testBit i <;> rfl
theorem parts_both (s t : Nat) : both (both s t) (but s t) = 0 :=
  set_ext _ _ (num_lt _) (by decide) fun i hi => by rw [both_bit _ _ _ hi, both_bit _ _ _ hi, but_bit _ _ _ hi, Nat.zero_testBit]; cases s.testBit i <;> cases t.testBit i <;> rfl
theorem parts_card (s t : Nat) : card (both s t) + card (but s t) = card s := by
  have h := card_lin (both s t) (but s t) s 0 fun x hx => by
    rw [both_bit _ _ _ hx, but_bit _ _ _ hx]; cases s.testBit x <;> cases t.testBit x <;> simp
  have h2 := card_lin s 0 (both s t) (but s t) fun x hx => by
    rw [both_bit _ _ _ hx, but_bit _ _ _ hx]; cases s.testBit x <;> cases t.testBit x <;> simp
  rw [card_zero] at h h2
  omega
theorem parts_sum (s t : Nat) : card (any s t) + card (both s t) = card s + card t := by
  have h := card_lin (any s t) (both s t) s t fun x hx => by
    rw [both_bit _ _ _ hx, any_bit _ _ _ hx]; cases s.testBit x <;> cases t.testBit x <;> decide
  have h2 := card_lin s t (any s t) (both s t) fun x hx => by
    rw [both_bit _ _ _ hx, any_bit _ _ _ hx]; cases s.testBit x <;> cases t.testBit x <;> decide
  omega
theorem inn_iff (a b : Nat) : inn a b = true ↔ ∀ i, i < 64 → a.testBit i = true → b.testBit i = true := by
  unfold inn
  rw [beq_iff_eq]
  constructor
  · intro h i hi ha
    have := but_bit a b i hi
    rw [h, Nat.zero_testBit, ha] at this
    simpa using this.symm
  · intro h
    refine set_ext _ _ (num_lt _) (by decide) fun i hi => ?_
    rw [but_bit _ _ _ hi, Nat.zero_testBit]
    cases ha : a.testBit i with
    | true => rw [h i hi ha]; rfl
    | false => rfl
theorem inn_both1 (s t : Nat) : inn (both s t) s = true := by
  rw [inn_iff]; intro i hi h; rw [both_bit _ _ _ hi] at h; simp at h; exact h.1
theorem inn_both2 (s t : Nat) : inn (both s t) t = true := by
  rw [inn_iff]; intro i hi h; rw [both_bit _ _ _ hi] at h; simp at h; exact h.2
theorem inn_any (s t : Nat) : inn s (any s t) = true := by
  rw [inn_iff]; intro i hi h; rw [any_bit _ _ _ hi, h]; rfl
theorem inn_eq (s t : Nat) (hs : s < 18446744073709551616) : inn s t = ((both s t : Int) == (s : Int)) := by
  rw [Bool.eq_iff_iff, inn_iff, beq_iff_eq]
  constructor
  · intro h
    have : both s t = s := set_ext _ _ (num_lt _) hs fun i hi => by
      rw [both_bit _ _ _ hi]
      cases ha : s.testBit i with
      | true => rw [h i hi ha]; rfl
      | false => rfl
    rw [this]
  · intro h i hi ha
    have h2 : both s t = s := by omega
    have := both_bit s t i hi
    rw [h2, ha] at this
    simpa using this.symm

theorem below_bit (n : Int) (i : Nat) (h : i < 64) : (below n).testBit i = decide ((i : Int) < n) := by unfold below; rw [num_bit]; simp [h]
theorem below_mem (k p : Nat) (hp : p < 64) : mem (below (k : Int)) (p : Int) = decide ((p : Int) < (k : Int)) := by rw [mem_nat _ _ hp, below_bit _ _ hp]
theorem countP_lt : ∀ (m k : Nat), k ≤ m → (List.range m).countP (fun (i : Nat) => decide ((i : Int) < (k : Int))) = k
  | 0, k, h => by simp; omega
  | m + 1, k, h => by
    rw [List.range_succ, List.countP_append]
    by_cases e : k = m + 1
    · subst e
      have h1 : (List.range m).countP (fun (i : Nat) => decide ((i : Int) < ((m + 1 : Nat) : Int))) = (List.range m).countP (fun (i : Nat) => decide ((i : Int) < (m : Int))) := by
        apply List.countP_congr
        intro i hi
        have : i < m := by simpa using hi
        simp
        omega
      rw [h1, countP_lt m m (Nat.le_refl _)]
      simp
      omega
    · rw [countP_lt m k (by omega)]
      simp
      omega
theorem below_card (k : Nat) (h : k ≤ 64) : card (below (k : Int)) = k := by
  unfold card
  rw [cnt_ext _ _ (fun i hi => below_bit (k : Int) i hi)]
  exact countP_lt 64 k h
theorem below_in (k : Nat) : inn (below (k : Int)) (below ((k : Int) + 1)) = true := by
  rw [inn_iff]; intro i hi h; rw [below_bit _ _ hi] at h ⊢; simp at h ⊢; omega
theorem below_next (k : Nat) : but (below ((k : Int) + 1)) (below (k : Int)) = ofl [(k : Int)] := by
  refine set_ext _ _ (num_lt _) (num_lt _) fun i hi => ?_
  rw [but_bit _ _ _ hi, below_bit _ _ hi, below_bit _ _ hi]
  unfold ofl
  rw [num_bit, Bool.eq_iff_iff]
  simp [hi]
  omega
end Go.Proofs.YtkcjfofnnkdpaaaDoor
