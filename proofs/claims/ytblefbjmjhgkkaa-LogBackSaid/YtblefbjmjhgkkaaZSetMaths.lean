/- Sets as the bits of a number: plain facts, without the program. -/
import Derived.WalkKit
import Derived.Laws.BitsAllLaws
import Derived.Laws.Bits64b
import Derived.Lib.TrailingZeros
set_option linter.unusedVariables false
set_option maxRecDepth 100000
set_option linter.unusedSimpArgs false
namespace Go.Proofs.Ytblefbjmjhgkkaa

/-- The number whose highest k bits of 64 are those of f. -/
def hi (f : Nat → Bool) : Nat → Nat
  | 0 => 0
  | k + 1 => hi f k * 2 + (f (63 - k)).toNat

theorem hi_bit (f : Nat → Bool) : ∀ (k i : Nat), k ≤ 64 → (hi f k).testBit i = (decide (i < k) && f (64 - k + i))
  | 0, i, _ => by simp [hi]
  | k + 1, i, h => by
    have e : (f (63 - k)).toNat < 2 := by cases f (63 - k) <;> decide
    rw [hi, Nat.mul_comm]
    cases i with
    | zero =>
      have e2 : 64 - (k + 1) + 0 = 63 - k := by omega
      rw [Nat.testBit_zero, e2]
      cases f (63 - k) <;> simp
    | succ i =>
      rw [Nat.testBit_succ, show (2 * hi f k + (f (63 - k)).toNat) / 2 = hi f k by omega, hi_bit f k i (by omega)]
      congr 1
      · simp
      · congr 1; omega
theorem hi_lt (f : Nat → Bool) : ∀ (k : Nat), hi f k < 2 ^ k
  | 0 => by simp [hi]
  | k + 1 => by
    have e : (f (63 - k)).toNat < 2 := by cases f (63 - k) <;> decide
    have := hi_lt f k
    rw [hi, Nat.pow_succ]; omega

/-- The set of those of which f says so. -/
def num (f : Nat → Bool) : Nat := hi f 64
theorem num_bit (f : Nat → Bool) (i : Nat) : (num f).testBit i = (decide (i < 64) && f i) := by
  unfold num; rw [hi_bit f 64 i (by omega)]; simp
theorem num_lt (f : Nat → Bool) : num f < 18446744073709551616 := hi_lt f 64
theorem num_ext (f g : Nat → Bool) (h : ∀ i, i < 64 → f i = g i) : num f = num g := by
  apply Nat.eq_of_testBit_eq
  intro i
  rw [num_bit, num_bit]
  by_cases hi : i < 64
  · rw [h i hi]
  · simp [hi]
theorem bit_high (a i : Nat) (h : a < 18446744073709551616) (hi : 64 ≤ i) : a.testBit i = false :=
  Nat.testBit_lt_two_pow (Nat.lt_of_lt_of_le h (show 2 ^ 64 ≤ 2 ^ i from Nat.pow_le_pow_right (by decide) hi))
theorem set_ext (a b : Nat) (ha : a < 18446744073709551616) (hb : b < 18446744073709551616) (h : ∀ i, i < 64 → a.testBit i = b.testBit i) : a = b := by
  apply Nat.eq_of_testBit_eq
  intro i
  by_cases hi : i < 64
  · exact h i hi
  · rw [bit_high a i ha (by omega), bit_high b i hb (by omega)]
theorem num_self (a : Nat) (ha : a < 18446744073709551616) : num a.testBit = a :=
  set_ext _ _ (num_lt _) ha fun i hi => by rw [num_bit]; simp [hi]

/-- What both have; what one of them has; what a has, but not b. -/
def both (a b : Nat) : Nat := num fun p => a.testBit p && b.testBit p
def any (a b : Nat) : Nat := num fun p => a.testBit p || b.testBit p
def but (a b : Nat) : Nat := num fun p => a.testBit p && !b.testBit p
theorem both_lt (a b : Nat) : both a b < 18446744073709551616 := num_lt _
theorem any_lt (a b : Nat) : any a b < 18446744073709551616 := num_lt _
theorem but_lt (a b : Nat) : but a b < 18446744073709551616 := num_lt _
theorem both_eq (a b : Nat) (ha : a < 18446744073709551616) (hb : b < 18446744073709551616) : bits .and .u64 (a : Int) (b : Int) = ((both a b : Nat) : Int) := by
  rw [bits_and_u64_nat a b ha hb]
  congr 1
  refine set_ext _ _ (Nat.lt_of_le_of_lt Nat.and_le_left ha) (num_lt _) fun i hi => ?_
  unfold both
  rw [num_bit, Nat.testBit_and]; simp [hi]
theorem any_eq (a b : Nat) (ha : a < 18446744073709551616) (hb : b < 18446744073709551616) : bits .or .u64 (a : Int) (b : Int) = ((any a b : Nat) : Int) := by
  rw [bits_or_u64_nat a b ha hb]
  congr 1
  refine set_ext _ _ (Nat.or_lt_two_pow (n := 64) ha hb) (num_lt _) fun i hi => ?_
  unfold any
  rw [num_bit, Nat.testBit_or]; simp [hi]
theorem but_eq (a b : Nat) (ha : a < 18446744073709551616) (hb : b < 18446744073709551616) : bits .andNot .u64 (a : Int) (b : Int) = ((but a b : Nat) : Int) := by
  rw [u64_andNot_nat a b ha hb]
  congr 1
  refine set_ext _ _ (Nat.lt_of_le_of_lt Nat.and_le_left ha) (num_lt _) fun i hi => ?_
  unfold but
  rw [num_bit, Nat.testBit_and, show 18446744073709551615 - b = 2 ^ 64 - (b + 1) by omega, Nat.testBit_two_pow_sub_succ (show b < 2 ^ 64 from hb)]; simp [hi]

/-- The process p alone. -/
def onl (p : Int) : Nat := if 0 ≤ p ∧ p < 64 then 2 ^ p.toNat else 0
theorem onl_lt (p : Int) : onl p < 18446744073709551616 := by
  unfold onl; split
  · exact Nat.lt_of_lt_of_le (Nat.pow_lt_pow_right (by decide) (show p.toNat < 64 by omega)) (by decide)
  · decide
theorem onl_bit (p : Int) (i : Nat) (hi : i < 64) : (onl p).testBit i = decide ((i : Int) = p) := by
  unfold onl; split
  · rw [Nat.testBit_two_pow]
    congr 1
    apply propext; omega
  · simp; omega
/-- Does a have p? -/
def mem (a : Nat) (p : Int) : Bool := decide (0 ≤ p) && decide (p < 64) && a.testBit p.toNat
theorem mem_nat (a p : Nat) (h : p < 64) : mem a (p : Int) = a.testBit p := by
  unfold mem
  rw [decide_eq_true (show (0 : Int) ≤ p by omega), decide_eq_true (show (p : Int) < 64 by omega)]
  simp
theorem mem_both (a : Nat) (p : Int) : (both a (onl p) == 0) = !mem a p := by
  cases hm : mem a p with
  | true =>
    unfold mem at hm
    simp at hm
    have hb : (both a (onl p)).testBit p.toNat = true := by
      unfold both; rw [num_bit, onl_bit _ _ (by omega), decide_eq_true (show p.toNat < 64 by omega), hm.2, decide_eq_true (show ((p.toNat : Nat) : Int) = p by omega)]; rfl
    have : both a (onl p) ≠ 0 := by intro e; rw [e] at hb; simp at hb
    simpa using this
  | false =>
    have : both a (onl p) = 0 := by
      refine set_ext _ _ (num_lt _) (by decide) fun i hi => ?_
      unfold both; rw [num_bit, onl_bit _ _ hi, Nat.zero_testBit]
      by_cases he : (i : Int) = p
      · subst he
        rw [mem_nat a i hi] at hm
        simp [hm]
      · simp [he]
    simp [this]

/-- The set of the processes in a list. -/
def ofl (l : List Int) : Nat := num fun p => l.contains (p : Int)
theorem ofl_lt (l : List Int) : ofl l < 18446744073709551616 := num_lt _
theorem ofl_nil : ofl [] = 0 := set_ext _ _ (num_lt _) (by decide) fun i hi => by unfold ofl; rw [num_bit]; simp
theorem ofl_snoc (l : List Int) (z : Int) : any (ofl l) (onl z) = ofl (l ++ [z]) := by
  refine set_ext _ _ (num_lt _) (num_lt _) fun i hi => ?_
  unfold any
  rw [num_bit, onl_bit z i hi]
  unfold ofl
  rw [num_bit, num_bit]
  simp [hi]

/-- The processes below n. -/
def below (n : Int) : Nat := num fun p => decide ((p : Int) < n)
theorem below_lt (n : Int) : below n < 18446744073709551616 := num_lt _
theorem below_nat (k : Nat) (h : k ≤ 64) : below (k : Int) = 2 ^ k - 1 := by
  refine set_ext _ _ (num_lt _) ?_ fun i hi => ?_
  · have : 2 ^ k ≤ 2 ^ 64 := Nat.pow_le_pow_right (by decide) h
    have h2 : (2 : Nat) ^ 64 = 18446744073709551616 := by decide
    have h3 : 0 < 2 ^ k := Nat.two_pow_pos k
    omega
  · unfold below; rw [num_bit, Nat.testBit_two_pow_sub_one]; simp [hi]
theorem below_clip (n : Int) (k : Nat) (h : k ≤ 64) (hk : (n < k → n < 0 ∧ k = 0) ∧ (k < n → k = 64)) : below n = below (k : Int) := by
  unfold below
  refine num_ext _ _ fun i hi => ?_
  congr 1
  apply propext
  omega

/-- How many of 64 f says so of. -/
def cnt (f : Nat → Bool) : Nat := (List.range 64).countP f
/-- How many a has. -/
def card (a : Nat) : Nat := cnt a.testBit
/-- Those that a has, rising. -/
def lst (a : Nat) : List Nat := (List.range 64).filter a.testBit
theorem lst_length (a : Nat) : (lst a).length = card a := by unfold lst card cnt; rw [List.countP_eq_length_filter]
theorem cnt_le (f : Nat → Bool) : cnt f ≤ 64 := by unfold cnt; exact Nat.le_trans List.countP_le_length (by simp)
theorem card_le (a : Nat) : card a ≤ 64 := cnt_le _
theorem cnt_ext (f g : Nat → Bool) (h : ∀ i, i < 64 → f i = g i) : cnt f = cnt g := by
  unfold cnt
  apply List.countP_congr
  intro i hi
  rw [h i (by simpa using hi)]
theorem countP_lin (f g h k : Nat → Bool) : ∀ (l : List Nat), (∀ x ∈ l, (f x).toNat + (g x).toNat ≤ (h x).toNat + (k x).toNat) → l.countP f + l.countP g ≤ l.countP h + l.countP k
  | [], _ => by simp
  | x :: l, H => by
    have h1 := H x (by simp)
    have h2 := countP_lin f g h k l fun y hy => H y (by simp [hy])
    simp only [List.countP_cons]
    revert h1
    cases f x <;> cases g x <;> cases h x <;> cases k x <;> simp <;> omega
theorem cnt_lin (f g h k : Nat → Bool) (H : ∀ x, x < 64 → (f x).toNat + (g x).toNat ≤ (h x).toNat + (k x).toNat) : cnt f + cnt g ≤ cnt h + cnt k :=
  countP_lin f g h k _ fun x hx => H x (by simpa using hx)
theorem cnt_none : cnt (fun _ => false) = 0 := by decide
theorem card_num (f : Nat → Bool) : card (num f) = cnt f := by
  unfold card; exact cnt_ext _ _ fun i hi => by rw [num_bit]; simp [hi]
theorem card_zero : card 0 = 0 := by
  unfold card; rw [← cnt_none]; exact cnt_ext _ _ fun i hi => Nat.zero_testBit i
theorem card_pos (a : Nat) (ha : a < 18446744073709551616) (h : a ≠ 0) : 0 < card a := by
  apply Nat.pos_of_ne_zero
  intro e
  apply h
  refine set_ext _ _ ha (by decide) fun i hi => ?_
  unfold card cnt at e
  rw [List.countP_eq_zero] at e
  have := e i (by simpa using hi)
  simpa using this
/-- Has s most of t? -/
def most (s t : Nat) : Bool := decide (card t < 2 * card (both s t))

theorem lst_take (a k : Nat) (h : k < 64) : (List.range (k + 1)).filter a.testBit = (List.range k).filter a.testBit ++ (if a.testBit k then [k] else []) := by
  rw [List.range_succ, List.filter_append]
  cases hb : a.testBit k <;> simp [hb]

/-- The least one that a has; -1 of none. -/
def mn (a : Nat) : Int := if a = 0 then -1 else (Lib.ctz 64 a : Int)
theorem lst_head (a : Nat) (ha : a < 18446744073709551616) (h : a ≠ 0) : ∃ r, lst a = Lib.ctz 64 a :: r := by
  obtain ⟨m, hm, hk⟩ := Lib.ctzFrom_spec 64 a (by omega) ha
  have e : Lib.ctz 64 a = Lib.ctzFrom 64 a := by simp [Lib.ctz, h]
  rw [e]
  generalize hc : Lib.ctzFrom 64 a = c at hm hk
  have hbit : ∀ i, a.testBit i = (decide (c ≤ i) && (2 * m + 1).testBit (i - c)) := fun i => by
    rw [hm, Nat.mul_comm, Nat.testBit_mul_two_pow]
  have h0 : (List.range c).filter a.testBit = [] := by
    rw [List.filter_eq_nil_iff]
    intro i hi
    have : i < c := by simpa using hi
    rw [hbit]; simp; omega
  have h1 : a.testBit c = true := by rw [hbit]; simp [Nat.testBit_zero]
  unfold lst
  rw [show (64 : Nat) = c + (1 + (63 - c)) by omega, List.range_add, List.filter_append, h0, List.nil_append, List.range_add]
  simp only [List.range_one, List.map_append, List.map_cons, List.map_nil, Nat.add_zero, List.filter_append]
  rw [List.filter_cons, if_pos h1]
  exact ⟨_, rfl⟩
theorem lst_zero : lst 0 = [] := by decide
theorem mn_zero : mn 0 = -1 := by decide

theorem lst_rises (a : Nat) : (lst a).Pairwise (· < ·) := List.Pairwise.filter _ List.pairwise_lt_range
theorem lst_mem (a p : Nat) : p ∈ lst a ↔ p < 64 ∧ a.testBit p = true := by unfold lst; simp
/-- A list of processes as integers. -/
def ints (l : List Nat) : List Int := l.map Int.ofNat
theorem ofl_lst (a : Nat) (ha : a < 18446744073709551616) : ofl (ints (lst a)) = a := by
  refine set_ext _ _ (num_lt _) ha fun i hi => ?_
  unfold ofl ints
  rw [num_bit]
  cases hb : a.testBit i with
  | true =>
    simp [hi, lst_mem, hb]
    exact ⟨i, ⟨hi, hb⟩, rfl⟩
  | false =>
    simp [lst_mem, hb]
    intro _ x _ hx e
    have : x = i := by omega
    rw [this, hb] at hx
    cases hx
end Go.Proofs.Ytblefbjmjhgkkaa
