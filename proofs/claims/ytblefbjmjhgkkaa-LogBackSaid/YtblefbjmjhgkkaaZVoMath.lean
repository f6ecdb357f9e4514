/- Layer 18, plain: views, records, the last view, the pending ones, who may, the next number. -/
import Derived.Test.YtblefbjmjhgkkaaZSetMaths
set_option linter.unusedVariables false
set_option maxRecDepth 100000
set_option linter.unusedSimpArgs false
namespace Go.Proofs.Ytblefbjmjhgkkaa

theorem snocInd {α : Type} {motive : List α → Prop} (nil : motive []) (snoc : ∀ (t : List α) (x : α), motive t → motive (t ++ [x])) (l : List α) : motive l := by
  have key : ∀ r : List α, motive r.reverse := by
    intro r
    induction r with
    | nil => exact nil
    | cons x t ih => rw [List.reverse_cons]; exact snoc _ _ ih
  have := key l.reverse
  rwa [List.reverse_reverse] at this
/-- A view: its number, its configuration's epoch and representative, its members. -/
structure Vw where
  n : Nat
  e : Nat
  r : Int
  m : Nat
deriving DecidableEq
/-- Its fields are within their types. -/
structure Vw.ok (v : Vw) : Prop where
  n : v.n < 18446744073709551616
  e : v.e < 18446744073709551616
  r0 : -9223372036854775808 ≤ v.r
  r1 : v.r ≤ 9223372036854775807
  m : v.m < 18446744073709551616
def zeroV : Vw := ⟨0, 0, 0, 0⟩
theorem zeroV_ok : zeroV.ok := ⟨by decide, by decide, by decide, by decide, by decide⟩
/-- A record: its last view, and what is pending. -/
structure Rp where
  last : Vw
  pend : List Vw
structure Rp.ok (r : Rp) : Prop where
  last : r.last.ok
  pend : ∀ v ∈ r.pend, v.ok

/-- The last view of some: the first with the greatest number. -/
def lastStep (o : Option Vw) (v : Vw) : Option Vw := match o with
  | none => some v
  | some b => if b.n < v.n then some v else some b
def lastO (l : List Vw) : Option Vw := l.foldl lastStep none
def lastV (l : List Vw) : Vw := (lastO l).getD zeroV
theorem step_yes (b v : Vw) (h : b.n < v.n) : lastStep (some b) v = some v := if_pos h
theorem step_no (b v : Vw) (h : ¬b.n < v.n) : lastStep (some b) v = some b := if_neg h
theorem lastO_snoc (l : List Vw) (v : Vw) : lastO (l ++ [v]) = lastStep (lastO l) v := by unfold lastO; rw [List.foldl_append]; rfl
theorem lastV_nil : lastV [] = zeroV := rfl
theorem lastO_spec (l : List Vw) : (l = [] ∧ lastO l = none) ∨ ∃ (i : Nat) (b : Vw), lastO l = some b ∧ l[i]? = some b ∧ (∀ x ∈ l, x.n ≤ b.n) ∧ ∀ j x, j < i → l[j]? = some x → x.n < b.n := by
  induction l using snocInd with
  | nil => exact .inl ⟨rfl, rfl⟩
  | snoc t v ih =>
    refine .inr ?_
    rw [lastO_snoc]
    rcases ih with ⟨rfl, e⟩ | ⟨i, b, e, hi, hm, hf⟩
    · rw [e]
      exact ⟨0, v, rfl, rfl, fun x hx => by simp at hx; rw [hx]; exact Nat.le_refl _, fun j x hj => absurd hj (Nat.not_lt_zero _)⟩
    · rw [e]
      have hil := (List.getElem?_eq_some_iff.1 hi).1
      by_cases h : b.n < v.n
      · rw [step_yes _ _ h]
        refine ⟨t.length, v, rfl, by simp, fun x hx => ?_, fun j x hj hx => ?_⟩
        · rcases List.mem_append.1 hx with hx | hx
          · have := hm x hx; omega
          · simp at hx; rw [hx]; exact Nat.le_refl _
        · rw [List.getElem?_append_left hj] at hx
          have := hm x (List.mem_of_getElem? hx); omega
      · rw [step_no _ _ h]
        refine ⟨i, b, rfl, by rw [List.getElem?_append_left hil]; exact hi, fun x hx => ?_, fun j x hj hx => ?_⟩
        · rcases List.mem_append.1 hx with hx | hx
          · exact hm x hx
          · simp at hx; rw [hx]; omega
        · rw [List.getElem?_append_left (by omega)] at hx
          exact hf j x hj hx
theorem lastV_snoc (l : List Vw) (v : Vw) : lastV (l ++ [v]) = if l = [] ∨ (lastV l).n < v.n then v else lastV l := by
  have h := lastO_snoc l v
  rcases lastO_spec l with ⟨rfl, e⟩ | ⟨i, b, e, hi, _⟩
  · rw [if_pos (.inl rfl)]; unfold lastV; rw [h, e]; rfl
  · have hne : l ≠ [] := by intro e'; rw [e'] at hi; simp at hi
    unfold lastV
    rw [h, e]
    by_cases hb : b.n < v.n
    · rw [step_yes _ _ hb, if_pos (.inr hb)]; rfl
    · rw [step_no _ _ hb, if_neg (fun h => h.elim hne hb)]
/-- It is one of them, and none is greater; or there are none. -/
theorem lastV_spec (l : List Vw) (h : l ≠ []) : ∃ i : Nat, l[i]? = some (lastV l) ∧ (∀ x ∈ l, x.n ≤ (lastV l).n) ∧ ∀ j x, j < i → l[j]? = some x → x.n < (lastV l).n := by
  rcases lastO_spec l with ⟨rfl, _⟩ | ⟨i, b, e, hi, hm, hf⟩
  · exact absurd rfl h
  · have : lastV l = b := by unfold lastV; rw [e]; rfl
    rw [this]; exact ⟨i, hi, hm, hf⟩
theorem lastV_mem (l : List Vw) (h : l ≠ []) : lastV l ∈ l := by
  obtain ⟨i, hi, _⟩ := lastV_spec l h
  exact List.mem_of_getElem? hi
theorem lastV_max (l : List Vw) (x : Vw) (hx : x ∈ l) : x.n ≤ (lastV l).n := by
  obtain ⟨i, _, hm, _⟩ := lastV_spec l (List.ne_nil_of_mem hx)
  exact hm x hx
theorem lastV_ok (l : List Vw) (h : ∀ x ∈ l, x.ok) : (lastV l).ok := by
  by_cases hn : l = []
  · subst hn; exact zeroV_ok
  · exact h _ (lastV_mem l hn)
/-- The first one that none is greater than. -/
theorem lastV_first (l : List Vw) (i : Nat) (b : Vw) (hi : l[i]? = some b) (hm : ∀ x ∈ l, x.n ≤ b.n) (hf : ∀ j x, j < i → l[j]? = some x → ∃ y ∈ l, x.n < y.n) : lastV l = b := by
  have hne : l ≠ [] := by intro e; rw [e] at hi; simp at hi
  obtain ⟨k, hk, km, kf⟩ := lastV_spec l hne
  rcases Nat.lt_trichotomy i k with h | h | h
  · have h1 := kf i b h hi
    have h2 := hm _ (List.mem_of_getElem? hk)
    omega
  · subst h; rw [hi] at hk; exact (Option.some.inj hk).symm
  · obtain ⟨y, hy, h1⟩ := hf k _ h hk
    have := km y hy
    omega

/-- Those behind the number n. -/
def behindV (l : List Vw) (n : Nat) : List Vw := l.filter (fun v => decide (n < v.n))
theorem behindV_mem (l : List Vw) (n : Nat) (v : Vw) : v ∈ behindV l n ↔ v ∈ l ∧ n < v.n := by unfold behindV; simp
theorem behindV_snoc (l : List Vw) (n : Nat) (v : Vw) : behindV (l ++ [v]) n = if n < v.n then behindV l n ++ [v] else behindV l n := by
  unfold behindV
  rw [List.filter_append]
  by_cases h : n < v.n
  · simp [h]
  · simp [h]
theorem behindV_le (l : List Vw) (n : Nat) : (behindV l n).length ≤ l.length := List.length_filter_le _ _
/-- Each once. -/
def onceStep (out : List Vw) (v : Vw) : List Vw := if v ∈ out then out else out ++ [v]
def onceV (l : List Vw) : List Vw := l.foldl onceStep []
theorem onceV_snoc (l : List Vw) (v : Vw) : onceV (l ++ [v]) = onceStep (onceV l) v := by unfold onceV; rw [List.foldl_append]; rfl
theorem onceV_mem (l : List Vw) (v : Vw) : v ∈ onceV l ↔ v ∈ l := by
  revert v
  induction l using snocInd with
  | nil => exact fun v => Iff.rfl
  | snoc t x ih =>
    intro v
    rw [onceV_snoc]
    unfold onceStep
    by_cases h : x ∈ onceV t
    · rw [if_pos h]
      rw [ih v, List.mem_append]
      constructor
      · exact .inl
      · rintro (h' | h')
        · exact h'
        · simp at h'; rw [h']; exact (ih x).1 h
    · rw [if_neg h, List.mem_append, List.mem_append, ih]
theorem onceV_le (l : List Vw) : (onceV l).length ≤ l.length := by
  induction l using snocInd with
  | nil => exact Nat.le_refl _
  | snoc t x ih =>
    rw [onceV_snoc]
    unfold onceStep
    split <;> simp <;> omega
/-- All pending ones of some records, in their order. -/
def allP (l : List Rp) (n : Nat) : List Vw := (l.map fun r => behindV r.pend n).flatten
def lastR (l : List Rp) : Vw := lastV (l.map Rp.last)
def pendV (l : List Rp) : List Vw := onceV (allP l (lastR l).n)
theorem lastR_snoc (l : List Rp) (r : Rp) : lastR (l ++ [r]) = if l = [] ∨ (lastR l).n < r.last.n then r.last else lastR l := by
  unfold lastR
  rw [List.map_append]
  show lastV (l.map Rp.last ++ [r.last]) = _
  rw [lastV_snoc]
  simp only [List.map_eq_nil_iff]
theorem allP_mem (l : List Rp) (n : Nat) (v : Vw) : v ∈ allP l n ↔ ∃ r ∈ l, v ∈ r.pend ∧ n < v.n := by
  unfold allP
  simp only [List.mem_flatten, List.mem_map]
  constructor
  · rintro ⟨_, ⟨r, hr, rfl⟩, hv⟩
    exact ⟨r, hr, (behindV_mem _ _ _).1 hv⟩
  · rintro ⟨r, hr, hv⟩
    exact ⟨_, ⟨r, hr, rfl⟩, (behindV_mem _ _ _).2 hv⟩
theorem allP_snoc (l : List Rp) (r : Rp) (n : Nat) : allP (l ++ [r]) n = allP l n ++ behindV r.pend n := by unfold allP; rw [List.map_append, List.flatten_append]; simp
theorem pendV_mem (l : List Rp) (v : Vw) : v ∈ pendV l ↔ ∃ r ∈ l, v ∈ r.pend ∧ (lastR l).n < v.n := by unfold pendV; rw [onceV_mem, allP_mem]
theorem lastR_ok (l : List Rp) (h : ∀ r ∈ l, r.ok) : (lastR l).ok := lastV_ok _ fun x hx => by
  obtain ⟨r, hr, rfl⟩ := List.mem_map.1 hx
  exact (h r hr).last
theorem pendV_ok (l : List Rp) (h : ∀ r ∈ l, r.ok) : ∀ v ∈ pendV l, v.ok := fun v hv => by
  obtain ⟨r, hr, hp, _⟩ := (pendV_mem l v).1 hv
  exact (h r hr).pend v hp
/-- How many views are pending. -/
def sumP (l : List Rp) : Nat := (l.map fun r => r.pend.length).sum
theorem sumP_snoc (l : List Rp) (r : Rp) : sumP (l ++ [r]) = sumP l + r.pend.length := by unfold sumP; rw [List.map_append, List.sum_append]; simp
theorem sumP_take_le (l : List Rp) (k : Nat) : sumP (l.take k) ≤ sumP l := by
  unfold sumP
  conv => rhs; rw [← List.take_append_drop k l, List.map_append, List.sum_append]
  omega
theorem allP_le (l : List Rp) (n : Nat) : (allP l n).length ≤ sumP l := by
  induction l using snocInd with
  | nil => exact Nat.le_refl _
  | snoc t r ih =>
    rw [allP_snoc, sumP_snoc, List.length_append]
    have := behindV_le r.pend n
    omega
theorem pendV_le (l : List Rp) : (pendV l).length ≤ sumP l := Nat.le_trans (onceV_le _) (allP_le _ _)
/-- May these members? -/
def mayV (s : Nat) (l : List Rp) : Bool := (pendV l ++ [lastR l]).all fun v => most s v.m
theorem most_zero (s : Nat) : most s 0 = false := by
  unfold most
  rw [card_zero]
  have : both s 0 = 0 := set_ext _ _ (both_lt _ _) (by decide) fun i hi => by unfold both; rw [num_bit]; simp
  rw [this, card_zero]
  decide
theorem mayV_nil (s : Nat) : mayV s [] = false := by
  unfold mayV
  rw [show pendV [] = [] from rfl, show lastR [] = zeroV from rfl]
  simp [zeroV, most_zero]
theorem mayV_iff (s : Nat) (l : List Rp) : mayV s l = true ↔ most s (lastR l).m = true ∧ ∀ v ∈ pendV l, most s v.m = true := by
  unfold mayV
  rw [List.all_eq_true]
  constructor
  · intro h
    exact ⟨h _ (by simp), fun v hv => h v (List.mem_append_left _ hv)⟩
  · rintro ⟨h1, h2⟩ v hv
    rcases List.mem_append.1 hv with hv | hv
    · exact h2 v hv
    · simp at hv; rw [hv]; exact h1
/-- The greatest number of some. -/
def mxN (l : List Nat) : Nat := l.foldl max 0
theorem mxN_snoc (l : List Nat) (n : Nat) : mxN (l ++ [n]) = max (mxN l) n := by unfold mxN; rw [List.foldl_append]; rfl
theorem mxN_le (l : List Nat) : ∀ n ∈ l, n ≤ mxN l := by
  induction l using snocInd with
  | nil => intro n h; cases h
  | snoc t x ih =>
    intro n h
    rw [mxN_snoc]
    rcases List.mem_append.1 h with h | h
    · have := ih n h; omega
    · simp at h; omega
theorem mxN_lt (l : List Nat) (b : Nat) (hb : 0 < b) (h : ∀ n ∈ l, n < b) : mxN l < b := by
  induction l using snocInd with
  | nil => exact hb
  | snoc t x ih =>
    rw [mxN_snoc]
    have h1 := ih fun n hn => h n (List.mem_append_left _ hn)
    have h2 := h x (by simp)
    omega
/-- All numbers that a record knows of, all that some do. -/
def numsR (r : Rp) : List Nat := r.last.n :: r.pend.map Vw.n
def numsV (l : List Rp) : List Nat := (l.map numsR).flatten
theorem numsV_snoc (l : List Rp) (r : Rp) : numsV (l ++ [r]) = numsV l ++ numsR r := by unfold numsV; rw [List.map_append, List.flatten_append]; simp
theorem numsV_mem (l : List Rp) (n : Nat) : n ∈ numsV l ↔ ∃ r ∈ l, n = r.last.n ∨ ∃ v ∈ r.pend, n = v.n := by
  unfold numsV numsR
  simp only [List.mem_flatten, List.mem_map]
  constructor
  · rintro ⟨_, ⟨r, hr, rfl⟩, hv⟩
    rcases List.mem_cons.1 hv with h | h
    · exact ⟨r, hr, .inl h⟩
    · obtain ⟨v, hv', rfl⟩ := List.mem_map.1 h
      exact ⟨r, hr, .inr ⟨v, hv', rfl⟩⟩
  · rintro ⟨r, hr, h | ⟨v, hv, rfl⟩⟩
    · exact ⟨_, ⟨r, hr, rfl⟩, by rw [h]; exact List.mem_cons_self ..⟩
    · exact ⟨_, ⟨r, hr, rfl⟩, List.mem_cons_of_mem _ (List.mem_map.2 ⟨v, hv, rfl⟩)⟩
theorem numsV_lt (l : List Rp) (h : ∀ r ∈ l, r.ok) : ∀ n ∈ numsV l, n < 18446744073709551616 := fun n hn => by
  obtain ⟨r, hr, rfl | ⟨v, hv, rfl⟩⟩ := (numsV_mem l n).1 hn
  · exact (h r hr).last.n
  · exact ((h r hr).pend v hv).n
/-- The next number. -/
def upN (m : Nat) : Nat := if m = 18446744073709551615 then m else m + 1
def nextV (l : List Rp) : Nat := upN (mxN (numsV l))
theorem nextV_lt (l : List Rp) (h : ∀ r ∈ l, r.ok) : nextV l < 18446744073709551616 := by
  have := mxN_lt _ _ (by decide) (numsV_lt l h)
  unfold nextV upN
  split <;> omega

/-- Two sets that have most of a third one meet in it. -/
theorem most_meet (a b t : Nat) (h1 : most a t = true) (h2 : most b t = true) : ∃ p, p < 64 ∧ a.testBit p = true ∧ b.testBit p = true ∧ t.testBit p = true := by
  unfold most at h1 h2
  have h1 := of_decide_eq_true h1
  have h2 := of_decide_eq_true h2
  refine Classical.byContradiction fun hn => ?_
  have hn' : ∀ p, p < 64 → ¬(a.testBit p = true ∧ b.testBit p = true ∧ t.testBit p = true) := fun p hp h => hn ⟨p, hp, h⟩
  have key := cnt_lin (fun p => a.testBit p && t.testBit p) (fun p => b.testBit p && t.testBit p) (fun p => t.testBit p) (fun _ => false) (fun x hx => by
    have := hn' x hx
    cases ha : a.testBit x <;> cases hb : b.testBit x <;> cases ht : t.testBit x <;> simp_all)
  rw [cnt_none] at key
  unfold both at h1 h2
  rw [card_num] at h1 h2
  have : card t = cnt (fun p => t.testBit p) := rfl
  omega
/-- More members: more. -/
theorem most_moreV (a b t : Nat) (h : most a t = true) : most (any a b) t = true := by
  unfold most at h ⊢
  have h := of_decide_eq_true h
  refine decide_eq_true ?_
  have key := cnt_lin (fun p => a.testBit p && t.testBit p) (fun _ => false) (fun p => (any a b).testBit p && t.testBit p) (fun _ => false) (fun x hx => by
    unfold any
    rw [num_bit]
    cases ha : a.testBit x <;> cases hb : b.testBit x <;> cases ht : t.testBit x <;> simp [hx])
  rw [cnt_none] at key
  unfold both at h ⊢
  rw [card_num] at h ⊢
  omega
theorem mayV_more (a b : Nat) (l : List Rp) (h : mayV a l = true) : mayV (any a b) l = true := by
  rw [mayV_iff] at h ⊢
  exact ⟨most_moreV _ _ _ h.1, fun v hv => most_moreV _ _ _ (h.2 v hv)⟩
/-- What both have of a third one isn't empty. -/
theorem meet_pos (a b t : Nat) (h1 : most a t = true) (h2 : most b t = true) : both (both a b) t ≠ 0 := by
  obtain ⟨p, hp, ha, hb, ht⟩ := most_meet a b t h1 h2
  intro e
  have : (both (both a b) t).testBit p = true := by
    unfold both
    rw [num_bit, num_bit, ha, hb, ht]
    simp [hp]
  rw [e] at this
  simp at this
end Go.Proofs.Ytblefbjmjhgkkaa
