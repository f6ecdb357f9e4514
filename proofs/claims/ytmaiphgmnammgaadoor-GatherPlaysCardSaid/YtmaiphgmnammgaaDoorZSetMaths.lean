/- Sets as the bits of a number: plain facts, without the program. -/
import Derived.WalkKit
import Derived.Laws.BitsAllLaws
import Derived.Laws.Bits64b
import Derived.Lib.TrailingZeros
set_option linter.unusedVariables false
set_option linter.unusedSimpArgs false
namespace Go.Proofs.YtmaiphgmnammgaaDoor

/-- The number whose highest k bits of 64 are those of f. -/
def hi (f : Nat → Bool) : Nat → Nat
  | 0 => 0
  | k + 1 => hi f k * 2 + (f (63 - k)).toNat

theorem hi_bit (f : Nat → Bool) : ∀ (k i : Nat), k ≤ 64 → (hi f k).testBit i = (decide (i < k) && f (64 - k + i))
  | 0, i, _ => by simp [hi]
  | k + 1, i, h => by
    have e : (f (63 - k)).toNat < 2 := by cases f (63 - k) <;> decide
    rw [hi, Nat.mul_comm]
    cases i with
    | zero =>
      have e2 : 64 - (k + 1) + 0 = 63 - k := by omega
      rw [Nat.testBit_zero, e2]
      cases f (63 - k) <;> simp
    | succ i =>
      rw [Nat.testBit_succ, show (2 * hi f k + (f (63 - k)).toNat) / 2 = hi f k by omega, hi_bit f k i (by omega)]
      congr 1
      · simp
      · congr 1; omega
theorem hi_lt (f : Nat → Bool) : ∀ (k : Nat), hi f k < 2 ^ k
  | 0 => by simp [hi]
  | k + 1 => by
    have e : (f (63 - k)).toNat < 2 := by cases f (63 - k) <;> decide
    have := hi_lt f k
    rw [hi, Nat.pow_succ]; omega

/-- The set of those of which f says so. -/
def num (f : Nat → Bool) : Nat := hi f 64
theorem num_bit (f : Nat → Bool) (i : Nat) : (num f).testBit i = (decide (i < 64) && f i) := by
  unfold num; rw [hi_bit f 64 i (by omega)]; simp
theorem num_lt (f : Nat → Bool) : num f < 18446744073709551616 := hi_lt f 64
theorem num_ext (f g : Nat → Bool) (h : ∀ i, i < 64 → f i = g i) : num f = num g := by
  apply Nat.eq_of_testBit_eq
  intro i
  rw [num_bit, num_bit]
  by_cases hi : i < 64
  · rw [h i hi]
  · simp [hi]
theorem bit_high (a i : Nat) (h : a < 18446744073709551616) (hi : 64 ≤ i) : a.testBit i = false :=
  Nat.testBit_lt_two_pow (Nat.lt_of_lt_of_le h (show 2 ^ 64 ≤ 2 ^ i from Nat.pow_le_pow_right (by decide) hi))
theorem set_ext (a b : Nat) (ha : a < 18446744073709551616) (hb : b < 18446744073709551616) (h : ∀ i, i < 64 → a.testBit i = b.testBit i) : a = b := by
  apply Nat.eq_of_testBit_eq
  intro i
  by_cases hi : i < 64
  · exact h i hi
  · rw [bit_high a i ha (by omega), bit_high b i hb (by omega)]
theorem num_self (a : Nat) (ha : a < 18446744073709551616) : num a.testBit = a :=
  set_ext _ _ (num_lt _) ha fun i hi => by rw [num_bit]; simp [hi]

/-- What both have; what one of them has; what a has, but not b. -/
def both (a b : Nat) : Nat := num fun p => a.testBit p && b.testBit p
def any (a b : Nat) : Nat := num fun p => a.testBit p || b.testBit p
def but (a b : Nat) : Nat := num fun p => a.testBit p && !b.testBit p
theorem both_lt (a b : Nat) : both a b < 18446744073709551616 := num_lt _
theorem any_lt (a b : Nat) : any a b < 18446744073709551616 := num_lt _
theorem but_lt (a b : Nat) : but a b < 18446744073709551616 := num_lt _
theorem both_eq (a b : Nat) (ha : a < 18446744073709551616) (hb : b < 18446744073709551616) : bits .and .u64 (a : Int) (b : Int) = ((both a b : Nat) : Int) := by
  rw [bits_and_u64_nat a b ha hb]
  congr 1
  refine set_ext _ _ (Nat.lt_of_le_of_lt Nat.and_le_left ha) (num_lt _) fun i hi => ?_
  unfold both
  rw [num_bit, Nat.testBit_and]; simp [hi]
theorem any_eq (a b : Nat) (ha : a < 18446744073709551616) (hb : b < 18446744073709551616) : bits .or .u64 (a : Int) (b : Int) = ((any a b : Nat) : Int) := by
  rw [bits_or_u64_nat a b ha hb]
  congr 1
  refine set_ext _ _ (Nat.or_lt_two_pow (n := 64) ha hb) (num_lt _) fun i hi => ?_
  unfold any
  rw [num_bit, Nat.testBit_or]; simp [hi]
theorem but_eq (a b : Nat) (ha : a < 18446744073709551616) (hb : b < 18446744073709551616) : bits .andNot .u64 (a : Int) (b : Int) = ((but a b : Nat) : Int) := by
  rw [u64_andNot_nat a b ha hb]
  congr 1
  refine set_ext _ _ (Nat.lt_of_le_of_lt Nat.and_le_left ha) (num_lt _) fun i hi => ?_
  unfold but
  rw [num_bit, Nat.testBit_and, show 18446744073709551615 - b = 2 ^ 64 - (b + 1) by omega, Nat.testBit_two_pow_sub_succ (show b < 2 ^ 64 from hb)]; simp [hi]

/-- The process p alone. -/
def onl (p : Int) : Nat := if 0 ≤ p ∧ p < 64 then 2 ^ p.toNat else 0
theorem onl_lt (p : Int) : onl p < 18446744073709551616 := by
  unfold onl; split
  · exact Nat.lt_of_lt_of_le (Nat.pow_lt_pow_right (by decide) (show p.toNat < 64 by omega)) (by decide)
  · decide
theorem onl_bit (p : Int) (i : Nat) (hi : i < 64) : (onl p).testBit i = decide ((i : Int) = p) := by
  unfold onl; split
  · rw [Nat.testBit_two_pow]
    congr 1
    apply propext; omega
  · simp; omega
/-- Does a have p? -/
def mem (a : Nat) (p : Int) : Bool := decide (0 ≤ p) && decide (p < 64) && a.testBit p.toNat
theorem mem_nat (a p : Nat) (h : p < 64) : mem a (p : Int) = a.testBit p := by
  unfold mem
  rw [decide_eq_true (show (0 : Int) ≤ p by omega), decide_eq_true (show (p : Int) < 64 by omega)]
  simp
theorem mem_both (a : Nat) (p : Int) : (both a (onl p) == 0) = !mem a p := by
  cases hm : mem a p with
  | true =>
    unfold mem at hm
    simp at hm
    have hb : (both a (onl p)).testBit p.toNat = true := by
      unfold both; rw [num_bit, onl_bit _ _ (by omega), decide_eq_true (show p.toNat < 64 by omega), hm.2, decide_eq_true (show ((p.toNat : Nat) : Int) = p by omega)]; rfl
    have : both a (onl p) ≠ 0 := by intro e; rw [e] at hb; simp at hb
    simpa using this
  | false =>
    have : both a (onl p) = 0 := by
      refine set_ext _ _ (num_lt _) (by decide) fun i hi => ?_
      unfold both; rw [num_bit, onl_bit _ _ hi, Nat.zero_testBit]
      by_cases he : (i : Int) = p
      · subst he
        rw [mem_nat a i hi] at hm
        simp [hm]
      · simp [he]
    simp [this]

/-- The set of the processes in a list. -/
def ofl (l : List Int) : Nat := num fun p => l.contains (p : Int)
theorem ofl_lt (l : List Int) : ofl l < 18446744073709551616 := num_lt _
theorem ofl_nil : ofl [] = 0 := set_ext _ _ (num_lt _) (by decide) fun i hi => by unfold ofl; rw [num_bit]; simp
theorem ofl_snoc (l : List Int) (z : Int) : any (ofl l) (onl z) = ofl (l ++ [z]) := by
  refine set_ext _ _ (num_lt _) (num_lt _) fun i hi => ?_
  unfold any
  rw [num_bit, onl_bit z i hi]
  unfold ofl
  rw [num_bit, num_bit]
  simp [hi]

/-- The processes below n. -/
def below (n : Int) : Nat := num fun p => decide ((p : Int) < n)
theorem below_lt (n : Int) : below n < 18446744073709551616 := num_lt _
theorem below_nat (k : Nat) (h : k ≤ 64) : below (k : Int) = 2 ^ k - 1 := by
  refine set_ext _ _ (num_lt _) ?_ fun i hi => ?_
  · have : 2 ^ k ≤ 2 ^ 64 := Nat.pow_le_pow_right (by decide) h
    have h2 : (2 : Nat) ^ 64 = 18446744073709551616 := by decide
    have h3 : 0 < 2 ^ k := Nat.two_pow_pos k
    omega
  · unfold below; rw [num_bit, Nat.testBit_two_pow_sub_one]; simp [hi]
theorem below_clip (n : Int) (k : Nat) (h : k ≤ 64) (hk : (n < k → n < 0 ∧ k = 0) ∧ (k < n → k = 64)) : below n = below (k : Int) := by
  unfold below
  refine num_ext _ _ fun i hi => ?_
  congr 1
  apply propext
  omega

/-- How many of 64 f says so of. -/
def cnt (f : Nat → Bool) : Nat := (List.range 64).countP f
/-- How many a has. -/
def card (a : Nat) : Nat := cnt a.testBit
/-- Those that a has, rising. -/
def lst (a : Nat) : List Nat := (List.range 64).filter a.testBit
theorem lst_length (a : Nat) : (lst a).length = card a := by unfold lst card cnt; rw [List.countP_eq_length_filter]
theorem cnt_le (f : Nat → Bool) : cnt f ≤ 64 := by unfold cnt; exact Nat.le_trans List.countP_le_length (by simp)
theorem card_le (a : Nat) : card a ≤ 64 := cnt_le _
theorem cnt_ext (f g : Nat → Bool) (h : ∀ i, i < 64 → f i = g i) : cnt f = cnt g := by
  unfold cnt
  apply List.countP_congr
  intro i hi
  rw [h i (by simpa using hi)]
theorem countP_lin (f g h k : Nat → Bool) : ∀ (l : List Nat), (∀ x ∈ l, (f x).toNat + (g x).toNat ≤ (h x).toNat + (k x).toNat) → l.countP f + l.countP g ≤ l.countP h + l.countP k
  | [], _ => by simp
  | x :: l, H => by
    have h1 := H x (by simp)
    have h2 := countP_lin f g h k l fun y hy => H y (by simp [hy])
    simp only [List.countP_cons]
    revert h1
    cases f x <;> cases g x <;> cases h x <;> cases k x <;> simp <;> omega
theorem cnt_lin (f g h k : Nat → Bool) (H : ∀ x, x < 64 → (f x).toNat + (g x).toNat ≤ (h x).toNat + (k x).toNat) : cnt f + cnt g ≤ cnt h + cnt k :=
  countP_lin f g h k _ fun x hx => H x (by simpa using hx)
theorem cnt_none : cnt (fun _ => false) = 0 := by decide
theorem card_num (f : Nat → Bool) : card (num f) = cnt f := by
  unfold card; exact cnt_ext _ _ fun i hi => by rw [num_bit]; simp [hi]
theorem card_zero : card 0 = 0 := by
  unfold card; rw [← cnt_none]; exact cnt_ext _ _ fun i hi => Nat.zero_testBit i
theorem card_pos (a : Nat) (ha : a < 18446744073709551616) (h : a ≠ 0) : 0 < card a := by
  apply Nat.pos_of_ne_zero
  intro e
  apply h
  refine set_ext _ _ ha (by decide) fun i hi => ?_
  unfold card cnt at e
  rw [List.countP_eq_zero] at e
  have := e i (by simpa using hi)
  simpa using this
/-- Has s most of t? -/
def most (s t : Nat) : Bool := decide (card t < 2 * card (both s t))

theorem lst_take (a k : Nat) (h : k < 64) : (List.range (k + 1)).filter a.testBit = (List.range k).filter a.testBit ++ (if a.testBit k then [k] else []) := by
  rw [List.range_succ, List.filter_append]
  cases hb : a.testBit k <;> simp [hb]

/-- The least one that a has; -1 of none. -/
def mn (a : Nat) : Int := if a = 0 then -1 else (Lib.ctz 64 a : Int)
theorem lst_head (a : Nat) (ha : a < 18446744073709551616) (h : a ≠ 0) : ∃ r, lst a = Lib.ctz 64 a :: r := by
  obtain ⟨m, hm, hk⟩ := Lib.ctzFrom_spec 64 a (by omega) ha
  have e : Lib.ctz 64 a = Lib.ctzFrom 64 a := by simp [Lib.ctz, h]
  rw [e]
  generalize hc : Lib.ctzFrom 64 a = c at hm hk
  have hbit : ∀ i, a.testBit i = (decide (c ≤ i) && (2 * m + 1).testBit (i - c)) := fun i => by
    rw [hm, Nat.mul_comm, Nat.testBit_mul_two_pow]
  have h0 : (List.range c).filter a.testBit = [] := by
    rw [List.filter_eq_nil_iff]
    intro i hi
    have : i < c := by simpa using hi
    rw [hbit]; simp; omega
  have h1 : a.testBit c = true := by rw [hbit]; simp [Nat.testBit_zero]
  unfold lst
  rw [show (64 : Nat) = c + (1 + (63 - c)) by omega, List.range_add, List.filter_append, h0, List.nil_append, List.range_add]
  simp only [List.range_one, List.map_append, List.map_cons, List.map_nil, Nat.add_zero, List.filter_append]
  rw [List.filter_cons, if_pos h1]
  exact ⟨_, rfl⟩
theorem lst_zero : lst 0 = [] := by decide
theorem mn_zero : mn 0 = -1 := by decide

theorem lst_rises (a : Nat) : (lst a).Pairwise (· < ·) := List.Pairwise.filter _ List.pairwise_lt_range
theorem lst_mem (a p : Nat) : p ∈ lst a ↔ p < 64 ∧ a.testBit p = true := by unfold lst; simp
/-- A list of processes as integers. -/
def ints (l : List Nat) : List Int := l.map Int.ofNat
theorem ofl_lst (a : Nat) (ha : a < 18446744073709551616) : ofl (ints (lst a)) = a := by
  refine set_ext _ _ (num_lt _) ha fun i hi => ?_
  unfold ofl ints
  rw [num_bit]
  cases hb : a.testBit i with
  | true =>
    simp [hi, lst_mem, hb]
    exact ⟨i, ⟨hi, hb⟩, rfl⟩
  | false =>
    simp [lst_mem, hb]
    intro _ x _ hx e
    have : x = i := by omega
    rw [this, hb] at hx
    cases hx
end Go.Proofs.YtmaiphgmnammgaaDoor

/- How far everybody was heard: plain facts, without the program. -/
set_option linter.unusedVariables false
set_option linter.unusedSimpArgs false
namespace Go.Proofs.YtmaiphgmnammgaaDoor

/-- A mark: how far one was heard, how far it heard all, how many came. -/
structure Mk where
  hd : Nat
  rc : Nat
  cm : Nat
/-- A promise: whose, up to which stamp, but for how many messages. -/
structure Pm where
  frm : Int
  st : Nat
  sn : Nat
/-- A horizon: the others, the clock, the marks, the promises that wait. -/
structure Hz where
  oth : Nat
  clock : Nat
  mks : Nat → Mk
  wait : List Pm

def updM (f : Nat → Mk) (p : Nat) (m : Mk) : Nat → Mk := fun q => if q = p then m else f q
theorem updM_at (f : Nat → Mk) (p : Nat) (m : Mk) : updM f p m p = m := if_pos rfl
theorem updM_other (f : Nat → Mk) (p q : Nat) (m : Mk) (h : q ≠ p) : updM f p m q = f q := if_neg h
theorem updM_twice (f : Nat → Mk) (p : Nat) (m n : Mk) : updM (updM f p m) p n = updM f p n := by
  funext q; unfold updM; split <;> rfl
theorem updM_same (f : Nat → Mk) (p : Nat) : updM f p (f p) = f := by
  funext q; unfold updM; split
  · rename_i e; rw [e]
  · rfl

/-- Does a count whenever b does, and say no less? -/
def coversP (a b : Pm) : Bool := decide (a.frm = b.frm) && decide (a.sn ≤ b.sn) && decide (b.st ≤ a.st)
def waitL (l : List Pm) (n : Pm) : List Pm := if l.any (fun a => coversP a n) then l else l.filter (fun a => !coversP n a) ++ [n]
theorem waitL_yes {l : List Pm} {n : Pm} (h : l.any (fun a => coversP a n) = true) : waitL l n = l := by unfold waitL; rw [h]; rfl
theorem waitL_no {l : List Pm} {n : Pm} (h : l.any (fun a => coversP a n) = false) : waitL l n = l.filter (fun a => !coversP n a) ++ [n] := by unfold waitL; rw [h]; rfl
theorem waitL_length (l : List Pm) (n : Pm) : (waitL l n).length ≤ l.length + 1 := by
  unfold waitL; split
  · omega
  · have := List.length_filter_le (fun a => !coversP n a) l
    simp; omega
theorem waitL_mem {l : List Pm} {n x : Pm} (h : x ∈ waitL l n) : x ∈ l ∨ x = n := by
  unfold waitL at h; split at h
  · exact .inl h
  · rcases List.mem_append.1 h with h | h
    · exact .inl (List.mem_filter.1 h).1
    · exact .inr (by simpa using h)
/-- Does a promise of p count, once c came? -/
def hits (p : Int) (c : Nat) (a : Pm) : Bool := decide (a.frm = p) && decide (a.sn ≤ c)
/-- How far p is heard, once its promises were gone through. -/
def heardL (p : Int) (c : Nat) (l : List Pm) (h : Nat) : Nat := l.foldl (fun h a => if hits p c a then max h a.st else h) h
theorem heardL_nil (p : Int) (c h : Nat) : heardL p c [] h = h := rfl
theorem heardL_snoc (p : Int) (c : Nat) (l : List Pm) (a : Pm) (h : Nat) : heardL p c (l ++ [a]) h = if hits p c a then max (heardL p c l h) a.st else heardL p c l h := by
  unfold heardL; rw [List.foldl_append]; rfl
theorem heardL_yes {p : Int} {c : Nat} {l : List Pm} {k : Nat} {a : Pm} {h : Nat} (hk : l[k]? = some a) (hh : hits p c a = true) : heardL p c (l.take (k + 1)) h = max (heardL p c (l.take k) h) a.st := by
  rw [List.take_add_one, hk]; show heardL p c (l.take k ++ [a]) h = _; rw [heardL_snoc, hh]; rfl
theorem heardL_no {p : Int} {c : Nat} {l : List Pm} {k : Nat} {a : Pm} {h : Nat} (hk : l[k]? = some a) (hh : hits p c a = false) : heardL p c (l.take (k + 1)) h = heardL p c (l.take k) h := by
  rw [List.take_add_one, hk]; show heardL p c (l.take k ++ [a]) h = _; rw [heardL_snoc, hh]; rfl
theorem heardL_ge (p : Int) (c : Nat) (l : List Pm) : ∀ (h : Nat), h ≤ heardL p c l h := by
  induction l with
  | nil => exact fun h => Nat.le_refl _
  | cons a l ih =>
    intro h
    show h ≤ heardL p c l (if hits p c a then max h a.st else h)
    refine Nat.le_trans ?_ (ih _)
    split
    · exact Nat.le_max_left _ _
    · exact Nat.le_refl _
theorem heardL_lt (p : Int) (c : Nat) (l : List Pm) (B : Nat) (hl : ∀ a ∈ l, a.st < B) : ∀ (h : Nat), h < B → heardL p c l h < B := by
  induction l with
  | nil => exact fun h hB => hB
  | cons a l ih =>
    intro h hB
    show heardL p c l (if hits p c a then max h a.st else h) < B
    refine ih (fun x hx => hl x (List.mem_cons_of_mem _ hx)) _ ?_
    have := hl a List.mem_cons_self
    split <;> omega
/-- Does a promise of p say no more than what is heard? -/
def doneP (p : Int) (h : Nat) (a : Pm) : Bool := decide (a.frm = p) && decide (a.st ≤ h)

def seeZ (H : Hz) (s : Nat) : Hz := { H with clock := max H.clock s }
def stampZ (H : Hz) : Hz := { H with clock := min (H.clock + 1) 18446744073709551615 }
def markZ (H : Hz) (p : Nat) (m : Mk) : Hz := { H with mks := updM H.mks p m }
/-- How far p is heard once its promises counted. -/
def nowH (H : Hz) (p : Nat) : Nat := heardL (p : Int) (H.mks p).cm H.wait (H.mks p).hd
def countZ (H : Hz) (p : Nat) : Hz := { H with mks := updM H.mks p { H.mks p with hd := nowH H p }, wait := H.wait.filter (fun a => !doneP (p : Int) (nowH H p) a) }
def othZ (H : Hz) (p : Int) : Bool := mem H.oth p
def cameZ (H : Hz) (p : Int) (seq st : Nat) : Hz :=
  if othZ H p then countZ (markZ (seeZ H st) p.toNat ⟨max (H.mks p.toNat).hd st, (H.mks p.toNat).rc, seq⟩) p.toNat else H
def promZ (H : Hz) (p : Int) (st sn : Nat) : Hz :=
  if othZ H p then countZ { seeZ H st with wait := waitL H.wait ⟨p, st, sn⟩ } p.toNat else H
def reachZ (H : Hz) (p : Int) (st : Nat) : Hz :=
  if othZ H p then markZ H p.toNat ⟨(H.mks p.toNat).hd, max (H.mks p.toNat).rc st, (H.mks p.toNat).cm⟩ else H
theorem cameZ_yes {H : Hz} {p : Int} {seq st : Nat} (h : othZ H p = true) : cameZ H p seq st = countZ (markZ (seeZ H st) p.toNat ⟨max (H.mks p.toNat).hd st, (H.mks p.toNat).rc, seq⟩) p.toNat := by unfold cameZ; rw [h]; rfl
theorem cameZ_no {H : Hz} {p : Int} {seq st : Nat} (h : othZ H p = false) : cameZ H p seq st = H := by unfold cameZ; rw [h]; rfl
theorem promZ_yes {H : Hz} {p : Int} {st sn : Nat} (h : othZ H p = true) : promZ H p st sn = countZ { seeZ H st with wait := waitL H.wait ⟨p, st, sn⟩ } p.toNat := by unfold promZ; rw [h]; rfl
theorem promZ_no {H : Hz} {p : Int} {st sn : Nat} (h : othZ H p = false) : promZ H p st sn = H := by unfold promZ; rw [h]; rfl
theorem reachZ_yes {H : Hz} {p : Int} {st : Nat} (h : othZ H p = true) : reachZ H p st = markZ H p.toNat ⟨(H.mks p.toNat).hd, max (H.mks p.toNat).rc st, (H.mks p.toNat).cm⟩ := by unfold reachZ; rw [h]; rfl
theorem reachZ_no {H : Hz} {p : Int} {st : Nat} (h : othZ H p = false) : reachZ H p st = H := by unfold reachZ; rw [h]; rfl

/-- The least of a stamp and what the first k of the others have. -/
def leastK (o : Nat) (f : Nat → Nat) (s : Nat) : Nat → Nat
  | 0 => s
  | k + 1 => if o.testBit k then min (leastK o f s k) (f k) else leastK o f s k
theorem leastK_zero (o : Nat) (f : Nat → Nat) (s : Nat) : leastK o f s 0 = s := rfl
theorem leastK_yes (o : Nat) (f : Nat → Nat) (s k : Nat) (h : o.testBit k = true) : leastK o f s (k + 1) = min (leastK o f s k) (f k) := by
  show (if o.testBit k then _ else _) = _; rw [h]; rfl
theorem leastK_no (o : Nat) (f : Nat → Nat) (s k : Nat) (h : o.testBit k = false) : leastK o f s (k + 1) = leastK o f s k := by
  show (if o.testBit k then _ else _) = _; rw [h]; rfl
theorem leastK_step (o : Nat) (f : Nat → Nat) (s k : Nat) : leastK o f s (k + 1) ≤ leastK o f s k ∧ (o.testBit k = true → leastK o f s (k + 1) ≤ f k) := by
  cases h : o.testBit k with
  | false => rw [leastK_no o f s k h]; exact ⟨Nat.le_refl _, fun e => Bool.noConfusion e⟩
  | true => rw [leastK_yes o f s k h]; exact ⟨Nat.min_le_left _ _, fun _ => Nat.min_le_right _ _⟩
theorem leastK_le (o : Nat) (f : Nat → Nat) (s : Nat) : ∀ k, leastK o f s k ≤ s
  | 0 => Nat.le_refl _
  | k + 1 => Nat.le_trans (leastK_step o f s k).1 (leastK_le o f s k)
theorem leastK_of (o : Nat) (f : Nat → Nat) (s : Nat) : ∀ k p, p < k → o.testBit p = true → leastK o f s k ≤ f p
  | 0, p, h, _ => absurd h (Nat.not_lt_zero _)
  | k + 1, p, h, hp => by
    by_cases e : p = k
    · subst e; exact (leastK_step o f s p).2 hp
    · exact Nat.le_trans (leastK_step o f s k).1 (leastK_of o f s k p (by omega) hp)
theorem leastK_ge (o : Nat) (f : Nat → Nat) (s n : Nat) (hs : n ≤ s) : ∀ k, (∀ p, p < k → o.testBit p = true → n ≤ f p) → n ≤ leastK o f s k
  | 0, _ => hs
  | k + 1, h => by
    have ih := leastK_ge o f s n hs k fun p hp hb => h p (by omega) hb
    cases hb : o.testBit k with
    | false => rw [leastK_no o f s k hb]; exact ih
    | true => rw [leastK_yes o f s k hb]; exact Nat.le_min.2 ⟨ih, h k (by omega) hb⟩
/-- 64, never unfolded. -/
@[irreducible] def allZ : Nat := 64
theorem allZ_eq : allZ = 64 := by unfold allZ; rfl
def leastN (o : Nat) (f : Nat → Nat) (s : Nat) : Nat := leastK o f s allZ
theorem leastN_at (o : Nat) (f : Nat → Nat) (s k : Nat) (h : 64 ≤ k) (h2 : k ≤ 64) : leastK o f s k = leastN o f s := by
  unfold leastN; rw [allZ_eq, show k = 64 by omega]
theorem leastN_le (o : Nat) (f : Nat → Nat) (s : Nat) : leastN o f s ≤ s := leastK_le _ _ _ _
theorem leastN_of (o : Nat) (f : Nat → Nat) (s p : Nat) (hp : p < 64) (hb : o.testBit p = true) : leastN o f s ≤ f p := leastK_of _ _ _ _ p (by rw [allZ_eq]; exact hp) hb
theorem leastN_ge (o : Nat) (f : Nat → Nat) (s n : Nat) (hs : n ≤ s) (h : ∀ p, p < 64 → o.testBit p = true → n ≤ f p) : n ≤ leastN o f s :=
  leastK_ge _ _ _ _ hs _ fun p hp hb => h p (by rw [allZ_eq] at hp; exact hp) hb
theorem leastN_mono {o o' : Nat} {f f' : Nat → Nat} {s s' : Nat} (ho : ∀ p, p < 64 → o'.testBit p = true → o.testBit p = true) (hf : ∀ p, p < 64 → o'.testBit p = true → f p ≤ f' p) (hs : s ≤ s') : leastN o f s ≤ leastN o' f' s' :=
  leastN_ge _ _ _ _ (Nat.le_trans (leastN_le _ _ _) hs) fun p hp hb => Nat.le_trans (leastN_of o f s p hp (ho p hp hb)) (hf p hp hb)
theorem leastN_none (f : Nat → Nat) (s : Nat) : leastN 0 f s = s := Nat.le_antisymm (leastN_le _ _ _) (leastN_ge _ _ _ _ (Nat.le_refl _) fun p _ hb => by simp at hb)
/-- The horizon, and the safe mark. -/
def allN (H : Hz) : Nat := leastN H.oth (fun p => (H.mks p).hd) H.clock
def safeN (H : Hz) : Nat := leastN H.oth (fun p => (H.mks p).rc) (allN H)
theorem allN_le (H : Hz) : allN H ≤ H.clock := leastN_le _ _ _
theorem safeN_le (H : Hz) : safeN H ≤ allN H := leastN_le _ _ _
theorem alone_all {H : Hz} (h : H.oth = 0) : allN H = H.clock ∧ safeN H = H.clock := by
  have e : allN H = H.clock := by unfold allN; rw [h]; exact leastN_none _ _
  exact ⟨e, by unfold safeN; rw [h, leastN_none, e]⟩

def newZ (me : Int) (s : Nat) : Hz := ⟨but s (onl me), 0, fun _ => ⟨0, 0, 0⟩, []⟩
/-- A call. -/
structure ZA where
  kind : Int
  p : Int
  seq : Nat
  st : Nat
def stepZ (H : Hz) (a : ZA) : Hz :=
  if a.kind = 0 then cameZ H a.p a.seq a.st else if a.kind = 1 then promZ H a.p a.st a.seq else if a.kind = 2 then reachZ H a.p a.st else if a.kind = 3 then stampZ H else if a.kind = 4 then seeZ H a.st else H
def ansZ (H : Hz) (a : ZA) : Nat := if a.kind = 3 then (stampZ H).clock else 0
theorem stepZ_0 {H : Hz} {a : ZA} (h : a.kind = 0) : stepZ H a = cameZ H a.p a.seq a.st ∧ ansZ H a = 0 := by unfold stepZ ansZ; rw [if_pos h, if_neg (by omega)]; exact ⟨rfl, rfl⟩
theorem stepZ_1 {H : Hz} {a : ZA} (h : a.kind = 1) : stepZ H a = promZ H a.p a.st a.seq ∧ ansZ H a = 0 := by unfold stepZ ansZ; rw [if_neg (by omega), if_pos h, if_neg (by omega)]; exact ⟨rfl, rfl⟩
theorem stepZ_2 {H : Hz} {a : ZA} (h : a.kind = 2) : stepZ H a = reachZ H a.p a.st ∧ ansZ H a = 0 := by unfold stepZ ansZ; rw [if_neg (by omega), if_neg (by omega), if_pos h, if_neg (by omega)]; exact ⟨rfl, rfl⟩
theorem stepZ_3 {H : Hz} {a : ZA} (h : a.kind = 3) : stepZ H a = stampZ H ∧ ansZ H a = (stampZ H).clock := by unfold stepZ ansZ; rw [if_neg (by omega), if_neg (by omega), if_neg (by omega), if_pos h, if_pos h]; exact ⟨rfl, rfl⟩
theorem stepZ_4 {H : Hz} {a : ZA} (h : a.kind = 4) : stepZ H a = seeZ H a.st ∧ ansZ H a = 0 := by unfold stepZ ansZ; rw [if_neg (by omega), if_neg (by omega), if_neg (by omega), if_neg (by omega), if_pos h, if_neg (by omega)]; exact ⟨rfl, rfl⟩
theorem stepZ_else {H : Hz} {a : ZA} (h : a.kind < 0 ∨ 4 < a.kind) : stepZ H a = H ∧ ansZ H a = 0 := by unfold stepZ ansZ; rw [if_neg (by omega), if_neg (by omega), if_neg (by omega), if_neg (by omega), if_neg (by omega), if_neg (by omega)]; exact ⟨rfl, rfl⟩
theorem stepZ_cases (P : Hz → Prop) (H : Hz) (a : ZA) (h0 : P (cameZ H a.p a.seq a.st)) (h1 : P (promZ H a.p a.st a.seq)) (h2 : P (reachZ H a.p a.st)) (h3 : P (stampZ H)) (h4 : P (seeZ H a.st)) (h5 : P H) : P (stepZ H a) := by
  unfold stepZ; (repeat' split) <;> assumption
def runZ (H : Hz) : List ZA → Hz
  | [] => H
  | a :: l => runZ (stepZ H a) l
theorem runZ_append (H : Hz) : ∀ (l r : List ZA), runZ H (l ++ r) = runZ (runZ H l) r
  | [], _ => rfl
  | a :: l, r => runZ_append (stepZ H a) l r
theorem runZ_take (H : Hz) (l : List ZA) (k : Nat) (a : ZA) (h : l[k]? = some a) : runZ H (l.take (k + 1)) = stepZ (runZ H (l.take k)) a := by
  rw [List.take_add_one, h, runZ_append]; rfl

/-- How much greater all is. -/
structure Up (H H' : Hz) : Prop where
  oth : H'.oth = H.oth
  clock : H.clock ≤ H'.clock
  hd : ∀ p, (H.mks p).hd ≤ (H'.mks p).hd
  rc : ∀ p, (H.mks p).rc ≤ (H'.mks p).rc
theorem Up.refl (H : Hz) : Up H H := ⟨rfl, Nat.le_refl _, fun _ => Nat.le_refl _, fun _ => Nat.le_refl _⟩
theorem Up.trans {A B C : Hz} (h : Up A B) (k : Up B C) : Up A C := ⟨k.oth.trans h.oth, Nat.le_trans h.clock k.clock, fun p => Nat.le_trans (h.hd p) (k.hd p), fun p => Nat.le_trans (h.rc p) (k.rc p)⟩
theorem up_count (H : Hz) (p : Nat) : Up H (countZ H p) := by
  refine ⟨rfl, Nat.le_refl _, fun q => ?_, fun q => ?_⟩
  · show (H.mks q).hd ≤ (updM H.mks p { H.mks p with hd := nowH H p } q).hd
    by_cases e : q = p
    · subst e; rw [updM_at]; exact heardL_ge _ _ _ _
    · rw [updM_other _ _ _ _ e]; exact Nat.le_refl _
  · show (H.mks q).rc ≤ (updM H.mks p { H.mks p with hd := nowH H p } q).rc
    by_cases e : q = p
    · subst e; rw [updM_at]; exact Nat.le_refl _
    · rw [updM_other _ _ _ _ e]; exact Nat.le_refl _
theorem up_mark (H : Hz) (p : Nat) (m : Mk) (h1 : (H.mks p).hd ≤ m.hd) (h2 : (H.mks p).rc ≤ m.rc) : Up H (markZ H p m) := by
  refine ⟨rfl, Nat.le_refl _, fun q => ?_, fun q => ?_⟩
  · show _ ≤ (updM H.mks p m q).hd
    by_cases e : q = p
    · subst e; rw [updM_at]; exact h1
    · rw [updM_other _ _ _ _ e]; exact Nat.le_refl _
  · show _ ≤ (updM H.mks p m q).rc
    by_cases e : q = p
    · subst e; rw [updM_at]; exact h2
    · rw [updM_other _ _ _ _ e]; exact Nat.le_refl _
theorem up_see (H : Hz) (s : Nat) : Up H (seeZ H s) := ⟨rfl, Nat.le_max_left _ _, fun _ => Nat.le_refl _, fun _ => Nat.le_refl _⟩
theorem up_wait (H : Hz) (l : List Pm) : Up H { H with wait := l } := ⟨rfl, Nat.le_refl _, fun _ => Nat.le_refl _, fun _ => Nat.le_refl _⟩
theorem step_up (H : Hz) (a : ZA) (hc : H.clock < 18446744073709551616) : Up H (stepZ H a) := by
  refine stepZ_cases (Up H) H a ?_ ?_ ?_ ?_ ?_ (Up.refl _)
  · cases h : othZ H a.p with
    | false => rw [cameZ_no h]; exact Up.refl _
    | true => rw [cameZ_yes h]; exact ((up_see H a.st).trans (up_mark (seeZ H a.st) a.p.toNat ⟨max (H.mks a.p.toNat).hd a.st, (H.mks a.p.toNat).rc, a.seq⟩ (Nat.le_max_left _ _) (Nat.le_refl _))).trans (up_count _ _)
  · cases h : othZ H a.p with
    | false => rw [promZ_no h]; exact Up.refl _
    | true => rw [promZ_yes h]; exact ((up_see H a.st).trans (up_wait _ _)).trans (up_count _ _)
  · cases h : othZ H a.p with
    | false => rw [reachZ_no h]; exact Up.refl _
    | true => rw [reachZ_yes h]; exact up_mark _ _ _ (Nat.le_refl _) (Nat.le_max_left _ _)
  · exact ⟨rfl, by show H.clock ≤ min (H.clock + 1) 18446744073709551615; omega, fun _ => Nat.le_refl _, fun _ => Nat.le_refl _⟩
  · exact up_see _ _
theorem up_all {H H' : Hz} (h : Up H H') : allN H ≤ allN H' := leastN_mono (fun p _ hb => by rw [h.oth] at hb; exact hb) (fun p _ _ => h.hd p) h.clock
theorem up_safe {H H' : Hz} (h : Up H H') : safeN H ≤ safeN H' := leastN_mono (fun p _ hb => by rw [h.oth] at hb; exact hb) (fun p _ _ => h.rc p) (up_all h)

/-- What always holds. -/
structure Hz.ok (H : Hz) : Prop where
  o : H.oth < 18446744073709551616
  c : H.clock < 18446744073709551616
  h : ∀ p, (H.mks p).hd < 18446744073709551616
  r : ∀ p, (H.mks p).rc < 18446744073709551616
  n : ∀ p, (H.mks p).cm < 4294967296
  f0 : ∀ x ∈ H.wait, -9223372036854775808 ≤ x.frm
  f1 : ∀ x ∈ H.wait, x.frm ≤ 9223372036854775807
  s : ∀ x ∈ H.wait, x.st < 18446744073709551616
  q : ∀ x ∈ H.wait, x.sn < 4294967296
structure ZA.ok (a : ZA) : Prop where
  k0 : -9223372036854775808 ≤ a.kind
  k1 : a.kind ≤ 9223372036854775807
  p0 : -9223372036854775808 ≤ a.p
  p1 : a.p ≤ 9223372036854775807
  q : a.seq < 4294967296
  s : a.st < 18446744073709551616
theorem ok_new (me : Int) (s : Nat) : (newZ me s).ok :=
  ⟨but_lt _ _, by show 0 < _; decide, fun _ => by show 0 < _; decide, fun _ => by show 0 < _; decide, fun _ => by show 0 < _; decide, (fun x hx => by cases hx), (fun x hx => by cases hx), (fun x hx => by cases hx), (fun x hx => by cases hx)⟩
theorem ok_see {H : Hz} (h : H.ok) {s : Nat} (hs : s < 18446744073709551616) : (seeZ H s).ok := ⟨h.o, by show max H.clock s < _; have := h.c; omega, h.h, h.r, h.n, h.f0, h.f1, h.s, h.q⟩
theorem ok_stamp {H : Hz} (h : H.ok) : (stampZ H).ok := ⟨h.o, by show min (H.clock + 1) 18446744073709551615 < _; omega, h.h, h.r, h.n, h.f0, h.f1, h.s, h.q⟩
theorem ok_mark {H : Hz} (h : H.ok) (p : Nat) {m : Mk} (h1 : m.hd < 18446744073709551616) (h2 : m.rc < 18446744073709551616) (h3 : m.cm < 4294967296) : (markZ H p m).ok := by
  refine ⟨h.o, h.c, fun q => ?_, fun q => ?_, fun q => ?_, h.f0, h.f1, h.s, h.q⟩
  · show (updM H.mks p m q).hd < _
    by_cases e : q = p
    · subst e; rw [updM_at]; exact h1
    · rw [updM_other _ _ _ _ e]; exact h.h q
  · show (updM H.mks p m q).rc < _
    by_cases e : q = p
    · subst e; rw [updM_at]; exact h2
    · rw [updM_other _ _ _ _ e]; exact h.r q
  · show (updM H.mks p m q).cm < _
    by_cases e : q = p
    · subst e; rw [updM_at]; exact h3
    · rw [updM_other _ _ _ _ e]; exact h.n q
theorem ok_wait {H : Hz} (h : H.ok) (l : List Pm) (hl : ∀ x ∈ l, x ∈ H.wait ∨ (-9223372036854775808 ≤ x.frm ∧ x.frm ≤ 9223372036854775807 ∧ x.st < 18446744073709551616 ∧ x.sn < 4294967296)) : ({ H with wait := l } : Hz).ok := by
  refine ⟨h.o, h.c, h.h, h.r, h.n, fun x hx => ?_, fun x hx => ?_, fun x hx => ?_, fun x hx => ?_⟩
  all_goals rcases hl x hx with e | ⟨e1, e2, e3, e4⟩
  · exact h.f0 x e
  · exact e1
  · exact h.f1 x e
  · exact e2
  · exact h.s x e
  · exact e3
  · exact h.q x e
  · exact e4
theorem nowH_lt {H : Hz} (h : H.ok) (p : Nat) : nowH H p < 18446744073709551616 := heardL_lt _ _ _ _ h.s _ (h.h p)
theorem ok_count {H : Hz} (h : H.ok) (p : Nat) : (countZ H p).ok := by
  have := ok_wait (ok_mark h p (m := { H.mks p with hd := nowH H p }) (nowH_lt h p) (h.r p) (h.n p)) (H.wait.filter (fun a => !doneP (p : Int) (nowH H p) a)) fun x hx => .inl (List.mem_filter.1 hx).1
  exact this
theorem ok_step {H : Hz} (h : H.ok) {a : ZA} (ha : a.ok) : (stepZ H a).ok := by
  refine stepZ_cases Hz.ok H a ?_ ?_ ?_ (ok_stamp h) (ok_see h ha.s) h
  · cases ho : othZ H a.p with
    | false => rw [cameZ_no ho]; exact h
    | true =>
      rw [cameZ_yes ho]
      exact ok_count (ok_mark (ok_see h ha.s) a.p.toNat (m := ⟨max (H.mks a.p.toNat).hd a.st, (H.mks a.p.toNat).rc, a.seq⟩) (by show max (H.mks a.p.toNat).hd a.st < _; have := h.h a.p.toNat; have := ha.s; omega) (h.r _) ha.q) _
  · cases ho : othZ H a.p with
    | false => rw [promZ_no ho]; exact h
    | true =>
      rw [promZ_yes ho]
      refine ok_count (ok_wait (ok_see h ha.s) _ fun x hx => ?_) _
      rcases waitL_mem hx with e | rfl
      · exact .inl e
      · exact .inr ⟨ha.p0, ha.p1, ha.s, ha.q⟩
  · cases ho : othZ H a.p with
    | false => rw [reachZ_no ho]; exact h
    | true =>
      rw [reachZ_yes ho]
      exact ok_mark h a.p.toNat (m := ⟨(H.mks a.p.toNat).hd, max (H.mks a.p.toNat).rc a.st, (H.mks a.p.toNat).cm⟩) (h.h _) (by show max (H.mks a.p.toNat).rc a.st < _; have := h.r a.p.toNat; have := ha.s; omega) (h.n _)
theorem count_wait (H : Hz) (p : Nat) : (countZ H p).wait.length ≤ H.wait.length := List.length_filter_le _ _
theorem step_wait (H : Hz) (a : ZA) : (stepZ H a).wait.length ≤ H.wait.length + 1 := by
  refine stepZ_cases (fun X => X.wait.length ≤ H.wait.length + 1) H a ?_ ?_ ?_ (Nat.le_succ _) (Nat.le_succ _) (Nat.le_succ _)
  · cases ho : othZ H a.p with
    | false => rw [cameZ_no ho]; exact Nat.le_succ _
    | true => rw [cameZ_yes ho]; exact Nat.le_succ_of_le (count_wait _ _)
  · cases ho : othZ H a.p with
    | false => rw [promZ_no ho]; exact Nat.le_succ _
    | true => rw [promZ_yes ho]; exact Nat.le_trans (count_wait _ _) (waitL_length _ _)
  · cases ho : othZ H a.p with
    | false => rw [reachZ_no ho]; exact Nat.le_succ _
    | true => rw [reachZ_yes ho]; exact Nat.le_succ _
theorem run_wait : ∀ (l : List ZA) (H : Hz), (runZ H l).wait.length ≤ H.wait.length + l.length
  | [], H => Nat.le_refl _
  | a :: l, H => by
    have h1 := run_wait l (stepZ H a)
    have h2 := step_wait H a
    show (runZ (stepZ H a) l).wait.length ≤ H.wait.length + (l.length + 1)
    omega
theorem run_ok : ∀ (l : List ZA) {H : Hz}, H.ok → (∀ a ∈ l, a.ok) → (runZ H l).ok
  | [], _, h, _ => h
  | a :: l, _, h, ha => run_ok l (ok_step h (ha a List.mem_cons_self)) fun x hx => ha x (List.mem_cons_of_mem _ hx)
theorem othZ_iff (H : Hz) (p : Int) : othZ H p = true ↔ (0 ≤ p ∧ p < 64) ∧ H.oth.testBit p.toNat = true := by
  unfold othZ mem
  simp [and_assoc]
/-- The others play no part in what a step does but whether it is one of them. -/
def wideZ (H : Hz) (o : Nat) : Hz := { H with oth := o }
theorem wide_step (H : Hz) (o : Nat) (a : ZA) (h : a.kind < 3 → othZ (wideZ H o) a.p = othZ H a.p) : stepZ (wideZ H o) a = wideZ (stepZ H a) o := by
  unfold stepZ
  by_cases h0 : a.kind = 0
  · rw [if_pos h0, if_pos h0]
    have e := h (by omega)
    cases hb : othZ H a.p with
    | false => rw [cameZ_no (by rw [e]; exact hb), cameZ_no hb]
    | true => rw [cameZ_yes (by rw [e]; exact hb), cameZ_yes hb]; rfl
  rw [if_neg h0, if_neg h0]
  by_cases h1 : a.kind = 1
  · rw [if_pos h1, if_pos h1]
    have e := h (by omega)
    cases hb : othZ H a.p with
    | false => rw [promZ_no (by rw [e]; exact hb), promZ_no hb]
    | true => rw [promZ_yes (by rw [e]; exact hb), promZ_yes hb]; rfl
  rw [if_neg h1, if_neg h1]
  by_cases h2 : a.kind = 2
  · rw [if_pos h2, if_pos h2]
    have e := h (by omega)
    cases hb : othZ H a.p with
    | false => rw [reachZ_no (by rw [e]; exact hb), reachZ_no hb]
    | true => rw [reachZ_yes (by rw [e]; exact hb), reachZ_yes hb]; rfl
  rw [if_neg h2, if_neg h2]
  by_cases h3 : a.kind = 3
  · rw [if_pos h3, if_pos h3]; rfl
  rw [if_neg h3, if_neg h3]
  by_cases h4 : a.kind = 4
  · rw [if_pos h4, if_pos h4]; rfl
  rw [if_neg h4, if_neg h4]
theorem wide_all (H : Hz) (o : Nat) (h : ∀ p, p < 64 → H.oth.testBit p = true → o.testBit p = true) : allN (wideZ H o) ≤ allN H := leastN_mono h (fun _ _ _ => Nat.le_refl _) (Nat.le_refl _)
theorem wide_safe (H : Hz) (o : Nat) (h : ∀ p, p < 64 → H.oth.testBit p = true → o.testBit p = true) : safeN (wideZ H o) ≤ safeN H := leastN_mono h (fun _ _ _ => Nat.le_refl _) (wide_all H o h)
theorem step_oth (H : Hz) (a : ZA) : (stepZ H a).oth = H.oth := by
  refine stepZ_cases (fun X => X.oth = H.oth) H a ?_ ?_ ?_ rfl rfl rfl
  · unfold cameZ; split <;> rfl
  · unfold promZ; split <;> rfl
  · unfold reachZ; split <;> rfl
theorem wide_oth (s m : Nat) (p : Int) (h : mem (but m s) p = false) : othZ (wideZ (newZ 0 s) (but (any s m) (onl 0))) p = othZ (newZ 0 s) p := by
  unfold othZ wideZ newZ
  simp only
  by_cases hp : 0 ≤ p ∧ p < 64
  · obtain ⟨k, rfl⟩ := Int.eq_ofNat_of_zero_le hp.1
    have hk : k < 64 := by omega
    rw [mem_nat _ _ hk] at h
    rw [mem_nat _ _ hk, mem_nat _ _ hk]
    unfold but any at *
    rw [num_bit] at h
    rw [num_bit, num_bit, num_bit]
    simp only [hk, decide_true, Bool.true_and] at h ⊢
    cases hs : s.testBit k <;> cases hm : m.testBit k <;> simp_all
  · unfold mem
    have : (decide (0 ≤ p) && decide (p < 64)) = false := by
      cases hx : (decide (0 ≤ p) && decide (p < 64)) with
      | false => rfl
      | true => simp at hx; exact absurd hx hp
    simp only [this, Bool.false_and]
theorem wide_bits (s m : Nat) : ∀ p, p < 64 → (newZ 0 s).oth.testBit p = true → (but (any s m) (onl 0)).testBit p = true := by
  intro p hp h
  unfold newZ at h
  simp only at h
  unfold but any at *
  rw [num_bit] at h
  rw [num_bit, num_bit]
  simp only [hp, decide_true, Bool.true_and] at h ⊢
  simp at h
  simp [h]
end Go.Proofs.YtmaiphgmnammgaaDoor
