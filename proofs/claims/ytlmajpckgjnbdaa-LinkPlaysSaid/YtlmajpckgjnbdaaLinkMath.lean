/- A sender's window: plain facts, without the program. (Written ahead of stage 11's landing.) -/
import Derived.Test.YtlmajpckgjnbdaaSetMath
set_option linter.unusedVariables false
set_option linter.unusedSimpArgs false
namespace Go.Proofs.Ytlmajpckgjnbdaa

/-- A window: whose, the other members, the size, how many were sent, how many each got. -/
structure Wn where
  me : Int
  oth : Nat
  size : Nat
  sent : Nat
  got : Nat → Nat

/-- The size that counts. -/
def sizeN (n : Int) : Nat := if n < 1 then 1 else if 64 < n then 64 else n.toNat
theorem sizeN_pos (n : Int) : 1 ≤ sizeN n := by unfold sizeN; (repeat' split) <;> omega
theorem sizeN_le (n : Int) : sizeN n ≤ 64 := by unfold sizeN; (repeat' split) <;> omega
theorem sizeN_max (n : Int) : ((sizeN n : Nat) : Int) = max 1 (min n 64) := by unfold sizeN; (repeat' split) <;> omega
theorem sizeN_low {n : Int} (h : n < 1) : sizeN n = 1 := by unfold sizeN; rw [if_pos h]
theorem sizeN_high {n : Int} (h : 64 < n) : sizeN n = 64 := by unfold sizeN; rw [if_neg (by omega), if_pos h]
theorem sizeN_mid {n : Int} (h : 1 ≤ n) (h2 : n ≤ 64) : ((sizeN n : Nat) : Int) = n := by unfold sizeN; rw [if_neg (by omega), if_neg (by omega)]; omega

/-- The least of what the first k of the others got. -/
def lowK (W : Wn) : Nat → Nat
  | 0 => W.sent
  | k + 1 => if W.oth.testBit k && decide (W.got k < lowK W k) then W.got k else lowK W k
theorem lowK_zero (W : Wn) : lowK W 0 = W.sent := rfl
theorem lowK_yes (W : Wn) (k : Nat) (h : W.oth.testBit k = true) (h2 : W.got k < lowK W k) : lowK W (k + 1) = W.got k := by
  show (if W.oth.testBit k && decide (W.got k < lowK W k) then _ else _) = _
  rw [h, decide_eq_true h2]; rfl
theorem lowK_out (W : Wn) (k : Nat) (h : W.oth.testBit k = false) : lowK W (k + 1) = lowK W k := by
  show (if W.oth.testBit k && decide (W.got k < lowK W k) then _ else _) = _
  rw [h]; rfl
theorem lowK_not (W : Wn) (k : Nat) (h : lowK W k ≤ W.got k) : lowK W (k + 1) = lowK W k := by
  show (if W.oth.testBit k && decide (W.got k < lowK W k) then _ else _) = _
  rw [decide_eq_false (by omega), Bool.and_false]; rfl
theorem lowK_step (W : Wn) (k : Nat) : lowK W (k + 1) ≤ lowK W k ∧ (W.oth.testBit k = true → lowK W (k + 1) ≤ W.got k) ∧ (lowK W (k + 1) = lowK W k ∨ W.oth.testBit k = true ∧ lowK W (k + 1) = W.got k) := by
  cases h : W.oth.testBit k with
  | false => rw [lowK_out W k h]; exact ⟨Nat.le_refl _, (fun e => Bool.noConfusion e), .inl rfl⟩
  | true =>
    by_cases h2 : W.got k < lowK W k
    · rw [lowK_yes W k h h2]; exact ⟨by omega, fun _ => Nat.le_refl _, .inr ⟨rfl, rfl⟩⟩
    · rw [lowK_not W k (by omega)]; exact ⟨Nat.le_refl _, fun _ => by omega, .inl rfl⟩
theorem lowK_sent (W : Wn) : ∀ k, lowK W k ≤ W.sent
  | 0 => Nat.le_refl _
  | k + 1 => Nat.le_trans (lowK_step W k).1 (lowK_sent W k)
theorem lowK_got (W : Wn) : ∀ (k p : Nat), p < k → W.oth.testBit p = true → lowK W k ≤ W.got p
  | 0, p, h, _ => absurd h (Nat.not_lt_zero _)
  | k + 1, p, h, hp => by
    by_cases e : p = k
    · subst e; exact (lowK_step W p).2.1 hp
    · exact Nat.le_trans (lowK_step W k).1 (lowK_got W k p (by omega) hp)
theorem lowK_or (W : Wn) : ∀ k, lowK W k = W.sent ∨ ∃ p, p < k ∧ W.oth.testBit p = true ∧ lowK W k = W.got p
  | 0 => .inl rfl
  | k + 1 => by
    rcases (lowK_step W k).2.2 with h | ⟨h, h2⟩
    · rw [h]
      rcases lowK_or W k with h3 | ⟨p, hp, hb, h3⟩
      · exact .inl h3
      · exact .inr ⟨p, by omega, hb, h3⟩
    · exact .inr ⟨k, by omega, h, h2⟩
/-- Two windows with the same others, sent and got have the same low mark. -/
theorem lowK_ext (W W' : Wn) (ho : W'.oth = W.oth) (hs : W'.sent = W.sent) : ∀ k, (∀ p, p < k → W.oth.testBit p = true → W'.got p = W.got p) → lowK W' k = lowK W k
  | 0, _ => hs
  | k + 1, h => by
    have e := lowK_ext W W' ho hs k fun p hp hb => h p (by omega) hb
    show (if W'.oth.testBit k && decide (W'.got k < lowK W' k) then _ else _) = (if W.oth.testBit k && decide (W.got k < lowK W k) then _ else _)
    rw [e, ho]
    cases hb : W.oth.testBit k with
    | false => rfl
    | true => rw [h k (by omega) hb]

/-- 64, never unfolded. -/
@[irreducible] def all64 : Nat := 64
theorem all64_eq : all64 = 64 := by unfold all64; rfl
/-- The low mark. -/
def lowN (W : Wn) : Nat := lowK W all64
theorem lowN_at (W : Wn) (k : Nat) (h : 64 ≤ k) (h2 : k ≤ 64) : lowK W k = lowN W := by
  unfold lowN; rw [all64_eq, show k = 64 by omega]
theorem lowN_sent (W : Wn) : lowN W ≤ W.sent := lowK_sent W _
theorem lowN_got (W : Wn) (p : Nat) (h : p < 64) (hp : W.oth.testBit p = true) : lowN W ≤ W.got p := lowK_got W _ p (by rw [all64_eq]; exact h) hp
theorem lowN_or (W : Wn) : lowN W = W.sent ∨ ∃ p, p < 64 ∧ W.oth.testBit p = true ∧ lowN W = W.got p := by
  have := lowK_or W all64
  rw [all64_eq] at this
  unfold lowN
  rw [all64_eq]
  exact this
/-- What is below all, is below the low mark. -/
theorem lowN_least (W : Wn) (n : Nat) (hs : n ≤ W.sent) (h : ∀ p, p < 64 → W.oth.testBit p = true → n ≤ W.got p) : n ≤ lowN W := by
  rcases lowN_or W with e | ⟨p, hp, hb, e⟩
  · rw [e]; exact hs
  · rw [e]; exact h p hp hb

/-- Is there room? -/
def roomN (W : Wn) (r : Int) : Bool := decide ((W.sent : Int) - (lowN W : Int) < (W.size : Int) - max r 0)
/-- One more is sent, if there is room. -/
def nextN (W : Wn) (r : Int) : Wn := if roomN W r then { W with sent := W.sent + 1 } else W
theorem nextN_yes {W : Wn} {r : Int} (h : roomN W r = true) : nextN W r = { W with sent := W.sent + 1 } := by unfold nextN; rw [h]; rfl
theorem nextN_no {W : Wn} {r : Int} (h : roomN W r = false) : nextN W r = W := by unfold nextN; rw [h]; rfl
/-- Is p one of the others? -/
def othN (W : Wn) (p : Int) : Bool := mem W.oth p
/-- p got n. -/
def gotN (W : Wn) (p : Int) (n : Nat) : Wn :=
  if othN W p && decide (W.got p.toNat < min n W.sent) then { W with got := fun q => if q = p.toNat then min n W.sent else W.got q } else W
theorem gotN_yes {W : Wn} {p : Int} {n : Nat} (h : othN W p = true) (h2 : W.got p.toNat < min n W.sent) : gotN W p n = { W with got := fun q => if q = p.toNat then min n W.sent else W.got q } := by
  unfold gotN; rw [h, decide_eq_true h2]; rfl
theorem gotN_out {W : Wn} {p : Int} {n : Nat} (h : othN W p = false) : gotN W p n = W := by unfold gotN; rw [h]; rfl
theorem gotN_not {W : Wn} {p : Int} {n : Nat} (h : min n W.sent ≤ W.got p.toNat) : gotN W p n = W := by
  unfold gotN; rw [decide_eq_false (by omega), Bool.and_false]; rfl
/-- How many p got. -/
def ofN (W : Wn) (p : Int) : Nat := if othN W p then W.got p.toNat else if p = W.me then W.sent else 0
theorem ofN_oth {W : Wn} {p : Int} (h : othN W p = true) : ofN W p = W.got p.toNat := by unfold ofN; rw [h]; rfl
theorem ofN_me {W : Wn} {p : Int} (h : othN W p = false) (h2 : p = W.me) : ofN W p = W.sent := by unfold ofN; rw [h]; simp [h2]
theorem ofN_no {W : Wn} {p : Int} (h : othN W p = false) (h2 : p ≠ W.me) : ofN W p = 0 := by unfold ofN; rw [h]; simp [h2]
/-- Who lags. -/
def lagN (W : Wn) : Nat := num fun p => W.oth.testBit p && decide (W.got p < W.sent)
theorem lagN_lt (W : Wn) : lagN W < 18446744073709551616 := num_lt _

theorem othN_iff (W : Wn) (p : Int) : othN W p = true ↔ (0 ≤ p ∧ p < 64) ∧ W.oth.testBit p.toNat = true := by
  unfold othN mem
  simp [and_assoc]

/-- The other members of these, seen by me. -/
def othersN (members : Nat) (me : Int) : Nat := but members (onl me)
theorem othersN_bit (members : Nat) (me : Int) (p : Nat) (h : p < 64) : (othersN members me).testBit p = (members.testBit p && !decide ((p : Int) = me)) := by
  unfold othersN but
  rw [num_bit, onl_bit me p h]; simp [h]
/-- A new window. -/
def newN (me : Int) (members : Nat) (size : Int) : Wn := ⟨me, othersN members me, sizeN size, 0, fun _ => 0⟩

/-- What always holds. -/
structure WnInv (W : Wn) : Prop where
  s1 : 1 ≤ W.size
  s2 : W.size ≤ 64
  olt : W.oth < 18446744073709551616
  me_out : othN W W.me = false
  got : ∀ p, p < 64 → W.oth.testBit p = true → W.got p ≤ W.sent
  few : W.sent ≤ lowN W + W.size
theorem new_inv (me : Int) (members : Nat) (size : Int) : WnInv (newN me members size) where
  s1 := sizeN_pos _
  s2 := sizeN_le _
  olt := num_lt _
  me_out := by
    cases h : othN (newN me members size) (newN me members size).me with
    | false => rfl
    | true =>
      obtain ⟨h1, h2⟩ := (othN_iff _ _).1 h
      rw [show (newN me members size).oth = othersN members me from rfl, show (newN me members size).me = me from rfl] at *
      rw [othersN_bit _ _ _ (by omega)] at h2
      simp at h2
      omega
  got := fun _ _ _ => Nat.le_refl _
  few := Nat.zero_le _
theorem next_inv {W : Wn} (h : WnInv W) (r : Int) : WnInv (nextN W r) := by
  cases hr : roomN W r with
  | false => rw [nextN_no hr]; exact h
  | true =>
    rw [nextN_yes hr]
    refine ⟨h.s1, h.s2, h.olt, h.me_out, fun p hp hb => Nat.le_succ_of_le (h.got p hp hb), ?_⟩
    have h1 : lowN W ≤ lowN { W with sent := W.sent + 1 } := lowN_least _ _ (Nat.le_succ_of_le (lowN_sent W)) fun p hp hb => lowN_got W p hp hb
    unfold roomN at hr
    have := of_decide_eq_true hr
    show W.sent + 1 ≤ lowN { W with sent := W.sent + 1 } + W.size
    omega
/-- What p got, behind the call. -/
theorem got_got (W : Wn) (p : Int) (n q : Nat) : W.got q ≤ (gotN W p n).got q ∧ ((gotN W p n).got q ≤ max (W.got q) W.sent) := by
  unfold gotN
  split
  · rename_i h
    simp at h
    by_cases e : q = p.toNat
    · subst e; simp; omega
    · simp [e]; omega
  · omega
theorem got_sent (W : Wn) (p : Int) (n : Nat) : (gotN W p n).sent = W.sent ∧ (gotN W p n).oth = W.oth ∧ (gotN W p n).size = W.size ∧ (gotN W p n).me = W.me := by
  unfold gotN; split <;> exact ⟨rfl, rfl, rfl, rfl⟩
theorem next_rest (W : Wn) (r : Int) : (nextN W r).got = W.got ∧ (nextN W r).oth = W.oth ∧ (nextN W r).size = W.size ∧ (nextN W r).me = W.me := by
  unfold nextN; split <;> exact ⟨rfl, rfl, rfl, rfl⟩
theorem next_sent (W : Wn) (r : Int) : W.sent ≤ (nextN W r).sent ∧ (nextN W r).sent ≤ W.sent + 1 := by
  unfold nextN; split <;> exact ⟨by simp, by simp⟩
theorem low_got (W : Wn) (p : Int) (n : Nat) : lowN W ≤ lowN (gotN W p n) := by
  obtain ⟨h1, h2, -, -⟩ := got_sent W p n
  exact lowN_least _ _ (by rw [h1]; exact lowN_sent W) fun q hq hb => Nat.le_trans (lowN_got W q hq (by rw [h2] at hb; exact hb)) (got_got W p n q).1
theorem low_next (W : Wn) (r : Int) : lowN W ≤ lowN (nextN W r) := by
  obtain ⟨h1, h2, -, -⟩ := next_rest W r
  exact lowN_least _ _ (Nat.le_trans (lowN_sent W) (next_sent W r).1) fun q hq hb => by rw [h1]; exact lowN_got W q hq (by rw [h2] at hb; exact hb)
theorem got_inv {W : Wn} (h : WnInv W) (p : Int) (n : Nat) : WnInv (gotN W p n) := by
  obtain ⟨h1, h2, h3, h4⟩ := got_sent W p n
  refine ⟨by rw [h3]; exact h.s1, by rw [h3]; exact h.s2, by rw [h2]; exact h.olt, ?_, fun q hq hb => ?_, ?_⟩
  · have := h.me_out
    unfold othN at *
    rw [h2, h4]; exact this
  · rw [h2] at hb
    have := h.got q hq hb
    have := (got_got W p n q).2
    rw [h1]; omega
  · have := low_got W p n
    have := h.few
    rw [h1, h3]; omega

/-- A call. -/
structure LA where
  p : Int
  n : Int
  seq : Nat
def stepL (W : Wn) (a : LA) : Wn := if a.p < 0 then nextN W a.n else gotN W a.p a.seq
theorem stepL_next {W : Wn} {a : LA} (h : a.p < 0) : stepL W a = nextN W a.n := by unfold stepL; rw [if_pos h]
theorem stepL_got {W : Wn} {a : LA} (h : 0 ≤ a.p) : stepL W a = gotN W a.p a.seq := by unfold stepL; rw [if_neg (by omega)]
theorem step_inv {W : Wn} (h : WnInv W) (a : LA) : WnInv (stepL W a) := by
  unfold stepL; split
  · exact next_inv h _
  · exact got_inv h _ _
theorem step_sent (W : Wn) (a : LA) : W.sent ≤ (stepL W a).sent ∧ (stepL W a).sent ≤ W.sent + 1 := by
  unfold stepL; split
  · exact next_sent W _
  · rw [(got_sent W a.p a.seq).1]; omega
theorem step_rest (W : Wn) (a : LA) : (stepL W a).oth = W.oth ∧ (stepL W a).size = W.size ∧ (stepL W a).me = W.me := by
  unfold stepL; split
  · exact ⟨(next_rest W _).2.1, (next_rest W _).2.2.1, (next_rest W _).2.2.2⟩
  · exact ⟨(got_sent W _ _).2.1, (got_sent W _ _).2.2.1, (got_sent W _ _).2.2.2⟩
theorem step_low (W : Wn) (a : LA) : lowN W ≤ lowN (stepL W a) := by
  unfold stepL; split
  · exact low_next W _
  · exact low_got W _ _
theorem step_oth (W : Wn) (a : LA) (p : Int) : othN (stepL W a) p = othN W p := by
  unfold othN; rw [(step_rest W a).1]
theorem step_of (W : Wn) (a : LA) (p : Int) : ofN W p ≤ ofN (stepL W a) p := by
  cases h : othN W p with
  | true =>
    rw [ofN_oth h, ofN_oth (by rw [step_oth]; exact h)]
    unfold stepL; split
    · rw [(next_rest W _).1]; exact Nat.le_refl _
    · exact (got_got W _ _ _).1
  | false =>
    by_cases e : p = W.me
    · rw [ofN_me h e, ofN_me (by rw [step_oth]; exact h) (by rw [(step_rest W a).2.2]; exact e)]
      exact (step_sent W a).1
    · rw [ofN_no h e]; exact Nat.zero_le _
theorem of_sent {W : Wn} (h : WnInv W) (p : Int) : ofN W p ≤ W.sent := by
  cases ho : othN W p with
  | true =>
    obtain ⟨h1, h2⟩ := (othN_iff _ _).1 ho
    rw [ofN_oth ho]
    exact h.got _ (by omega) h2
  | false =>
    by_cases e : p = W.me
    · rw [ofN_me ho e]; exact Nat.le_refl _
    · rw [ofN_no ho e]; exact Nat.zero_le _
/-- Nobody lags just where the low mark is what was sent. -/
theorem lag_zero {W : Wn} : (lagN W = 0) ↔ lowN W = W.sent := by
  constructor
  · intro e
    refine Nat.le_antisymm (lowN_sent W) (lowN_least _ _ (Nat.le_refl _) fun p hp hb => ?_)
    have : (lagN W).testBit p = false := by rw [e]; simp
    unfold lagN at this
    rw [num_bit, hb] at this
    simp [hp] at this
    exact this
  · intro e
    refine set_ext _ _ (num_lt _) (by decide) fun p hp => ?_
    unfold lagN
    rw [num_bit, Nat.zero_testBit]
    cases hb : W.oth.testBit p with
    | false => simp
    | true =>
      have := lowN_got W p hp hb
      rw [decide_eq_false (show ¬ W.got p < W.sent by omega)]; simp
theorem lag_in (W : Wn) : but (lagN W) W.oth = 0 := by
  refine set_ext _ _ (num_lt _) (by decide) fun p hp => ?_
  unfold but lagN
  rw [num_bit, num_bit, Nat.zero_testBit]
  cases W.oth.testBit p <;> simp

/-- A row of calls. -/
def runL (W : Wn) : List LA → Wn
  | [] => W
  | a :: l => runL (stepL W a) l
theorem runL_append (W : Wn) : ∀ (l r : List LA), runL W (l ++ r) = runL (runL W l) r
  | [], _ => rfl
  | a :: l, r => runL_append (stepL W a) l r
theorem runL_take (W : Wn) (l : List LA) (k : Nat) (a : LA) (h : l[k]? = some a) : runL W (l.take (k + 1)) = stepL (runL W (l.take k)) a := by
  rw [List.take_add_one, h, runL_append]; rfl
theorem runL_drop (W : Wn) (l : List LA) (k : Nat) : runL (runL W (l.take k)) (l.drop k) = runL W l := by
  rw [← runL_append, List.take_append_drop]
theorem runL_inv (l : List LA) : ∀ {W : Wn}, WnInv W → WnInv (runL W l) := by
  induction l with
  | nil => exact fun h => h
  | cons a l ih => exact fun h => ih (step_inv h a)
theorem runL_sent (l : List LA) : ∀ (W : Wn), (runL W l).sent ≤ W.sent + l.length := by
  induction l with
  | nil => exact fun W => Nat.le_refl _
  | cons a l ih =>
    intro W
    have h1 := ih (stepL W a)
    have h2 := (step_sent W a).2
    show (runL (stepL W a) l).sent ≤ W.sent + (l.length + 1)
    omega

/-- A window without other members. -/
theorem othersN_alone (me : Int) : othersN (onl me) me = 0 := by
  refine set_ext _ _ (num_lt _) (by decide) fun p hp => ?_
  rw [othersN_bit _ _ _ hp, onl_bit _ _ hp]; simp
theorem alone_low {W : Wn} (h : W.oth = 0) : lowN W = W.sent := by
  rcases lowN_or W with e | ⟨p, -, hb, -⟩
  · exact e
  · rw [h] at hb; simp at hb
theorem alone_lag {W : Wn} (h : W.oth = 0) : lagN W = 0 := lag_zero.2 (alone_low h)
theorem alone_room {W : Wn} (h : W.oth = 0) (h1 : 1 ≤ W.size) (r : Int) : roomN W r = decide (r < (W.size : Int)) := by
  unfold roomN
  rw [alone_low h]
  apply decide_eq_decide.2
  omega

/-- A set of the first k, put together one by one. -/
def setK (f : Nat → Bool) : Nat → Nat
  | 0 => 0
  | k + 1 => if f k then any (setK f k) (onl (k : Int)) else setK f k
theorem setK_zero (f : Nat → Bool) : setK f 0 = 0 := rfl
theorem setK_yes (f : Nat → Bool) (k : Nat) (h : f k = true) : setK f (k + 1) = any (setK f k) (onl (k : Int)) := by
  show (if f k then _ else _) = _; rw [h]; rfl
theorem setK_no (f : Nat → Bool) (k : Nat) (h : f k = false) : setK f (k + 1) = setK f k := by
  show (if f k then _ else _) = _; rw [h]; rfl
theorem setK_lt (f : Nat → Bool) : ∀ k, setK f k < 18446744073709551616
  | 0 => by rw [setK_zero]; decide
  | k + 1 => by
    show (if f k then _ else _) < _
    split
    · exact any_lt _ _
    · exact setK_lt f k
theorem setK_bit (f : Nat → Bool) : ∀ (k i : Nat), k ≤ 64 → (setK f k).testBit i = (decide (i < k) && f i)
  | 0, i, _ => by show (0 : Nat).testBit i = _; simp
  | k + 1, i, hk => by
    have ih := setK_bit f k i (by omega)
    cases h : f k with
    | false =>
      rw [setK_no f k h, ih]
      by_cases e : i = k
      · subst e; simp [h]
      · rw [decide_eq_decide.2 (show i < k ↔ i < k + 1 by omega)]
    | true =>
      rw [setK_yes f k h]
      unfold any
      rw [num_bit, ih]
      by_cases hi : i < 64
      · rw [onl_bit _ _ hi]
        by_cases e : i = k
        · subst e; simp [h, hi]
        · have e1 : decide (i < k + 1) = decide (i < k) := decide_eq_decide.2 (by omega)
          rw [e1, decide_eq_false (show ¬ ((i : Int) = (k : Int)) by omega)]; simp [hi]
      · rw [decide_eq_false hi, decide_eq_false (show ¬ i < k + 1 by omega)]; simp
theorem setK_all (f : Nat → Bool) (k : Nat) (h : 64 ≤ k) (h2 : k ≤ 64) : setK f k = num f := by
  refine set_ext _ _ (setK_lt _ _) (num_lt _) fun i hi => ?_
  rw [setK_bit f k i h2, num_bit, decide_eq_true (show i < k by omega), decide_eq_true hi]
end Go.Proofs.Ytlmajpckgjnbdaa
