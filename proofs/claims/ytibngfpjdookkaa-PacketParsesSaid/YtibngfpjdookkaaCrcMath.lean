/- Sums of bytes, bit by bit: plain facts, without the program. -/
import Derived.WalkKit
import Derived.Laws.BitsAllLaws
set_option linter.unusedVariables false
set_option linter.unusedSimpArgs false
namespace Go.Proofs.Ytibngfpjdookkaa

/-- A number moved by one bit, turned if its lowest bit was 1. -/
def half (c : Nat) : Nat := if c % 2 = 1 then c / 2 ^^^ 3988292384 else c / 2
def halfN : Nat → Nat → Nat
  | 0, c => c
  | k + 1, c => halfN k (half c)
/-- A sum goes on by a byte. -/
def step (c b : Nat) : Nat := halfN 8 (c ^^^ b)
def run (c : Nat) (l : List Nat) : Nat := l.foldl step c
/-- The sum of bytes. -/
def crc (l : List Nat) : Nat := 4294967295 - run 4294967295 l
def le4 (n : Nat) : List Nat := [n % 256, n / 256 % 256, n / 65536 % 256, n / 16777216]
def sealB (l : List Nat) : List Nat := l ++ le4 (crc l)
def Bytes (l : List Nat) : Prop := ∀ b ∈ l, b < 256

theorem xor_half (a b : Nat) : (a ^^^ b) / 2 = a / 2 ^^^ b / 2 := by
  apply Nat.eq_of_testBit_eq
  intro i
  rw [Nat.testBit_xor, ← Nat.testBit_succ, ← Nat.testBit_succ, ← Nat.testBit_succ, Nat.testBit_xor]
theorem odd_bit (a : Nat) : decide (a % 2 = 1) = a.testBit 0 := by rw [Nat.testBit_zero]
theorem half_bit (c : Nat) : half c = if c.testBit 0 then c / 2 ^^^ 3988292384 else c / 2 := by
  unfold half
  rw [← odd_bit]
  by_cases h : c % 2 = 1
  · rw [if_pos h, decide_eq_true h]; rfl
  · rw [if_neg h, decide_eq_false h]; rfl
theorem half_xor (a b : Nat) : half (a ^^^ b) = half a ^^^ half b := by
  rw [half_bit, half_bit, half_bit, Nat.testBit_xor, xor_half]
  cases a.testBit 0 <;> cases b.testBit 0 <;> simp
  · ac_rfl
  · ac_rfl
  · rw [show a / 2 ^^^ 3988292384 ^^^ (b / 2 ^^^ 3988292384) = a / 2 ^^^ b / 2 ^^^ (3988292384 ^^^ 3988292384) by ac_rfl, Nat.xor_self, Nat.xor_zero]
theorem half_lt {c : Nat} (h : c < 4294967296) : half c < 4294967296 := by
  unfold half
  split
  · exact Nat.xor_lt_two_pow (n := 32) (show c / 2 < 2 ^ 32 by omega) (by decide)
  · omega
theorem half_two (y : Nat) : half (2 * y) = y := by
  unfold half
  rw [if_neg (by omega)]; omega
theorem half_nil {c : Nat} (h : c < 4294967296) (h0 : half c = 0) : c = 0 := by
  unfold half at h0
  split at h0
  · have h1 : c / 2 = 3988292384 := by
      have := congrArg (· ^^^ 3988292384) h0
      simp only [Nat.xor_assoc, Nat.xor_self, Nat.xor_zero, Nat.zero_xor] at this
      exact this
    omega
  · omega
theorem halfN_xor : ∀ (k a b : Nat), halfN k (a ^^^ b) = halfN k a ^^^ halfN k b
  | 0, _, _ => rfl
  | k + 1, a, b => by unfold halfN; rw [half_xor, halfN_xor k]
theorem halfN_lt : ∀ (k : Nat) {c : Nat}, c < 4294967296 → halfN k c < 4294967296
  | 0, _, h => h
  | k + 1, _, h => halfN_lt k (half_lt h)
theorem halfN_nil : ∀ (k : Nat) {c : Nat}, c < 4294967296 → halfN k c = 0 → c = 0
  | 0, _, _, h => h
  | k + 1, _, h, h0 => half_nil h (halfN_nil k (half_lt h) h0)
theorem halfN_zero : ∀ (k : Nat), halfN k 0 = 0
  | 0 => rfl
  | k + 1 => halfN_zero k
theorem halfN_add : ∀ (j k c : Nat), halfN (j + k) c = halfN k (halfN j c)
  | 0, k, c => by rw [Nat.zero_add]; rfl
  | j + 1, k, c => by rw [Nat.add_right_comm]; exact halfN_add j k (half c)
theorem halfN_pow : ∀ (k y : Nat), halfN k (2 ^ k * y) = y
  | 0, y => by simp [halfN]
  | k + 1, y => by
    unfold halfN
    rw [Nat.pow_succ, Nat.mul_comm (2 ^ k) 2, Nat.mul_assoc, half_two, halfN_pow k]
theorem halfN_next (k c : Nat) : halfN (k + 1) c = half (halfN k c) := by rw [halfN_add k 1 c]; rfl

theorem step_lt {c b : Nat} (hc : c < 4294967296) (hb : b < 256) : step c b < 4294967296 :=
  halfN_lt 8 (Nat.xor_lt_two_pow (n := 32) hc (Nat.lt_trans hb (by decide)))
theorem run_lt : ∀ (l : List Nat) {c : Nat}, c < 4294967296 → Bytes l → run c l < 4294967296
  | [], _, h, _ => h
  | b :: l, _, h, hb => run_lt l (step_lt h (hb b (List.mem_cons_self ..))) fun x hx => hb x (List.mem_cons_of_mem _ hx)
theorem run_append (c : Nat) (a b : List Nat) : run c (a ++ b) = run (run c a) b := by unfold run; rw [List.foldl_append]
theorem run_cons (c b : Nat) (l : List Nat) : run c (b :: l) = run (step c b) l := rfl
theorem run_nil (c : Nat) : run c [] = c := rfl
theorem run_snoc (c : Nat) (l : List Nat) (b : Nat) : run c (l ++ [b]) = step (run c l) b := by rw [run_append]; rfl
theorem step_more (c d b : Nat) : step (c ^^^ d) b = step c b ^^^ halfN 8 d := by
  unfold step
  rw [show c ^^^ d ^^^ b = c ^^^ b ^^^ d by ac_rfl, halfN_xor]
/-- What is turned ahead of bytes. -/
theorem run_more : ∀ (l : List Nat) (c d : Nat), run (c ^^^ d) l = run c l ^^^ halfN (8 * l.length) d
  | [], _, _ => rfl
  | b :: l, c, d => by
    rw [run_cons, run_cons, step_more, run_more l, List.length_cons, Nat.mul_add, Nat.mul_one, Nat.add_comm, halfN_add]
/-- A byte turned. -/
theorem run_turn (c : Nat) (A : List Nat) (b m : Nat) (C : List Nat) : run c (A ++ (b ^^^ m) :: C) = run c (A ++ b :: C) ^^^ halfN (8 * (C.length + 1)) m := by
  rw [run_append, run_append, run_cons, run_cons]
  have : step (run c A) (b ^^^ m) = step (run c A) b ^^^ halfN 8 m := by
    unfold step
    rw [← Nat.xor_assoc, halfN_xor]
  rw [this, run_more, Nat.mul_add, Nat.mul_one, Nat.add_comm, halfN_add]
theorem run_set (c : Nat) (l : List Nat) (q b m : Nat) (hb : l[q]? = some b) : run c (l.set q (b ^^^ m)) = run c l ^^^ halfN (8 * (l.length - q)) m := by
  obtain ⟨hq, e⟩ := List.getElem?_eq_some_iff.1 hb
  have e1 : l = l.take q ++ b :: l.drop (q + 1) := by
    rw [← e, ← List.drop_eq_getElem_cons hq, List.take_append_drop]
  have e2 : l.set q (b ^^^ m) = l.take q ++ (b ^^^ m) :: l.drop (q + 1) := List.set_eq_take_append_cons_drop .. |>.trans (by rw [if_pos hq])
  have e3 : (l.drop (q + 1)).length + 1 = l.length - q := by rw [List.length_drop]; omega
  rw [e2, run_turn, ← e1, e3]
/-- A bit turned. -/
theorem run_flip (c : Nat) (l : List Nat) (k b : Nat) (hb : l[k / 8]? = some b) : run c (l.set (k / 8) (b ^^^ 2 ^ (k % 8))) = run c l ^^^ halfN (8 * l.length - k) 1 := by
  obtain ⟨hq, e⟩ := List.getElem?_eq_some_iff.1 hb
  rw [run_set c l _ b _ hb, show 8 * (l.length - k / 8) = k % 8 + (8 * l.length - k) by omega, halfN_add]
  have := halfN_pow (k % 8) 1
  rw [Nat.mul_one] at this
  rw [this]

/-! ### The four bytes behind -/
theorem low_byte (n : Nat) : n = n % 256 ^^^ 256 * (n / 256) := by
  apply Nat.eq_of_testBit_eq
  intro i
  rw [Nat.testBit_xor, show (256 : Nat) = 2 ^ 8 from rfl, Nat.testBit_mod_two_pow, Nat.testBit_two_pow_mul, Nat.testBit_div_two_pow]
  by_cases h : i < 8
  · rw [decide_eq_true h, decide_eq_false (show ¬ 8 ≤ i by omega)]; simp
  · rw [decide_eq_false h, decide_eq_true (show 8 ≤ i by omega), Nat.sub_add_cancel (by omega)]; simp
theorem step_low (c n : Nat) : step c (n % 256) ^^^ n / 256 = halfN 8 (c ^^^ n) := by
  have h : halfN 8 (c ^^^ n) = halfN 8 (c ^^^ (n % 256 ^^^ 256 * (n / 256))) := congrArg (fun x => halfN 8 (c ^^^ x)) (low_byte n)
  rw [h, ← Nat.xor_assoc, halfN_xor, show (256 : Nat) * (n / 256) = 2 ^ 8 * (n / 256) from rfl, halfN_pow]
  rfl
theorem run_le4 (c n : Nat) (hn : n < 4294967296) : run c (le4 n) = halfN 32 (c ^^^ n) := by
  have h4 : n / 16777216 = n / 256 / 256 / 256 % 256 := by omega
  have h3 : n / 65536 % 256 = n / 256 / 256 % 256 := by omega
  have h0 : n / 256 / 256 / 256 / 256 = 0 := by omega
  unfold le4
  rw [h4, h3, run_cons, run_cons, run_cons, run_cons, run_nil]
  have s0 := step_low c n
  have s1 := step_low (step c (n % 256)) (n / 256)
  have s2 := step_low (step (step c (n % 256)) (n / 256 % 256)) (n / 256 / 256)
  have s3 := step_low (step (step (step c (n % 256)) (n / 256 % 256)) (n / 256 / 256 % 256)) (n / 256 / 256 / 256)
  rw [h0, Nat.xor_zero] at s3
  rw [s3, s2, s1, s0, ← halfN_add, ← halfN_add, ← halfN_add]

/-- What bytes that were sealed come to. -/
def rest : Nat := halfN 32 4294967295
theorem ones_sub {c : Nat} (h : c < 4294967296) : 4294967295 - c = c ^^^ 4294967295 := by
  apply Nat.eq_of_testBit_eq
  intro i
  rw [Nat.testBit_xor, show 4294967295 - c = 2 ^ 32 - (c + 1) by omega, Nat.testBit_two_pow_sub_succ (show c < 2 ^ 32 from h), show (4294967295 : Nat) = 2 ^ 32 - 1 from rfl, Nat.testBit_two_pow_sub_one]
  by_cases hi : i < 32
  · simp [hi]
  · have := Nat.testBit_lt_two_pow (Nat.lt_of_lt_of_le h (show 2 ^ 32 ≤ 2 ^ i from Nat.pow_le_pow_right (by decide) (by omega)))
    simp [hi, this]
theorem crc_lt (l : List Nat) : crc l < 4294967296 := by unfold crc; omega
theorem xor_eq_iff (a b c : Nat) : a ^^^ b = c ↔ b = a ^^^ c := by
  constructor
  · intro h
    rw [← h, ← Nat.xor_assoc, Nat.xor_self, Nat.zero_xor]
  · intro h
    rw [h, ← Nat.xor_assoc, Nat.xor_self, Nat.zero_xor]
theorem halfN_inj (k : Nat) {a b : Nat} (ha : a < 4294967296) (hb : b < 4294967296) (h : halfN k a = halfN k b) : a = b := by
  have h1 : halfN k (a ^^^ b) = 0 := by rw [halfN_xor, h, Nat.xor_self]
  have := halfN_nil k (Nat.xor_lt_two_pow (n := 32) ha hb) h1
  have h2 := (xor_eq_iff a b 0).1 this
  rw [Nat.xor_zero] at h2
  exact h2.symm
theorem run_ok (d : List Nat) (n : Nat) (hd : Bytes d) (hn : n < 4294967296) : run 4294967295 (d ++ le4 n) = rest ↔ n = crc d := by
  have hr := run_lt d (c := 4294967295) (by decide) hd
  rw [run_append, run_le4 _ _ hn]
  unfold rest crc
  rw [ones_sub hr, ← xor_eq_iff]
  constructor
  · intro h
    exact halfN_inj 32 (Nat.xor_lt_two_pow (n := 32) hr hn) (by decide) h
  · intro h; rw [h]
theorem le4_bytes {n : Nat} (hn : n < 4294967296) : Bytes (le4 n) := by
  intro b hb
  simp only [le4, List.mem_cons, List.not_mem_nil, or_false] at hb
  rcases hb with rfl | rfl | rfl | rfl <;> omega
theorem le4_of (a b c d : Nat) (ha : a < 256) (hb : b < 256) (hc : c < 256) (hd : d < 256) : le4 (a + 256 * b + 65536 * c + 16777216 * d) = [a, b, c, d] := by
  unfold le4
  rw [show (a + 256 * b + 65536 * c + 16777216 * d) % 256 = a by omega, show (a + 256 * b + 65536 * c + 16777216 * d) / 256 % 256 = b by omega, show (a + 256 * b + 65536 * c + 16777216 * d) / 65536 % 256 = c by omega, show (a + 256 * b + 65536 * c + 16777216 * d) / 16777216 = d by omega]
theorem le4_inj {m n : Nat} (h : le4 m = le4 n) : m = n := by
  unfold le4 at h
  simp only [List.cons.injEq, and_true] at h
  omega
theorem le4_all (l : List Nat) (hl : l.length = 4) (hb : Bytes l) : ∃ n, n < 4294967296 ∧ l = le4 n := by
  match l, hl with
  | [a, b, c, d], _ =>
    have ha := hb a (by simp)
    have hb' := hb b (by simp)
    have hc := hb c (by simp)
    have hd := hb d (by simp)
    exact ⟨a + 256 * b + 65536 * c + 16777216 * d, by omega, (le4_of a b c d ha hb' hc hd).symm⟩
/-- Was it sealed? -/
def Ok (t : List Nat) : Prop := 4 ≤ t.length ∧ sealB (t.take (t.length - 4)) = t
instance (t : List Nat) : Decidable (Ok t) := inferInstanceAs (Decidable (_ ∧ _))
theorem ok_iff (t : List Nat) (hb : Bytes t) (hl : 4 ≤ t.length) : Ok t ↔ run 4294967295 t = rest := by
  obtain ⟨n, hn, e⟩ := le4_all (t.drop (t.length - 4)) (by rw [List.length_drop]; omega) (fun b h => hb b (List.mem_of_mem_drop h))
  have ht : t = t.take (t.length - 4) ++ le4 n := by rw [← e, List.take_append_drop]
  have hd : Bytes (t.take (t.length - 4)) := fun b h => hb b (List.mem_of_mem_take h)
  have hr := run_ok (t.take (t.length - 4)) n hd hn
  rw [← ht] at hr
  rw [hr]
  unfold Ok sealB
  constructor
  · rintro ⟨_, h⟩
    have h2 : t.take (t.length - 4) ++ le4 (crc (t.take (t.length - 4))) = t.take (t.length - 4) ++ le4 n := h.trans ht
    exact (le4_inj (List.append_cancel_left h2)).symm
  · intro h
    exact ⟨hl, by rw [← h]; exact ht.symm⟩
theorem seal_length (l : List Nat) : (sealB l).length = l.length + 4 := by unfold sealB le4; simp
theorem seal_take (l : List Nat) : (sealB l).take ((sealB l).length - 4) = l := by
  rw [seal_length, Nat.add_sub_cancel]; unfold sealB; exact List.take_left' rfl
theorem seal_bytes {l : List Nat} (h : Bytes l) : Bytes (sealB l) := by
  intro b hb
  rcases List.mem_append.1 hb with h1 | h1
  · exact h b h1
  · exact le4_bytes (crc_lt l) b h1
theorem seal_ok (l : List Nat) : Ok (sealB l) := ⟨by rw [seal_length]; omega, by rw [seal_take]⟩
theorem seal_run {l : List Nat} (h : Bytes l) : run 4294967295 (sealB l) = rest := (ok_iff _ (seal_bytes h) (by rw [seal_length]; omega)).1 (seal_ok l)

/-- With one byte turned it isn't. -/
theorem turned_not {l : List Nat} (h : Bytes l) (q b m : Nat) (hb : (sealB l)[q]? = some b) (hm : 0 < m) (hm' : m < 256) (hb' : Bytes ((sealB l).set q (b ^^^ m))) : ¬ Ok ((sealB l).set q (b ^^^ m)) := by
  intro h0
  have h1 := (ok_iff _ hb' (by rw [List.length_set, seal_length]; omega)).1 h0
  rw [run_set _ _ q b m hb, seal_run h] at h1
  have h2 := (xor_eq_iff _ _ _).1 h1
  rw [Nat.xor_self] at h2
  have := halfN_nil _ (Nat.lt_trans hm' (by decide)) h2
  omega

/-! ### Bits that are neighbours -/
/-- The bits of a burst that lie in the bytes, of the first i. -/
def lying (n at_ burst : Nat) : Nat → Nat
  | 0 => 0
  | i + 1 => if burst.testBit i ∧ at_ + i < 8 * n then lying n at_ burst i + 2 ^ i else lying n at_ burst i
theorem lying_lt (n at_ burst : Nat) : ∀ i, lying n at_ burst i < 2 ^ i
  | 0 => by simp [lying]
  | i + 1 => by
    have := lying_lt n at_ burst i
    unfold lying
    rw [Nat.pow_succ]
    split <;> omega
/-- The bytes behind the first i bits. -/
def turned (at_ burst : Nat) (t : List Nat) : Nat → List Nat
  | 0 => t
  | i + 1 => if burst.testBit i ∧ at_ + i < 8 * t.length then (turned at_ burst t i).set ((at_ + i) / 8) ((turned at_ burst t i).getD ((at_ + i) / 8) 0 ^^^ 2 ^ ((at_ + i) % 8)) else turned at_ burst t i
theorem turned_length (at_ burst : Nat) (t : List Nat) : ∀ i, (turned at_ burst t i).length = t.length
  | 0 => rfl
  | i + 1 => by
    unfold turned
    split
    · rw [List.length_set, turned_length at_ burst t i]
    · exact turned_length at_ burst t i
theorem pow_xor {m i : Nat} (h : m < 2 ^ i) : m + 2 ^ i = m ^^^ 2 ^ i := by
  apply Nat.eq_of_testBit_eq
  intro j
  rw [Nat.testBit_xor, Nat.testBit_two_pow, Nat.add_comm]
  by_cases hj : j = i
  · subst hj
    rw [Nat.testBit_two_pow_add_eq]
    simp
  · rcases Nat.lt_or_ge j i with h1 | h1
    · rw [Nat.testBit_two_pow_add_gt h1]
      simp [Ne.symm hj]
    · have h2 : m < 2 ^ j := Nat.lt_of_lt_of_le h (Nat.pow_le_pow_right (by decide) h1)
      have h3 : 2 ^ i + m < 2 ^ j := by
        have : 2 ^ (i + 1) ≤ 2 ^ j := Nat.pow_le_pow_right (by decide) (by omega)
        rw [Nat.pow_succ] at this
        omega
      rw [Nat.testBit_lt_two_pow h2, Nat.testBit_lt_two_pow h3]
      simp [Ne.symm hj]
theorem turned_run (at_ burst : Nat) (t : List Nat) (c : Nat) : ∀ i, run c (turned at_ burst t i) = run c t ^^^ halfN (8 * t.length - at_) (lying t.length at_ burst i)
  | 0 => by
    unfold turned lying
    rw [halfN_zero, Nat.xor_zero]
  | i + 1 => by
    have ih := turned_run at_ burst t c i
    have hl := turned_length at_ burst t i
    unfold turned lying
    by_cases h : burst.testBit i ∧ at_ + i < 8 * t.length
    · rw [if_pos h, if_pos h]
      have hq : (at_ + i) / 8 < (turned at_ burst t i).length := by rw [hl]; have := h.2; omega
      have hg : (turned at_ burst t i)[(at_ + i) / 8]? = some ((turned at_ burst t i).getD ((at_ + i) / 8) 0) := by
        rw [List.getD_eq_getElem?_getD, List.getElem?_eq_getElem hq]; rfl
      rw [run_flip c _ (at_ + i) _ hg, ih, hl, pow_xor (lying_lt _ _ _ i), halfN_xor, Nat.xor_assoc]
      congr 2
      have h2 := h.2
      rw [show 8 * t.length - at_ = i + (8 * t.length - (at_ + i)) by omega, halfN_add i]
      have := halfN_pow i 1
      rw [Nat.mul_one] at this
      rw [this]
    · rw [if_neg h, if_neg h, ih]
theorem xor_byte {a b : Nat} (ha : a < 256) (hb : b < 256) : a ^^^ b < 256 := Nat.xor_lt_two_pow (n := 8) ha hb
theorem turned_bytes (at_ burst : Nat) {t : List Nat} (ht : Bytes t) : ∀ i, Bytes (turned at_ burst t i)
  | 0 => ht
  | i + 1 => by
    have ih := turned_bytes at_ burst ht i
    have hl := turned_length at_ burst t i
    unfold turned
    split
    · rename_i h
      intro b hb
      rcases List.mem_or_eq_of_mem_set hb with h1 | h1
      · exact ih b h1
      · rw [h1]
        have hq : (at_ + i) / 8 < (turned at_ burst t i).length := by rw [hl]; have := h.2; omega
        refine xor_byte ?_ ?_
        · rw [List.getD_eq_getElem?_getD, List.getElem?_eq_getElem hq]
          exact ih _ (List.getElem_mem hq)
        · have h3 : (at_ + i) % 8 ≤ 7 := by omega
          exact Nat.lt_of_le_of_lt (Nat.pow_le_pow_right (by decide) h3) (by decide)
    · exact ih
/-- What was sealed, with bits turned that lie within 32 neighbours, is opened just if none was turned. -/
theorem bursts (at_ burst : Nat) {l : List Nat} (h : Bytes l) : Ok (turned at_ burst (sealB l) 32) ↔ lying (sealB l).length at_ burst 32 = 0 := by
  have hl := turned_length at_ burst (sealB l) 32
  rw [ok_iff _ (turned_bytes at_ burst (seal_bytes h) 32) (by rw [hl, seal_length]; omega), turned_run, seal_run h]
  constructor
  · intro h1
    have h2 := (xor_eq_iff _ _ _).1 h1
    rw [Nat.xor_self] at h2
    exact halfN_nil _ (lying_lt _ _ _ 32) h2
  · intro h1
    rw [h1, halfN_zero, Nat.xor_zero]
end Go.Proofs.Ytibngfpjdookkaa
