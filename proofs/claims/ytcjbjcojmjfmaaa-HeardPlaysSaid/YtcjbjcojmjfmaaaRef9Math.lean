/- The document's ear: plain facts. -/
import Derived.Test.YtcjbjcojmjfmaaaHeardMath
set_option linter.unusedVariables false
set_option linter.unusedSimpArgs false
namespace Go.Proofs.Ytcjbjcojmjfmaaa

/-- What was heard. -/
structure Sd where
  p : Int
  at_ : Int
  beat : Bool
  gone : Bool
  b : Bt
structure Rf where
  me : Int
  n : Int
  timeout : Int
  now : Int
  all : List Sd
structure Sd.ok (s : Sd) (now : Int) : Prop where
  a0 : 0 ≤ s.at_
  a1 : s.at_ ≤ now
structure Rf.ok (M : Rf) : Prop where
  m0 : -9223372036854775808 ≤ M.me
  m1 : M.me ≤ 9223372036854775807
  n0 : -9223372036854775808 ≤ M.n
  n1 : M.n ≤ 9223372036854775807
  o0 : -9223372036854775808 ≤ M.timeout
  o1 : M.timeout ≤ 9223372036854775807
  c0 : 0 ≤ M.now
  c1 : M.now ≤ 2000000
  all : ∀ s ∈ M.all, s.ok M.now
def othB (me n p : Int) : Bool := decide (0 ≤ p) && (decide (p < n) && (decide (p < 64) && !decide (p = me)))
theorem othB_mem (me n p : Int) : othB me n p = mem (but (below n) (onl me)) p := by
  unfold othB
  by_cases h : 0 ≤ p ∧ p < 64
  · obtain ⟨k, rfl⟩ := Int.eq_ofNat_of_zero_le h.1
    have hk : k < 64 := by omega
    rw [mem_nat _ _ hk]
    unfold but below
    rw [num_bit, num_bit, onl_bit _ _ hk]
    simp [hk, h.2]
  · unfold mem
    rw [Bool.eq_iff_iff]
    simp
    omega
def addM (M : Rf) (s : Sd) : Rf := if othB M.me M.n s.p = true then { M with all := M.all ++ [{ s with at_ := M.now }] } else M
def goneS (s : Sd) (p : Int) : Bool := decide (s.p = p) && s.gone
def beatS (s : Sd) (p : Int) : Bool := decide (s.p = p) && s.beat
def heardS (s : Sd) (p : Int) : Bool := decide (s.p = p) && !s.gone
/-- The last beat of p, of a row that stands turned about. -/
def ofRev : List Sd → Int → Option Sd
  | [], _ => none
  | s :: r, p => if goneS s p = true then none else if beatS s p = true then some s else ofRev r p
def ofT (l : List Sd) (p : Int) : Option Sd := ofRev l.reverse p
theorem ofT_nil (p : Int) : ofT [] p = none := rfl
theorem ofT_snoc (l : List Sd) (s : Sd) (p : Int) : ofT (l ++ [s]) p = if goneS s p = true then none else if beatS s p = true then some s else ofT l p := by
  unfold ofT; rw [List.reverse_append]; rfl
def rchRev : List Sd → Int → Option Int
  | [], _ => none
  | s :: r, p => if heardS s p = true then some s.at_ else rchRev r p
def rchT (l : List Sd) (p : Int) : Option Int := rchRev l.reverse p
theorem rchT_nil (p : Int) : rchT [] p = none := rfl
theorem rchT_snoc (l : List Sd) (s : Sd) (p : Int) : rchT (l ++ [s]) p = if heardS s p = true then some s.at_ else rchT l p := by
  unfold rchT; rw [List.reverse_append]; rfl
theorem take_snoc' {α : Type} (l : List α) (m : Nat) (s : α) (h : l[m]? = some s) : l.take (m + 1) = l.take m ++ [s] := by
  obtain ⟨hm, rfl⟩ := List.getElem?_eq_some_iff.1 h
  exact List.take_succ_eq_append_getElem hm
theorem ofRev_mem (r : List Sd) (p : Int) (h : ∀ s ∈ r, s.p ≠ p) : ofRev r p = none := by
  induction r with
  | nil => rfl
  | cons s r ih =>
    have hs : decide (s.p = p) = false := decide_eq_false (h s (List.mem_cons_self ..))
    unfold ofRev goneS beatS
    rw [hs, Bool.false_and, Bool.false_and]
    exact ih fun t ht => h t (List.mem_cons_of_mem _ ht)
theorem ofT_none (l : List Sd) (p : Int) (h : ∀ s ∈ l, s.p ≠ p) : ofT l p = none := ofRev_mem _ p fun s hs => h s (List.mem_reverse.1 hs)
theorem rchRev_mem (r : List Sd) (p : Int) (h : ∀ s ∈ r, s.p ≠ p) : rchRev r p = none := by
  induction r with
  | nil => rfl
  | cons s r ih =>
    have hs : decide (s.p = p) = false := decide_eq_false (h s (List.mem_cons_self ..))
    unfold rchRev heardS
    rw [hs, Bool.false_and]
    exact ih fun t ht => h t (List.mem_cons_of_mem _ ht)
theorem rchT_none (l : List Sd) (p : Int) (h : ∀ s ∈ l, s.p ≠ p) : rchT l p = none := rchRev_mem _ p fun s hs => h s (List.mem_reverse.1 hs)

def botO : Option Sd → Bt
  | none => bt0
  | some s => s.b
/-- What the document answers. -/
def rreachB (M : Rf) (p : Int) : Bool := match rchT M.all p with
  | none => false
  | some t => decide (M.now - t ≤ M.timeout)
def rreachM (M : Rf) : Nat := num fun q => decide ((q : Int) = M.me) || (othB M.me M.n q && rreachB M q)
def repochK (M : Rf) : Nat → Nat
  | 0 => 0
  | k + 1 => max (repochK M k) (max (botO (ofT M.all k)).ep (max (botO (ofT M.all k)).ce (botO (ofT M.all k)).pe))
def rstrangeM (M : Rf) (s e : Nat) (r : Int) : Nat := num fun q => (ofT M.all q).isSome && (s.testBit q && otherB (botO (ofT M.all q)) e r)

/-- The program's ear and the document's. -/
structure Rel (E : Er) (M : Rf) : Prop where
  me : E.me = M.me
  ot : E.ot = but (below M.n) (onl M.me)
  timeout : E.timeout = M.timeout
  clock : E.clock = M.now
  inn : ∀ s ∈ M.all, mem E.ot s.p = true
  told : ∀ k : Nat, k < 64 → (E.recs k).told = (ofT M.all k).isSome ∧ (E.recs k).b = botO (ofT M.all k)
  ever : ∀ k : Nat, k < 64 → (E.recs k).ever = (rchT M.all k).isSome ∧ ∀ t, rchT M.all k = some t → (E.recs k).tick = t
theorem Rel.new (me n t : Int) : Rel (earN me n t) ⟨me, n, t, 0, []⟩ :=
  ⟨rfl, rfl, rfl, rfl, fun s hs => (by cases hs), fun k _ => ⟨rfl, rfl⟩, fun k _ => ⟨rfl, fun t h => (by cases h)⟩⟩
theorem Rel.oth {E : Er} {M : Rf} (h : Rel E M) (p : Int) : othB M.me M.n p = mem E.ot p := by rw [othB_mem, h.ot]
theorem Rel.tick {E : Er} {M : Rf} (h : Rel E M) : Rel (tickE E) { M with now := M.now + 1 } :=
  ⟨h.me, h.ot, h.timeout, by show E.clock + 1 = M.now + 1; rw [h.clock], h.inn, h.told, h.ever⟩
theorem Rel.tell {E : Er} {M : Rf} (h : Rel E M) (k : Nat) (hk : k < 64) (hb : E.ot.testBit k = true) (r : Rc) (s : Sd) (hp : s.p = (k : Int))
    (h1 : r.told = (if s.gone = true then none else if s.beat = true then some s else ofT M.all k).isSome) (h2 : r.b = botO (if s.gone = true then none else if s.beat = true then some s else ofT M.all k))
    (h3 : r.ever = (if s.gone = true then rchT M.all k else some s.at_).isSome) (h4 : ∀ t, (if s.gone = true then rchT M.all k else some s.at_) = some t → r.tick = t) :
    Rel { E with recs := upd E.recs k r } { M with all := M.all ++ [s] } := by
  have hd : ∀ q : Nat, q ≠ k → decide (s.p = (q : Int)) = false := fun q hq => decide_eq_false (by rw [hp]; omega)
  have hd2 : decide (s.p = (k : Int)) = true := decide_eq_true hp
  refine ⟨h.me, h.ot, h.timeout, h.clock, fun t ht => ?_, fun q hq => ?_, fun q hq => ?_⟩
  · rcases List.mem_append.1 ht with h' | h'
    · exact h.inn t h'
    · rw [List.mem_singleton.1 h', hp, mem_nat _ _ hk]; exact hb
  · show (upd E.recs k r q).told = (ofT (M.all ++ [s]) q).isSome ∧ (upd E.recs k r q).b = botO (ofT (M.all ++ [s]) q)
    rw [ofT_snoc]
    unfold goneS beatS
    by_cases e : q = k
    · subst e
      rw [upd_same, hd2, Bool.true_and, Bool.true_and]
      exact ⟨h1, h2⟩
    · rw [upd_other _ _ _ _ e, hd q e, Bool.false_and, Bool.false_and]
      exact h.told q hq
  · show (upd E.recs k r q).ever = (rchT (M.all ++ [s]) q).isSome ∧ ∀ t, rchT (M.all ++ [s]) q = some t → (upd E.recs k r q).tick = t
    rw [rchT_snoc]
    unfold heardS
    by_cases e : q = k
    · subst e
      rw [upd_same, hd2, Bool.true_and]
      have hx : (if (!s.gone) = true then some s.at_ else rchT M.all q) = (if s.gone = true then rchT M.all q else some s.at_) := by cases s.gone <;> rfl
      rw [hx]
      exact ⟨h3, h4⟩
    · rw [upd_other _ _ _ _ e, hd q e, Bool.false_and]
      exact h.ever q hq
theorem Rel.hear {E : Er} {M : Rf} (h : Rel E M) (p : Int) (a : Int) : Rel (hearE E p) (addM M ⟨p, a, false, false, bt0⟩) := by
  unfold addM hearE
  simp only
  rw [h.oth]
  split
  · obtain ⟨k, rfl, hk, hb⟩ := mem_bit ‹_›
    simp only [Int.toNat_natCast]
    obtain ⟨t1, t2⟩ := h.told k hk
    exact h.tell k hk hb _ _ rfl t1 t2 rfl (fun t ht => by simp at ht; subst ht; exact h.clock)
  · exact h
theorem Rel.beat {E : Er} {M : Rf} (h : Rel E M) (p : Int) (a : Int) (b : Bt) : Rel (beatE E p b) (addM M ⟨p, a, true, false, b⟩) := by
  unfold addM beatE
  simp only
  rw [h.oth]
  split
  · obtain ⟨k, rfl, hk, hb⟩ := mem_bit ‹_›
    simp only [Int.toNat_natCast]
    exact h.tell k hk hb _ _ rfl rfl rfl rfl (fun t ht => by simp at ht; subst ht; exact h.clock)
  · exact h
theorem Rel.gone {E : Er} {M : Rf} (hok : E.ok) (h : Rel E M) (k : Nat) (hk : k < 64) (a : Int) : Rel { E with recs := upd E.recs k (goneR (E.recs k)) } (addM M ⟨(k : Int), a, false, true, bt0⟩) := by
  unfold addM
  simp only
  rw [h.oth, mem_nat _ _ hk]
  cases hb : E.ot.testBit k with
  | true =>
    rw [if_pos rfl]
    obtain ⟨t1, t2⟩ := h.ever k hk
    exact h.tell k hk hb _ _ rfl rfl rfl t1 (fun t ht => t2 t ht)
  | false =>
    rw [if_neg (by decide)]
    have e : upd E.recs k (goneR (E.recs k)) = E.recs := by
      funext q
      by_cases e : q = k
      · subst e; rw [upd_same, hok.out q hb]; rfl
      · rw [upd_other _ _ _ _ e]
    rw [e]
    exact h
theorem goneK_next (E : Er) (s k : Nat) (hk : k < 64) : goneE E (fun q => decide (q < k + 1) && s.testBit q) =
    if s.testBit k = true then { goneE E (fun q => decide (q < k) && s.testBit q) with recs := upd (goneE E (fun q => decide (q < k) && s.testBit q)).recs k (goneR ((goneE E (fun q => decide (q < k) && s.testBit q)).recs k)) } else goneE E (fun q => decide (q < k) && s.testBit q) := by
  have hne : ∀ q, q ≠ k → decide (q < k + 1) = decide (q < k) := fun q hq => decide_eq_decide.2 (by omega)
  unfold goneE
  split
  · rename_i hs
    congr 1
    funext q
    by_cases e : q = k
    · subst e
      simp only [upd_same]
      unfold goneF
      simp [hs]
    · rw [upd_other _ _ _ _ e]
      simp only
      unfold goneF
      simp only [hne q e]
  · rename_i hs
    congr 1
    funext q
    unfold goneF
    by_cases e : q = k
    · subst e; simp [hs]
    · simp only [hne q e]
theorem goneK_zero (E : Er) (s : Nat) : goneE E (fun q => decide (q < 0) && s.testBit q) = E := by
  unfold goneE goneF
  simp
theorem goneK_all (E : Er) (s : Nat) (hs : s < 18446744073709551616) : goneE E (fun q => decide (q < 64) && s.testBit q) = forgetE E s := by
  unfold forgetE goneE
  congr 2
  funext q
  by_cases h : q < 64
  · simp [h]
  · simp [h, bit_high s q hs (by omega)]

theorem Rel.of {E : Er} {M : Rf} (h : Rel E M) (p : Int) : ofB E p = botO (ofT M.all p) ∧ ofO E p = (ofT M.all p).isSome := by
  cases hm : mem E.ot p with
  | true =>
    obtain ⟨k, rfl, hk, hb⟩ := mem_bit hm
    obtain ⟨t1, t2⟩ := h.told k hk
    unfold ofB ofO
    rw [if_pos hm, hm, Bool.true_and]
    exact ⟨t2, t1⟩
  | false =>
    have : ofT M.all p = none := ofT_none _ p fun s hs e => by have := h.inn s hs; rw [e, hm] at this; cases this
    rw [this]
    unfold ofB ofO
    rw [hm, if_neg (by decide)]
    exact ⟨rfl, rfl⟩
theorem Rel.reach {E : Er} {M : Rf} (hok : E.ok) (h : Rel E M) : reachE E = rreachM M := num_ext _ _ fun q hq => by
  rw [h.me, h.oth, mem_nat _ _ hq]
  congr 1
  obtain ⟨t1, t2⟩ := h.ever q hq
  unfold reachB rreachB
  rw [t1, h.clock, h.timeout]
  cases hb : E.ot.testBit q with
  | true =>
    cases hr : rchT M.all q with
    | none => rfl
    | some t => rw [t2 t hr]; rfl
  | false =>
    rw [hok.out q hb] at t1
    rw [← t1]
    rfl
theorem Rel.epochK {E : Er} {M : Rf} (h : Rel E M) : ∀ k, k ≤ 64 → Go.Proofs.Ytcjbjcojmjfmaaa.epochK E k = repochK M k
  | 0, _ => rfl
  | k + 1, hk => by
    have ih := Rel.epochK h k (by omega)
    obtain ⟨_, t2⟩ := h.told k (by omega)
    unfold Go.Proofs.Ytcjbjcojmjfmaaa.epochK repochK
    rw [ih, t2]
    omega
theorem Rel.epoch {E : Er} {M : Rf} (h : Rel E M) : epochE E = repochK M 64 := h.epochK 64 (Nat.le_refl _)
theorem Rel.strange {E : Er} {M : Rf} (h : Rel E M) (s e : Nat) (r : Int) : strangeE E s e r = rstrangeM M s e r := num_ext _ _ fun q hq => by
  obtain ⟨o1, o2⟩ := h.of (q : Int)
  rw [o1, o2]
  cases s.testBit q <;> cases (ofT M.all (q : Int)).isSome <;> rfl
theorem ok_add {M : Rf} (h : M.ok) (s : Sd) : (addM M s).ok := by
  unfold addM
  split
  · exact ⟨h.m0, h.m1, h.n0, h.n1, h.o0, h.o1, h.c0, h.c1, fun t ht => by
      rcases List.mem_append.1 ht with h' | h'
      · exact h.all t h'
      · rw [List.mem_singleton.1 h']; exact ⟨h.c0, Int.le_refl _⟩⟩
  · exact h
theorem add_len (M : Rf) (s : Sd) : (addM M s).all.length ≤ M.all.length + 1 := by
  unfold addM
  split
  · simp
  · omega
theorem add_now (M : Rf) (s : Sd) : (addM M s).now = M.now := by unfold addM; split <;> rfl
end Go.Proofs.Ytcjbjcojmjfmaaa
