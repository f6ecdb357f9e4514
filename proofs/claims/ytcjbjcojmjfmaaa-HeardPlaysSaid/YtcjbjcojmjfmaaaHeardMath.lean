/- An ear: plain facts on functions and numbers, without the program. -/
import Derived.Test.YtcjbjcojmjfmaaaSetList
import Derived.Test.YtcjbjcojmjfmaaaKeyMath
set_option linter.unusedVariables false
set_option linter.unusedSimpArgs false
namespace Go.Proofs.Ytcjbjcojmjfmaaa

/-- A beat: the configuration, the one that was promised, the epoch. -/
structure Bt where
  ce : Nat
  cr : Int
  pe : Nat
  pr : Int
  ep : Nat
  deriving DecidableEq
def bt0 : Bt := ⟨0, 0, 0, 0, 0⟩
structure Bt.ok (b : Bt) : Prop where
  ce : b.ce < 18446744073709551616
  cr0 : -9223372036854775808 ≤ b.cr
  cr1 : b.cr ≤ 9223372036854775807
  pe : b.pe < 18446744073709551616
  pr0 : -9223372036854775808 ≤ b.pr
  pr1 : b.pr ≤ 9223372036854775807
  ep : b.ep < 18446744073709551616
theorem bt0_ok : bt0.ok := ⟨by decide, by decide, by decide, by decide, by decide, by decide, by decide⟩
/-- What is known of one process. -/
structure Rc where
  tick : Int
  ever : Bool
  b : Bt
  told : Bool
  deriving DecidableEq
def rc0 : Rc := ⟨0, false, bt0, false⟩
structure Er where
  me : Int
  ot : Nat
  timeout : Int
  clock : Int
  recs : Nat → Rc
structure Rc.ok (r : Rc) (clock : Int) : Prop where
  t0 : 0 ≤ r.tick
  t1 : r.tick ≤ clock
  b : r.b.ok
  none : r.told = false → r.b = bt0
theorem rc0_ok {c : Int} (h : 0 ≤ c) : rc0.ok c := ⟨by decide, h, bt0_ok, fun _ => rfl⟩
theorem Rc.ok.mono {r : Rc} {c d : Int} (h : r.ok c) (hd : c ≤ d) : r.ok d := ⟨h.t0, by have := h.t1; omega, h.b, h.none⟩
structure Er.ok (E : Er) : Prop where
  m0 : -9223372036854775808 ≤ E.me
  m1 : E.me ≤ 9223372036854775807
  ot : E.ot < 18446744073709551616
  o0 : -9223372036854775808 ≤ E.timeout
  o1 : E.timeout ≤ 9223372036854775807
  c0 : 0 ≤ E.clock
  c1 : E.clock ≤ 2000000
  rc : ∀ p, (E.recs p).ok E.clock
  out : ∀ p, E.ot.testBit p = false → E.recs p = rc0

def upd (f : Nat → Rc) (p : Nat) (r : Rc) : Nat → Rc := fun q => if q = p then r else f q
theorem upd_same (f : Nat → Rc) (p : Nat) (r : Rc) : upd f p r p = r := by unfold upd; rw [if_pos rfl]
theorem upd_other (f : Nat → Rc) (p q : Nat) (r : Rc) (h : q ≠ p) : upd f p r q = f q := by unfold upd; rw [if_neg h]
def earN (me n timeout : Int) : Er := ⟨me, but (below n) (onl me), timeout, 0, fun _ => rc0⟩
def tickE (E : Er) : Er := { E with clock := E.clock + 1 }
def hearR (E : Er) (p : Nat) : Rc := { E.recs p with tick := E.clock, ever := true }
def hearE (E : Er) (p : Int) : Er := if mem E.ot p = true then { E with recs := upd E.recs p.toNat (hearR E p.toNat) } else E
def beatE (E : Er) (p : Int) (b : Bt) : Er := if mem E.ot p = true then { E with recs := upd E.recs p.toNat ⟨E.clock, true, b, true⟩ } else E
def goneR (r : Rc) : Rc := { r with b := bt0, told := false }
def goneF (f : Nat → Rc) (s : Nat → Bool) : Nat → Rc := fun q => if s q then goneR (f q) else f q
def goneE (E : Er) (s : Nat → Bool) : Er := { E with recs := goneF E.recs s }
def forgetE (E : Er) (s : Nat) : Er := goneE E s.testBit
theorem mem_bit {a : Nat} {p : Int} (h : mem a p = true) : ∃ k : Nat, p = k ∧ k < 64 ∧ a.testBit k = true := by
  unfold mem at h
  simp at h
  exact ⟨p.toNat, by omega, by omega, h.2⟩
theorem ok_new (me n timeout : Int) (m0 : -9223372036854775808 ≤ me) (m1 : me ≤ 9223372036854775807) (o0 : -9223372036854775808 ≤ timeout) (o1 : timeout ≤ 9223372036854775807) : (earN me n timeout).ok :=
  ⟨m0, m1, but_lt _ _, o0, o1, Int.le_refl _, (by decide : (0 : Int) ≤ 2000000), fun p => rc0_ok (Int.le_refl _), fun p _ => rfl⟩
theorem ok_tick {E : Er} (h : E.ok) (hc : E.clock ≤ 1000000) : (tickE E).ok :=
  ⟨h.m0, h.m1, h.ot, h.o0, h.o1, by have := h.c0; show 0 ≤ E.clock + 1; omega, by show E.clock + 1 ≤ _; omega, fun p => (h.rc p).mono (by show _ ≤ E.clock + 1; omega), h.out⟩
theorem ok_upd {E : Er} (h : E.ok) (k : Nat) (hk : E.ot.testBit k = true) (r : Rc) (hr : r.ok E.clock) : ({ E with recs := upd E.recs k r } : Er).ok :=
  ⟨h.m0, h.m1, h.ot, h.o0, h.o1, h.c0, h.c1, fun p => by
    by_cases e : p = k
    · subst e; show (upd E.recs p r p).ok _; rw [upd_same]; exact hr
    · show (upd E.recs k r p).ok _; rw [upd_other _ _ _ _ e]; exact h.rc p, fun p hp => by
    show upd E.recs k r p = rc0
    rw [upd_other _ _ _ _ (fun e => by subst e; rw [hk] at hp; cases hp)]
    exact h.out p hp⟩
theorem ok_hearR {E : Er} (h : E.ok) (p : Nat) : (hearR E p).ok E.clock := ⟨h.c0, Int.le_refl _, (h.rc p).b, (h.rc p).none⟩
theorem ok_hear {E : Er} (h : E.ok) (p : Int) : (hearE E p).ok := by
  unfold hearE
  split
  · obtain ⟨k, rfl, hk, hb⟩ := mem_bit ‹_›
    exact ok_upd h k hb _ (ok_hearR h k)
  · exact h
theorem ok_beat {E : Er} (h : E.ok) (p : Int) (b : Bt) (hb : b.ok) : (beatE E p b).ok := by
  unfold beatE
  split
  · obtain ⟨k, rfl, hk, hb'⟩ := mem_bit ‹_›
    exact ok_upd h k hb' _ ⟨h.c0, Int.le_refl _, hb, fun e => by cases e⟩
  · exact h
theorem goneR_rc0 : goneR rc0 = rc0 := rfl
theorem ok_gone {E : Er} (h : E.ok) (s : Nat → Bool) : (goneE E s).ok :=
  ⟨h.m0, h.m1, h.ot, h.o0, h.o1, h.c0, h.c1, fun p => by
    show (goneF E.recs s p).ok _
    unfold goneF
    split
    · exact ⟨(h.rc p).t0, (h.rc p).t1, bt0_ok, fun _ => rfl⟩
    · exact h.rc p, fun p hp => by
    show goneF E.recs s p = rc0
    unfold goneF
    rw [h.out p hp]
    split <;> rfl⟩
theorem ok_forget {E : Er} (h : E.ok) (s : Nat) : (forgetE E s).ok := ok_gone h _
theorem goneF_none (f : Nat → Rc) : goneF f (fun _ => false) = f := rfl
/-- One more is forgotten. -/
theorem goneF_next (f : Nat → Rc) (l : List Nat) (k : Nat) (hk : k < l.length) (hd : l.Nodup) :
    goneF f (fun q => (l.take (k + 1)).contains q) = upd (goneF f (fun q => (l.take k).contains q)) l[k] (goneR (f l[k])) := by
  have ht : l.take (k + 1) = l.take k ++ [l[k]] := List.take_succ_eq_append_getElem hk
  generalize l[k] = x at *
  funext q
  unfold goneF upd
  by_cases e : q = x
  · subst e
    rw [if_pos rfl, if_pos (by rw [ht]; simp)]
  · rw [if_neg e]
    have : (l.take (k + 1)).contains q = (l.take k).contains q := by rw [ht, Bool.eq_iff_iff]; simp [e]
    simp only [this]
theorem goneF_at (f : Nat → Rc) (l : List Nat) (k : Nat) (hk : k < l.length) (hd : l.Nodup) : goneF f (fun q => (l.take k).contains q) l[k] = f l[k] := by
  unfold goneF
  rw [if_neg]
  intro h
  rw [List.contains_iff_mem] at h
  obtain ⟨i, hi, he⟩ := List.mem_take_iff_getElem.1 h
  exact (List.pairwise_iff_getElem.1 hd) i k (by omega) hk (by omega) he
theorem lst_nodup (a : Nat) : (lst a).Nodup := (lst_rises a).imp (fun h => by omega)
theorem forget_all (E : Er) (s : Nat) : ({ E with recs := goneF E.recs (fun q => (lst s).contains q) } : Er) = { E with recs := goneF E.recs (fun q => decide (q < 64) && s.testBit q) } := by
  congr 2
  funext q
  rw [Bool.eq_iff_iff, List.contains_iff_mem, lst_mem]
  simp
theorem forget_lst (E : Er) (s : Nat) (hs : s < 18446744073709551616) : ({ E with recs := goneF E.recs (fun q => (lst s).contains q) } : Er) = forgetE E s := by
  rw [forget_all]
  unfold forgetE goneE
  congr 2
  funext q
  by_cases h : q < 64
  · simp [h]
  · simp [h, bit_high s q hs (by omega)]

/-- Is one reached, that isn't me? -/
def reachB (E : Er) (q : Nat) : Bool := (E.recs q).ever && decide (E.clock - (E.recs q).tick ≤ E.timeout)
def reachE (E : Er) : Nat := num fun q => decide ((q : Int) = E.me) || reachB E q
def reachK (E : Er) (k : Nat) : Nat := num fun q => decide ((q : Int) = E.me) || (decide (q < k) && reachB E q)
theorem reachE_lt (E : Er) : reachE E < 18446744073709551616 := num_lt _
theorem reachK_lt (E : Er) (k : Nat) : reachK E k < 18446744073709551616 := num_lt _
theorem reachK_zero (E : Er) : reachK E 0 = onl E.me := set_ext _ _ (num_lt _) (onl_lt _) fun i hi => by
  unfold reachK; rw [num_bit, onl_bit _ _ hi]; simp [hi]
theorem reachK_all (E : Er) : reachK E 64 = reachE E := num_ext _ _ fun i hi => by simp [hi]
theorem reachK_yes (E : Er) (k : Nat) (hk : k < 64) (h : reachB E k = true) : any (reachK E k) (ofl [(k : Int)]) = reachK E (k + 1) := by
  refine set_ext _ _ (num_lt _) (num_lt _) fun i hi => ?_
  unfold any ofl
  rw [num_bit, num_bit]
  unfold reachK
  rw [num_bit, num_bit]
  by_cases e : i = k
  · subst e; simp [hi, h]
  · have e1 : ¬ ((i : Int) = (k : Int)) := by omega
    have e2 : decide (i < k + 1) = decide (i < k) := decide_eq_decide.2 (by omega)
    have e3 : ([(k : Int)].contains (i : Int)) = false := by simp; omega
    rw [e2, e3]; simp [hi]
theorem reachK_no (E : Er) (k : Nat) (h : reachB E k = false) : reachK E k = reachK E (k + 1) := num_ext _ _ fun i hi => by
  by_cases e : i = k
  · subst e; simp [h]
  · have e2 : decide (i < k + 1) = decide (i < k) := decide_eq_decide.2 (by omega)
    rw [e2]
theorem reach_bit (E : Er) (i : Nat) (hi : i < 64) : (reachE E).testBit i = (decide ((i : Int) = E.me) || reachB E i) := by
  unfold reachE; rw [num_bit]; simp [hi]
theorem reach_mem (E : Er) (p : Int) : mem (reachE E) p = (decide (0 ≤ p) && decide (p < 64) && (decide (p = E.me) || reachB E p.toNat)) := by
  by_cases h : 0 ≤ p ∧ p < 64
  · obtain ⟨k, rfl⟩ := Int.eq_ofNat_of_zero_le h.1
    rw [mem_nat _ k (by omega), reach_bit _ _ (by omega)]
    simp [h.2]
  · unfold mem
    have : (decide (0 ≤ p) && decide (p < 64)) = false := by simp; omega
    rw [this, Bool.false_and, Bool.false_and]

/-- What Of answers. -/
def ofB (E : Er) (p : Int) : Bt := if mem E.ot p = true then (E.recs p.toNat).b else bt0
def ofO (E : Er) (p : Int) : Bool := mem E.ot p && (E.recs p.toNat).told
theorem mem_at {E : Er} (h : E.ok) (k : Nat) (hk : k < 64) : ofB E k = (E.recs k).b ∧ ofO E k = (E.recs k).told := by
  unfold ofB ofO
  rw [mem_nat _ k hk]
  cases hb : E.ot.testBit k with
  | true => exact ⟨by rw [if_pos rfl]; rfl, rfl⟩
  | false => rw [h.out k hb]; exact ⟨rfl, rfl⟩

/-- The configurations of a beat's three epochs. -/
def confsB (b : Bt) : List K := [⟨b.ce, b.cr⟩, ⟨b.pe, b.pr⟩, ⟨b.ep, 0⟩]
def newestK (E : Er) : Nat → K
  | 0 => ⟨0, 0⟩
  | k + 1 => lastK [newestK E k, ⟨(E.recs k).b.ce, (E.recs k).b.cr⟩, ⟨(E.recs k).b.pe, (E.recs k).b.pr⟩, ⟨(E.recs k).b.ep, 0⟩]
theorem lastK_n (l : List K) (x : K) (h : x ∈ l) : x.n ≤ (lastK l).n := by
  have := lastK_ge l x h
  rw [K.less_not] at this
  omega
/-- The greatest epoch among the first k. -/
def epochK (E : Er) : Nat → Nat
  | 0 => 0
  | k + 1 => max (epochK E k) (max (E.recs k).b.ce (max (E.recs k).b.pe (E.recs k).b.ep))
theorem newest_n (E : Er) : ∀ k, (newestK E k).n = (epochK E k : Int)
  | 0 => rfl
  | k + 1 => by
    have ih := newest_n E k
    unfold newestK epochK
    generalize hl : [newestK E k, (⟨(E.recs k).b.ce, (E.recs k).b.cr⟩ : K), ⟨(E.recs k).b.pe, (E.recs k).b.pr⟩, ⟨(E.recs k).b.ep, 0⟩] = l
    have h1 := lastK_n l (newestK E k) (by rw [← hl]; simp)
    have h2 := lastK_n l ⟨(E.recs k).b.ce, (E.recs k).b.cr⟩ (by rw [← hl]; simp)
    have h3 := lastK_n l ⟨(E.recs k).b.pe, (E.recs k).b.pr⟩ (by rw [← hl]; simp)
    have h4 := lastK_n l ⟨(E.recs k).b.ep, 0⟩ (by rw [← hl]; simp)
    have h5 := lastK_mem l (by rw [← hl]; simp)
    generalize lastK l = m at *
    subst hl
    simp only at h2 h3 h4
    simp only [List.mem_cons, List.not_mem_nil, or_false] at h5
    have h6 : m.n = (epochK E k : Int) ∨ m.n = ((E.recs k).b.ce : Int) ∨ m.n = ((E.recs k).b.pe : Int) ∨ m.n = ((E.recs k).b.ep : Int) := by
      rcases h5 with h5 | h5 | h5 | h5
      · exact .inl (by rw [h5]; exact ih)
      · exact .inr (.inl (by rw [h5]))
      · exact .inr (.inr (.inl (by rw [h5])))
      · exact .inr (.inr (.inr (by rw [h5])))
    omega
def epochE (E : Er) : Nat := epochK E 64
theorem epochK_lt {E : Er} (h : E.ok) : ∀ k, epochK E k < 18446744073709551616
  | 0 => (by decide : (0 : Nat) < 18446744073709551616)
  | k + 1 => by
    have ih := epochK_lt h k
    have hb := (h.rc k).b
    have h1 := hb.ce
    have h2 := hb.pe
    have h3 := hb.ep
    unfold epochK
    omega
theorem epochK_ge (E : Er) (p : Nat) : ∀ k, p < k → (E.recs p).b.ce ≤ epochK E k ∧ (E.recs p).b.pe ≤ epochK E k ∧ (E.recs p).b.ep ≤ epochK E k
  | 0, h => by omega
  | k + 1, h => by
    unfold epochK
    by_cases e : p = k
    · subst e; omega
    · have := epochK_ge E p k (by omega); omega
theorem epochK_at (E : Er) : ∀ k, epochK E k = 0 ∨ ∃ p, p < k ∧ ((E.recs p).b.ep = epochK E k ∨ (E.recs p).b.ce = epochK E k ∨ (E.recs p).b.pe = epochK E k)
  | 0 => .inl rfl
  | k + 1 => by
    rcases epochK_at E k with h | ⟨p, hp, h⟩
    · unfold epochK
      rw [h]
      by_cases h0 : max 0 (max (E.recs k).b.ce (max (E.recs k).b.pe (E.recs k).b.ep)) = 0
      · exact .inl h0
      · exact .inr ⟨k, by omega, by omega⟩
    · unfold epochK
      by_cases hm : epochK E k < max (E.recs k).b.ce (max (E.recs k).b.pe (E.recs k).b.ep)
      · exact .inr ⟨k, by omega, by omega⟩
      · exact .inr ⟨p, by omega, by omega⟩

/-- Does a beat promise another one? -/
def otherB (b : Bt) (e : Nat) (r : Int) : Bool := !(decide (b.pe = e) && decide (b.pr = r))
def strangeE (E : Er) (s e : Nat) (r : Int) : Nat := num fun q => s.testBit q && (ofO E q && otherB (ofB E q) e r)
def strangeL (E : Er) (l : List Nat) (e : Nat) (r : Int) : Nat := num fun q => l.contains q && (ofO E q && otherB (ofB E q) e r)
theorem strangeL_lt (E : Er) (l : List Nat) (e : Nat) (r : Int) : strangeL E l e r < 18446744073709551616 := num_lt _
theorem strangeL_nil (E : Er) (e : Nat) (r : Int) : strangeL E [] e r = 0 := set_ext _ _ (num_lt _) (by decide) fun i hi => by unfold strangeL; rw [num_bit]; simp
theorem strangeL_yes (E : Er) (l : List Nat) (q e : Nat) (r : Int) (hq : q < 64) (h : (ofO E q && otherB (ofB E q) e r) = true) : any (strangeL E l e r) (ofl [(q : Int)]) = strangeL E (l ++ [q]) e r := by
  refine set_ext _ _ (num_lt _) (num_lt _) fun i hi => ?_
  unfold any ofl
  rw [num_bit, num_bit]
  unfold strangeL
  rw [num_bit, num_bit]
  by_cases e1 : i = q
  · subst e1; rw [h]; simp [hi]
  · have e3 : ([(q : Int)].contains (i : Int)) = false := by simp; omega
    rw [e3]; simp [hi, e1]
theorem strangeL_no (E : Er) (l : List Nat) (q e : Nat) (r : Int) (h : (ofO E q && otherB (ofB E q) e r) = false) : strangeL E l e r = strangeL E (l ++ [q]) e r := num_ext _ _ fun i hi => by
  by_cases e1 : i = q
  · subst e1; rw [h]; simp
  · simp [e1]
theorem strange_all (E : Er) (s e : Nat) (r : Int) : strangeL E (lst s) e r = strangeE E s e r := num_ext _ _ fun i hi => by
  congr 1
  rw [Bool.eq_iff_iff, List.contains_iff_mem, lst_mem]
  simp [hi]
end Go.Proofs.Ytcjbjcojmjfmaaa
