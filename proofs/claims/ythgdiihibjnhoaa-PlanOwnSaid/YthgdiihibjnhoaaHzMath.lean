/- How far everybody was heard: plain facts, without the program. -/
import Derived.Test.YthgdiihibjnhoaaSetMath
set_option linter.unusedVariables false
set_option linter.unusedSimpArgs false
namespace Go.Proofs.Ythgdiihibjnhoaa

/-- A mark: how far one was heard, how far it heard all, how many came. -/
structure Mk where
  hd : Nat
  rc : Nat
  cm : Nat
/-- A promise: whose, up to which stamp, but for how many messages. -/
structure Pm where
  frm : Int
  st : Nat
  sn : Nat
/-- A horizon: the others, the clock, the marks, the promises that wait. -/
structure Hz where
  oth : Nat
  clock : Nat
  mks : Nat → Mk
  wait : List Pm

def updM (f : Nat → Mk) (p : Nat) (m : Mk) : Nat → Mk := fun q => if q = p then m else f q
theorem updM_at (f : Nat → Mk) (p : Nat) (m : Mk) : updM f p m p = m := if_pos rfl
theorem updM_other (f : Nat → Mk) (p q : Nat) (m : Mk) (h : q ≠ p) : updM f p m q = f q := if_neg h
theorem updM_twice (f : Nat → Mk) (p : Nat) (m n : Mk) : updM (updM f p m) p n = updM f p n := by
  funext q; unfold updM; split <;> rfl
theorem updM_same (f : Nat → Mk) (p : Nat) : updM f p (f p) = f := by
  funext q; unfold updM; split
  · rename_i e; rw [e]
  · rfl

/-- Does a count whenever b does, and say no less? -/
def coversP (a b : Pm) : Bool := decide (a.frm = b.frm) && decide (a.sn ≤ b.sn) && decide (b.st ≤ a.st)
def waitL (l : List Pm) (n : Pm) : List Pm := if l.any (fun a => coversP a n) then l else l.filter (fun a => !coversP n a) ++ [n]
theorem waitL_yes {l : List Pm} {n : Pm} (h : l.any (fun a => coversP a n) = true) : waitL l n = l := by unfold waitL; rw [h]; rfl
theorem waitL_no {l : List Pm} {n : Pm} (h : l.any (fun a => coversP a n) = false) : waitL l n = l.filter (fun a => !coversP n a) ++ [n] := by unfold waitL; rw [h]; rfl
theorem waitL_length (l : List Pm) (n : Pm) : (waitL l n).length ≤ l.length + 1 := by
  unfold waitL; split
  · omega
  · have := List.length_filter_le (fun a => !coversP n a) l
    simp; omega
theorem waitL_mem {l : List Pm} {n x : Pm} (h : x ∈ waitL l n) : x ∈ l ∨ x = n := by
  unfold waitL at h; split at h
  · exact .inl h
  · rcases List.mem_append.1 h with h | h
    · exact .inl (List.mem_filter.1 h).1
    · exact .inr (by simpa using h)
/-- Does a promise of p count, once c came? -/
def hits (p : Int) (c : Nat) (a : Pm) : Bool := decide (a.frm = p) && decide (a.sn ≤ c)
/-- How far p is heard, once its promises were gone through. -/
def heardL (p : Int) (c : Nat) (l : List Pm) (h : Nat) : Nat := l.foldl (fun h a => if hits p c a then max h a.st else h) h
theorem heardL_nil (p : Int) (c h : Nat) : heardL p c [] h = h := rfl
theorem heardL_snoc (p : Int) (c : Nat) (l : List Pm) (a : Pm) (h : Nat) : heardL p c (l ++ [a]) h = if hits p c a then max (heardL p c l h) a.st else heardL p c l h := by
  unfold heardL; rw [List.foldl_append]; rfl
theorem heardL_yes {p : Int} {c : Nat} {l : List Pm} {k : Nat} {a : Pm} {h : Nat} (hk : l[k]? = some a) (hh : hits p c a = true) : heardL p c (l.take (k + 1)) h = max (heardL p c (l.take k) h) a.st := by
  rw [List.take_add_one, hk]; show heardL p c (l.take k ++ [a]) h = _; rw [heardL_snoc, hh]; rfl
theorem heardL_no {p : Int} {c : Nat} {l : List Pm} {k : Nat} {a : Pm} {h : Nat} (hk : l[k]? = some a) (hh : hits p c a = false) : heardL p c (l.take (k + 1)) h = heardL p c (l.take k) h := by
  rw [List.take_add_one, hk]; show heardL p c (l.take k ++ [a]) h = _; rw [heardL_snoc, hh]; rfl
theorem heardL_ge (p : Int) (c : Nat) (l : List Pm) : ∀ (h : Nat), h ≤ heardL p c l h := by
  induction l with
  | nil => exact fun h => Nat.le_refl _
  | cons a l ih =>
    intro h
    show h ≤ heardL p c l (if hits p c a then max h a.st else h)
    refine Nat.le_trans ?_ (ih _)
    split
    · exact Nat.le_max_left _ _
    · exact Nat.le_refl _
theorem heardL_lt (p : Int) (c : Nat) (l : List Pm) (B : Nat) (hl : ∀ a ∈ l, a.st < B) : ∀ (h : Nat), h < B → heardL p c l h < B := by
  induction l with
  | nil => exact fun h hB => hB
  | cons a l ih =>
    intro h hB
    show heardL p c l (if hits p c a then max h a.st else h) < B
    refine ih (fun x hx => hl x (List.mem_cons_of_mem _ hx)) _ ?_
    have := hl a List.mem_cons_self
    split <;> omega
/-- Does a promise of p say no more than what is heard? -/
def doneP (p : Int) (h : Nat) (a : Pm) : Bool := decide (a.frm = p) && decide (a.st ≤ h)

def seeZ (H : Hz) (s : Nat) : Hz := { H with clock := max H.clock s }
def stampZ (H : Hz) : Hz := { H with clock := min (H.clock + 1) 18446744073709551615 }
def markZ (H : Hz) (p : Nat) (m : Mk) : Hz := { H with mks := updM H.mks p m }
/-- How far p is heard once its promises counted. -/
def nowH (H : Hz) (p : Nat) : Nat := heardL (p : Int) (H.mks p).cm H.wait (H.mks p).hd
def countZ (H : Hz) (p : Nat) : Hz := { H with mks := updM H.mks p { H.mks p with hd := nowH H p }, wait := H.wait.filter (fun a => !doneP (p : Int) (nowH H p) a) }
def othZ (H : Hz) (p : Int) : Bool := mem H.oth p
def cameZ (H : Hz) (p : Int) (seq st : Nat) : Hz :=
  if othZ H p then countZ (markZ (seeZ H st) p.toNat ⟨max (H.mks p.toNat).hd st, (H.mks p.toNat).rc, seq⟩) p.toNat else H
def promZ (H : Hz) (p : Int) (st sn : Nat) : Hz :=
  if othZ H p then countZ { seeZ H st with wait := waitL H.wait ⟨p, st, sn⟩ } p.toNat else H
def reachZ (H : Hz) (p : Int) (st : Nat) : Hz :=
  if othZ H p then markZ H p.toNat ⟨(H.mks p.toNat).hd, max (H.mks p.toNat).rc st, (H.mks p.toNat).cm⟩ else H
theorem cameZ_yes {H : Hz} {p : Int} {seq st : Nat} (h : othZ H p = true) : cameZ H p seq st = countZ (markZ (seeZ H st) p.toNat ⟨max (H.mks p.toNat).hd st, (H.mks p.toNat).rc, seq⟩) p.toNat := by unfold cameZ; rw [h]; rfl
theorem cameZ_no {H : Hz} {p : Int} {seq st : Nat} (h : othZ H p = false) : cameZ H p seq st = H := by unfold cameZ; rw [h]; rfl
theorem promZ_yes {H : Hz} {p : Int} {st sn : Nat} (h : othZ H p = true) : promZ H p st sn = countZ { seeZ H st with wait := waitL H.wait ⟨p, st, sn⟩ } p.toNat := by unfold promZ; rw [h]; rfl
theorem promZ_no {H : Hz} {p : Int} {st sn : Nat} (h : othZ H p = false) : promZ H p st sn = H := by unfold promZ; rw [h]; rfl
theorem reachZ_yes {H : Hz} {p : Int} {st : Nat} (h : othZ H p = true) : reachZ H p st = markZ H p.toNat ⟨(H.mks p.toNat).hd, max (H.mks p.toNat).rc st, (H.mks p.toNat).cm⟩ := by unfold reachZ; rw [h]; rfl
theorem reachZ_no {H : Hz} {p : Int} {st : Nat} (h : othZ H p = false) : reachZ H p st = H := by unfold reachZ; rw [h]; rfl

/-- The least of a stamp and what the first k of the others have. -/
def leastK (o : Nat) (f : Nat → Nat) (s : Nat) : Nat → Nat
  | 0 => s
  | k + 1 => if o.testBit k then min (leastK o f s k) (f k) else leastK o f s k
theorem leastK_zero (o : Nat) (f : Nat → Nat) (s : Nat) : leastK o f s 0 = s := rfl
theorem leastK_yes (o : Nat) (f : Nat → Nat) (s k : Nat) (h : o.testBit k = true) : leastK o f s (k + 1) = min (leastK o f s k) (f k) := by
  show (if o.testBit k then _ else _) = _; rw [h]; rfl
theorem leastK_no (o : Nat) (f : Nat → Nat) (s k : Nat) (h : o.testBit k = false) : leastK o f s (k + 1) = leastK o f s k := by
  show (if o.testBit k then _ else _) = _; rw [h]; rfl
theorem leastK_step (o : Nat) (f : Nat → Nat) (s k : Nat) : leastK o f s (k + 1) ≤ leastK o f s k ∧ (o.testBit k = true → leastK o f s (k + 1) ≤ f k) := by
  cases h : o.testBit k with
  | false => rw [leastK_no o f s k h]; exact ⟨Nat.le_refl _, fun e => Bool.noConfusion e⟩
  | true => rw [leastK_yes o f s k h]; exact ⟨Nat.min_le_left _ _, fun _ => Nat.min_le_right _ _⟩
theorem leastK_le (o : Nat) (f : Nat → Nat) (s : Nat) : ∀ k, leastK o f s k ≤ s
  | 0 => Nat.le_refl _
  | k + 1 => Nat.le_trans (leastK_step o f s k).1 (leastK_le o f s k)
theorem leastK_of (o : Nat) (f : Nat → Nat) (s : Nat) : ∀ k p, p < k → o.testBit p = true → leastK o f s k ≤ f p
  | 0, p, h, _ => absurd h (Nat.not_lt_zero _)
  | k + 1, p, h, hp => by
    by_cases e : p = k
    · subst e; exact (leastK_step o f s p).2 hp
    · exact Nat.le_trans (leastK_step o f s k).1 (leastK_of o f s k p (by omega) hp)
theorem leastK_ge (o : Nat) (f : Nat → Nat) (s n : Nat) (hs : n ≤ s) : ∀ k, (∀ p, p < k → o.testBit p = true → n ≤ f p) → n ≤ leastK o f s k
  | 0, _ => hs
  | k + 1, h => by
    have ih := leastK_ge o f s n hs k fun p hp hb => h p (by omega) hb
    cases hb : o.testBit k with
    | false => rw [leastK_no o f s k hb]; exact ih
    | true => rw [leastK_yes o f s k hb]; exact Nat.le_min.2 ⟨ih, h k (by omega) hb⟩
/-- 64, never unfolded. -/
@[irreducible] def allZ : Nat := 64
theorem allZ_eq : allZ = 64 := by unfold allZ; rfl
def leastN (o : Nat) (f : Nat → Nat) (s : Nat) : Nat := leastK o f s allZ
theorem leastN_at (o : Nat) (f : Nat → Nat) (s k : Nat) (h : 64 ≤ k) (h2 : k ≤ 64) : leastK o f s k = leastN o f s := by
  unfold leastN; rw [allZ_eq, show k = 64 by omega]
theorem leastN_le (o : Nat) (f : Nat → Nat) (s : Nat) : leastN o f s ≤ s := leastK_le _ _ _ _
theorem leastN_of (o : Nat) (f : Nat → Nat) (s p : Nat) (hp : p < 64) (hb : o.testBit p = true) : leastN o f s ≤ f p := leastK_of _ _ _ _ p (by rw [allZ_eq]; exact hp) hb
theorem leastN_ge (o : Nat) (f : Nat → Nat) (s n : Nat) (hs : n ≤ s) (h : ∀ p, p < 64 → o.testBit p = true → n ≤ f p) : n ≤ leastN o f s :=
  leastK_ge _ _ _ _ hs _ fun p hp hb => h p (by rw [allZ_eq] at hp; exact hp) hb
theorem leastN_mono {o o' : Nat} {f f' : Nat → Nat} {s s' : Nat} (ho : ∀ p, p < 64 → o'.testBit p = true → o.testBit p = true) (hf : ∀ p, p < 64 → o'.testBit p = true → f p ≤ f' p) (hs : s ≤ s') : leastN o f s ≤ leastN o' f' s' :=
  leastN_ge _ _ _ _ (Nat.le_trans (leastN_le _ _ _) hs) fun p hp hb => Nat.le_trans (leastN_of o f s p hp (ho p hp hb)) (hf p hp hb)
theorem leastN_none (f : Nat → Nat) (s : Nat) : leastN 0 f s = s := Nat.le_antisymm (leastN_le _ _ _) (leastN_ge _ _ _ _ (Nat.le_refl _) fun p _ hb => by simp at hb)
/-- The horizon, and the safe mark. -/
def allN (H : Hz) : Nat := leastN H.oth (fun p => (H.mks p).hd) H.clock
def safeN (H : Hz) : Nat := leastN H.oth (fun p => (H.mks p).rc) (allN H)
theorem allN_le (H : Hz) : allN H ≤ H.clock := leastN_le _ _ _
theorem safeN_le (H : Hz) : safeN H ≤ allN H := leastN_le _ _ _
theorem alone_all {H : Hz} (h : H.oth = 0) : allN H = H.clock ∧ safeN H = H.clock := by
  have e : allN H = H.clock := by unfold allN; rw [h]; exact leastN_none _ _
  exact ⟨e, by unfold safeN; rw [h, leastN_none, e]⟩

def newZ (me : Int) (s : Nat) : Hz := ⟨but s (onl me), 0, fun _ => ⟨0, 0, 0⟩, []⟩
/-- A call. -/
structure ZA where
  kind : Int
  p : Int
  seq : Nat
  st : Nat
def stepZ (H : Hz) (a : ZA) : Hz :=
  if a.kind = 0 then cameZ H a.p a.seq a.st else if a.kind = 1 then promZ H a.p a.st a.seq else if a.kind = 2 then reachZ H a.p a.st else if a.kind = 3 then stampZ H else if a.kind = 4 then seeZ H a.st else H
def ansZ (H : Hz) (a : ZA) : Nat := if a.kind = 3 then (stampZ H).clock else 0
theorem stepZ_0 {H : Hz} {a : ZA} (h : a.kind = 0) : stepZ H a = cameZ H a.p a.seq a.st ∧ ansZ H a = 0 := by unfold stepZ ansZ; rw [if_pos h, if_neg (by omega)]; exact ⟨rfl, rfl⟩
theorem stepZ_1 {H : Hz} {a : ZA} (h : a.kind = 1) : stepZ H a = promZ H a.p a.st a.seq ∧ ansZ H a = 0 := by unfold stepZ ansZ; rw [if_neg (by omega), if_pos h, if_neg (by omega)]; exact ⟨rfl, rfl⟩
theorem stepZ_2 {H : Hz} {a : ZA} (h : a.kind = 2) : stepZ H a = reachZ H a.p a.st ∧ ansZ H a = 0 := by unfold stepZ ansZ; rw [if_neg (by omega), if_neg (by omega), if_pos h, if_neg (by omega)]; exact ⟨rfl, rfl⟩
theorem stepZ_3 {H : Hz} {a : ZA} (h : a.kind = 3) : stepZ H a = stampZ H ∧ ansZ H a = (stampZ H).clock := by unfold stepZ ansZ; rw [if_neg (by omega), if_neg (by omega), if_neg (by omega), if_pos h, if_pos h]; exact ⟨rfl, rfl⟩
theorem stepZ_4 {H : Hz} {a : ZA} (h : a.kind = 4) : stepZ H a = seeZ H a.st ∧ ansZ H a = 0 := by unfold stepZ ansZ; rw [if_neg (by omega), if_neg (by omega), if_neg (by omega), if_neg (by omega), if_pos h, if_neg (by omega)]; exact ⟨rfl, rfl⟩
theorem stepZ_else {H : Hz} {a : ZA} (h : a.kind < 0 ∨ 4 < a.kind) : stepZ H a = H ∧ ansZ H a = 0 := by unfold stepZ ansZ; rw [if_neg (by omega), if_neg (by omega), if_neg (by omega), if_neg (by omega), if_neg (by omega), if_neg (by omega)]; exact ⟨rfl, rfl⟩
theorem stepZ_cases (P : Hz → Prop) (H : Hz) (a : ZA) (h0 : P (cameZ H a.p a.seq a.st)) (h1 : P (promZ H a.p a.st a.seq)) (h2 : P (reachZ H a.p a.st)) (h3 : P (stampZ H)) (h4 : P (seeZ H a.st)) (h5 : P H) : P (stepZ H a) := by
  unfold stepZ; (repeat' split) <;> assumption
def runZ (H : Hz) : List ZA → Hz
  | [] => H
  | a :: l => runZ (stepZ H a) l
theorem runZ_append (H : Hz) : ∀ (l r : List ZA), runZ H (l ++ r) = runZ (runZ H l) r
  | [], _ => rfl
  | a :: l, r => runZ_append (stepZ H a) l r
theorem runZ_take (H : Hz) (l : List ZA) (k : Nat) (a : ZA) (h : l[k]? = some a) : runZ H (l.take (k + 1)) = stepZ (runZ H (l.take k)) a := by
  rw [List.take_add_one, h, runZ_append]; rfl

/-- How much greater all is. -/
structure Up (H H' : Hz) : Prop where
  oth : H'.oth = H.oth
  clock : H.clock ≤ H'.clock
  hd : ∀ p, (H.mks p).hd ≤ (H'.mks p).hd
  rc : ∀ p, (H.mks p).rc ≤ (H'.mks p).rc
theorem Up.refl (H : Hz) : Up H H := ⟨rfl, Nat.le_refl _, fun _ => Nat.le_refl _, fun _ => Nat.le_refl _⟩
theorem Up.trans {A B C : Hz} (h : Up A B) (k : Up B C) : Up A C := ⟨k.oth.trans h.oth, Nat.le_trans h.clock k.clock, fun p => Nat.le_trans (h.hd p) (k.hd p), fun p => Nat.le_trans (h.rc p) (k.rc p)⟩
theorem up_count (H : Hz) (p : Nat) : Up H (countZ H p) := by
  refine ⟨rfl, Nat.le_refl _, fun q => ?_, fun q => ?_⟩
  · show (H.mks q).hd ≤ (updM H.mks p { H.mks p with hd := nowH H p } q).hd
    by_cases e : q = p
    · subst e; rw [updM_at]; exact heardL_ge _ _ _ _
    · rw [updM_other _ _ _ _ e]; exact Nat.le_refl _
  · show (H.mks q).rc ≤ (updM H.mks p { H.mks p with hd := nowH H p } q).rc
    by_cases e : q = p
    · subst e; rw [updM_at]; exact Nat.le_refl _
    · rw [updM_other _ _ _ _ e]; exact Nat.le_refl _
theorem up_mark (H : Hz) (p : Nat) (m : Mk) (h1 : (H.mks p).hd ≤ m.hd) (h2 : (H.mks p).rc ≤ m.rc) : Up H (markZ H p m) := by
  refine ⟨rfl, Nat.le_refl _, fun q => ?_, fun q => ?_⟩
  · show _ ≤ (updM H.mks p m q).hd
    by_cases e : q = p
    · subst e; rw [updM_at]; exact h1
    · rw [updM_other _ _ _ _ e]; exact Nat.le_refl _
  · show _ ≤ (updM H.mks p m q).rc
    by_cases e : q = p
    · subst e; rw [updM_at]; exact h2
    · rw [updM_other _ _ _ _ e]; exact Nat.le_refl _
theorem up_see (H : Hz) (s : Nat) : Up H (seeZ H s) := ⟨rfl, Nat.le_max_left _ _, fun _ => Nat.le_refl _, fun _ => Nat.le_refl _⟩
theorem up_wait (H : Hz) (l : List Pm) : Up H { H with wait := l } := ⟨rfl, Nat.le_refl _, fun _ => Nat.le_refl _, fun _ => Nat.le_refl _⟩
theorem step_up (H : Hz) (a : ZA) (hc : H.clock < 18446744073709551616) : Up H (stepZ H a) := by
  refine stepZ_cases (Up H) H a ?_ ?_ ?_ ?_ ?_ (Up.refl _)
  · cases h : othZ H a.p with
    | false => rw [cameZ_no h]; exact Up.refl _
    | true => rw [cameZ_yes h]; exact ((up_see H a.st).trans (up_mark (seeZ H a.st) a.p.toNat ⟨max (H.mks a.p.toNat).hd a.st, (H.mks a.p.toNat).rc, a.seq⟩ (Nat.le_max_left _ _) (Nat.le_refl _))).trans (up_count _ _)
  · cases h : othZ H a.p with
    | false => rw [promZ_no h]; exact Up.refl _
    | true => rw [promZ_yes h]; exact ((up_see H a.st).trans (up_wait _ _)).trans (up_count _ _)
  · cases h : othZ H a.p with
    | false => rw [reachZ_no h]; exact Up.refl _
    | true => rw [reachZ_yes h]; exact up_mark _ _ _ (Nat.le_refl _) (Nat.le_max_left _ _)
  · exact ⟨rfl, by show H.clock ≤ min (H.clock + 1) 18446744073709551615; omega, fun _ => Nat.le_refl _, fun _ => Nat.le_refl _⟩
  · exact up_see _ _
theorem up_all {H H' : Hz} (h : Up H H') : allN H ≤ allN H' := leastN_mono (fun p _ hb => by rw [h.oth] at hb; exact hb) (fun p _ _ => h.hd p) h.clock
theorem up_safe {H H' : Hz} (h : Up H H') : safeN H ≤ safeN H' := leastN_mono (fun p _ hb => by rw [h.oth] at hb; exact hb) (fun p _ _ => h.rc p) (up_all h)

/-- What always holds. -/
structure Hz.ok (H : Hz) : Prop where
  o : H.oth < 18446744073709551616
  c : H.clock < 18446744073709551616
  h : ∀ p, (H.mks p).hd < 18446744073709551616
  r : ∀ p, (H.mks p).rc < 18446744073709551616
  n : ∀ p, (H.mks p).cm < 4294967296
  f0 : ∀ x ∈ H.wait, -9223372036854775808 ≤ x.frm
  f1 : ∀ x ∈ H.wait, x.frm ≤ 9223372036854775807
  s : ∀ x ∈ H.wait, x.st < 18446744073709551616
  q : ∀ x ∈ H.wait, x.sn < 4294967296
structure ZA.ok (a : ZA) : Prop where
  k0 : -9223372036854775808 ≤ a.kind
  k1 : a.kind ≤ 9223372036854775807
  p0 : -9223372036854775808 ≤ a.p
  p1 : a.p ≤ 9223372036854775807
  q : a.seq < 4294967296
  s : a.st < 18446744073709551616
theorem ok_new (me : Int) (s : Nat) : (newZ me s).ok :=
  ⟨but_lt _ _, by show 0 < _; decide, fun _ => by show 0 < _; decide, fun _ => by show 0 < _; decide, fun _ => by show 0 < _; decide, (fun x hx => by cases hx), (fun x hx => by cases hx), (fun x hx => by cases hx), (fun x hx => by cases hx)⟩
theorem ok_see {H : Hz} (h : H.ok) {s : Nat} (hs : s < 18446744073709551616) : (seeZ H s).ok := ⟨h.o, by show max H.clock s < _; have := h.c; omega, h.h, h.r, h.n, h.f0, h.f1, h.s, h.q⟩
theorem ok_stamp {H : Hz} (h : H.ok) : (stampZ H).ok := ⟨h.o, by show min (H.clock + 1) 18446744073709551615 < _; omega, h.h, h.r, h.n, h.f0, h.f1, h.s, h.q⟩
theorem ok_mark {H : Hz} (h : H.ok) (p : Nat) {m : Mk} (h1 : m.hd < 18446744073709551616) (h2 : m.rc < 18446744073709551616) (h3 : m.cm < 4294967296) : (markZ H p m).ok := by
  refine ⟨h.o, h.c, fun q => ?_, fun q => ?_, fun q => ?_, h.f0, h.f1, h.s, h.q⟩
  · show (updM H.mks p m q).hd < _
    by_cases e : q = p
    · subst e; rw [updM_at]; exact h1
    · rw [updM_other _ _ _ _ e]; exact h.h q
  · show (updM H.mks p m q).rc < _
    by_cases e : q = p
    · subst e; rw [updM_at]; exact h2
    · rw [updM_other _ _ _ _ e]; exact h.r q
  · show (updM H.mks p m q).cm < _
    by_cases e : q = p
    · subst e; rw [updM_at]; exact h3
    · rw [updM_other _ _ _ _ e]; exact h.n q
theorem ok_wait {H : Hz} (h : H.ok) (l : List Pm) (hl : ∀ x ∈ l, x ∈ H.wait ∨ (-9223372036854775808 ≤ x.frm ∧ x.frm ≤ 9223372036854775807 ∧ x.st < 18446744073709551616 ∧ x.sn < 4294967296)) : ({ H with wait := l } : Hz).ok := by
  refine ⟨h.o, h.c, h.h, h.r, h.n, fun x hx => ?_, fun x hx => ?_, fun x hx => ?_, fun x hx => ?_⟩
  all_goals rcases hl x hx with e | ⟨e1, e2, e3, e4⟩
  · exact h.f0 x e
  · exact e1
  · exact h.f1 x e
  · exact e2
  · exact h.s x e
  · exact e3
  · exact h.q x e
  · exact e4
theorem nowH_lt {H : Hz} (h : H.ok) (p : Nat) : nowH H p < 18446744073709551616 := heardL_lt _ _ _ _ h.s _ (h.h p)
theorem ok_count {H : Hz} (h : H.ok) (p : Nat) : (countZ H p).ok := by
  have := ok_wait (ok_mark h p (m := { H.mks p with hd := nowH H p }) (nowH_lt h p) (h.r p) (h.n p)) (H.wait.filter (fun a => !doneP (p : Int) (nowH H p) a)) fun x hx => .inl (List.mem_filter.1 hx).1
  exact this
theorem ok_step {H : Hz} (h : H.ok) {a : ZA} (ha : a.ok) : (stepZ H a).ok := by
  refine stepZ_cases Hz.ok H a ?_ ?_ ?_ (ok_stamp h) (ok_see h ha.s) h
  · cases ho : othZ H a.p with
    | false => rw [cameZ_no ho]; exact h
    | true =>
      rw [cameZ_yes ho]
      exact ok_count (ok_mark (ok_see h ha.s) a.p.toNat (m := ⟨max (H.mks a.p.toNat).hd a.st, (H.mks a.p.toNat).rc, a.seq⟩) (by show max (H.mks a.p.toNat).hd a.st < _; have := h.h a.p.toNat; have := ha.s; omega) (h.r _) ha.q) _
  · cases ho : othZ H a.p with
    | false => rw [promZ_no ho]; exact h
    | true =>
      rw [promZ_yes ho]
      refine ok_count (ok_wait (ok_see h ha.s) _ fun x hx => ?_) _
      rcases waitL_mem hx with e | rfl
      · exact .inl e
      · exact .inr ⟨ha.p0, ha.p1, ha.s, ha.q⟩
  · cases ho : othZ H a.p with
    | false => rw [reachZ_no ho]; exact h
    | true =>
      rw [reachZ_yes ho]
      exact ok_mark h a.p.toNat (m := ⟨(H.mks a.p.toNat).hd, max (H.mks a.p.toNat).rc a.st, (H.mks a.p.toNat).cm⟩) (h.h _) (by show max (H.mks a.p.toNat).rc a.st < _; have := h.r a.p.toNat; have := ha.s; omega) (h.n _)
theorem count_wait (H : Hz) (p : Nat) : (countZ H p).wait.length ≤ H.wait.length := List.length_filter_le _ _
theorem step_wait (H : Hz) (a : ZA) : (stepZ H a).wait.length ≤ H.wait.length + 1 := by
  refine stepZ_cases (fun X => X.wait.length ≤ H.wait.length + 1) H a ?_ ?_ ?_ (Nat.le_succ _) (Nat.le_succ _) (Nat.le_succ _)
  · cases ho : othZ H a.p with
    | false => rw [cameZ_no ho]; exact Nat.le_succ _
    | true => rw [cameZ_yes ho]; exact Nat.le_succ_of_le (count_wait _ _)
  · cases ho : othZ H a.p with
    | false => rw [promZ_no ho]; exact Nat.le_succ _
    | true => rw [promZ_yes ho]; exact Nat.le_trans (count_wait _ _) (waitL_length _ _)
  · cases ho : othZ H a.p with
    | false => rw [reachZ_no ho]; exact Nat.le_succ _
    | true => rw [reachZ_yes ho]; exact Nat.le_succ _
theorem run_wait : ∀ (l : List ZA) (H : Hz), (runZ H l).wait.length ≤ H.wait.length + l.length
  | [], H => Nat.le_refl _
  | a :: l, H => by
    have h1 := run_wait l (stepZ H a)
    have h2 := step_wait H a
    show (runZ (stepZ H a) l).wait.length ≤ H.wait.length + (l.length + 1)
    omega
theorem run_ok : ∀ (l : List ZA) {H : Hz}, H.ok → (∀ a ∈ l, a.ok) → (runZ H l).ok
  | [], _, h, _ => h
  | a :: l, _, h, ha => run_ok l (ok_step h (ha a List.mem_cons_self)) fun x hx => ha x (List.mem_cons_of_mem _ hx)
theorem othZ_iff (H : Hz) (p : Int) : othZ H p = true ↔ (0 ≤ p ∧ p < 64) ∧ H.oth.testBit p.toNat = true := by
  unfold othZ mem
  simp [and_assoc]
/-- The others play no part in what a step does but whether it is one of them. -/
def wideZ (H : Hz) (o : Nat) : Hz := { H with oth := o }
theorem wide_step (H : Hz) (o : Nat) (a : ZA) (h : a.kind < 3 → othZ (wideZ H o) a.p = othZ H a.p) : stepZ (wideZ H o) a = wideZ (stepZ H a) o := by
  unfold stepZ
  by_cases h0 : a.kind = 0
  · rw [if_pos h0, if_pos h0]
    have e := h (by omega)
    cases hb : othZ H a.p with
    | false => rw [cameZ_no (by rw [e]; exact hb), cameZ_no hb]
    | true => rw [cameZ_yes (by rw [e]; exact hb), cameZ_yes hb]; rfl
  rw [if_neg h0, if_neg h0]
  by_cases h1 : a.kind = 1
  · rw [if_pos h1, if_pos h1]
    have e := h (by omega)
    cases hb : othZ H a.p with
    | false => rw [promZ_no (by rw [e]; exact hb), promZ_no hb]
    | true => rw [promZ_yes (by rw [e]; exact hb), promZ_yes hb]; rfl
  rw [if_neg h1, if_neg h1]
  by_cases h2 : a.kind = 2
  · rw [if_pos h2, if_pos h2]
    have e := h (by omega)
    cases hb : othZ H a.p with
    | false => rw [reachZ_no (by rw [e]; exact hb), reachZ_no hb]
    | true => rw [reachZ_yes (by rw [e]; exact hb), reachZ_yes hb]; rfl
  rw [if_neg h2, if_neg h2]
  by_cases h3 : a.kind = 3
  · rw [if_pos h3, if_pos h3]; rfl
  rw [if_neg h3, if_neg h3]
  by_cases h4 : a.kind = 4
  · rw [if_pos h4, if_pos h4]; rfl
  rw [if_neg h4, if_neg h4]
theorem wide_all (H : Hz) (o : Nat) (h : ∀ p, p < 64 → H.oth.testBit p = true → o.testBit p = true) : allN (wideZ H o) ≤ allN H := leastN_mono h (fun _ _ _ => Nat.le_refl _) (Nat.le_refl _)
theorem wide_safe (H : Hz) (o : Nat) (h : ∀ p, p < 64 → H.oth.testBit p = true → o.testBit p = true) : safeN (wideZ H o) ≤ safeN H := leastN_mono h (fun _ _ _ => Nat.le_refl _) (wide_all H o h)
theorem step_oth (H : Hz) (a : ZA) : (stepZ H a).oth = H.oth := by
  refine stepZ_cases (fun X => X.oth = H.oth) H a ?_ ?_ ?_ rfl rfl rfl
  · unfold cameZ; split <;> rfl
  · unfold promZ; split <;> rfl
  · unfold reachZ; split <;> rfl
theorem wide_oth (s m : Nat) (p : Int) (h : mem (but m s) p = false) : othZ (wideZ (newZ 0 s) (but (any s m) (onl 0))) p = othZ (newZ 0 s) p := by
  unfold othZ wideZ newZ
  simp only
  by_cases hp : 0 ≤ p ∧ p < 64
  · obtain ⟨k, rfl⟩ := Int.eq_ofNat_of_zero_le hp.1
    have hk : k < 64 := by omega
    rw [mem_nat _ _ hk] at h
    rw [mem_nat _ _ hk, mem_nat _ _ hk]
    unfold but any at *
    rw [num_bit] at h
    rw [num_bit, num_bit, num_bit]
    simp only [hk, decide_true, Bool.true_and] at h ⊢
    cases hs : s.testBit k <;> cases hm : m.testBit k <;> simp_all
  · unfold mem
    have : (decide (0 ≤ p) && decide (p < 64)) = false := by
      cases hx : (decide (0 ≤ p) && decide (p < 64)) with
      | false => rfl
      | true => simp at hx; exact absurd hx hp
    simp only [this, Bool.false_and]
theorem wide_bits (s m : Nat) : ∀ p, p < 64 → (newZ 0 s).oth.testBit p = true → (but (any s m) (onl 0)).testBit p = true := by
  intro p hp h
  unfold newZ at h
  simp only at h
  unfold but any at *
  rw [num_bit] at h
  rw [num_bit, num_bit]
  simp only [hp, decide_true, Bool.true_and] at h ⊢
  simp at h
  simp [h]
end Go.Proofs.Ythgdiihibjnhoaa
