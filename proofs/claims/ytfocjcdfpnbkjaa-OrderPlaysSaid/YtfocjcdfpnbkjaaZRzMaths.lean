/- The document's horizon: all that was told. Plain facts. -/
import Derived.Test.YtfocjcdfpnbkjaaZSetMaths
import Derived.Test.YtfocjcdfpnbkjaaZOrdOpens
set_option linter.unusedVariables false
set_option linter.unusedSimpArgs false
namespace Go.Proofs.Ytfocjcdfpnbkjaa

/-- What was told: 0 a message came, 1 a promise, 2 all was reached. -/
structure Td where
  kind : Int
  p : Int
  sq : Nat
  st : Nat
/-- What is known of it. -/
structure Td.ok (t : Td) : Prop where
  k : t.kind = 0 ∨ t.kind = 1 ∨ t.kind = 2
  p0 : 0 ≤ t.p
  p1 : t.p < 64
  sq : t.sq < 4294967296
  st : t.st < 18446744073709551616
/-- The number of the last that came. -/
def cameD (p : Int) (T : List Td) : Nat := T.foldl (fun c t => if t.p = p ∧ t.kind = 0 then t.sq else c) 0
theorem cameD_snoc (p : Int) (T : List Td) (t : Td) : cameD p (T ++ [t]) = if t.p = p ∧ t.kind = 0 then t.sq else cameD p T := by
  unfold cameD; rw [List.foldl_append]; rfl
/-- Did the promise at 'at' ever count? -/
def Cnt (T : List Td) (p : Int) (at_ : Nat) : Prop := ∃ i t a, T[i]? = some t ∧ T[at_]? = some a ∧ at_ ≤ i ∧ t.p = p ∧ t.kind < 2 ∧ a.sq ≤ cameD p (T.take (i + 1))
/-- How far p was heard, where so many came. -/
def hD (p : Int) (c : Nat) (T : List Td) : Nat := T.foldl (fun h t => if t.p = p ∧ (t.kind = 0 ∨ (t.kind = 1 ∧ t.sq ≤ c)) then max h t.st else h) 0
theorem hD_snoc (p : Int) (c : Nat) (T : List Td) (t : Td) : hD p c (T ++ [t]) = if t.p = p ∧ (t.kind = 0 ∨ (t.kind = 1 ∧ t.sq ≤ c)) then max (hD p c T) t.st else hD p c T := by
  unfold hD; rw [List.foldl_append]; rfl
/-- How far p reached. -/
def rD (p : Int) (T : List Td) : Nat := T.foldl (fun h t => if t.p = p ∧ t.kind = 2 then max h t.st else h) 0
theorem rD_snoc (p : Int) (T : List Td) (t : Td) : rD p (T ++ [t]) = if t.p = p ∧ t.kind = 2 then max (rD p T) t.st else rD p T := by
  unfold rD; rw [List.foldl_append]; rfl
def heardD (T : List Td) (p : Int) : Nat := hD p (cameD p T) T
def allD (oth clk : Nat) (T : List Td) : Nat := leastN oth (fun p => heardD T (p : Int)) clk
def safeD (oth clk : Nat) (T : List Td) : Nat := leastN oth (fun p => rD (p : Int) T) (allD oth clk T)
/-- A promise counts where as many came at the end. -/
def UpD (T : List Td) (p : Int) : Prop := ∀ (at_ : Nat) (a : Td), T[at_]? = some a → a.p = p → a.kind = 1 → (Cnt T p at_ ↔ a.sq ≤ cameD p T)
theorem take_snoc {T : List Td} {i : Nat} {t : Td} (h : T[i]? = some t) : T.take (i + 1) = T.take i ++ [t] := by rw [List.take_add_one, h]; rfl
theorem hD_lt (p : Int) (c B : Nat) : ∀ (T : List Td), (∀ t ∈ T, t.st < B) → 0 < B → hD p c T < B := by
  intro T hT hB
  unfold hD
  have : ∀ (L : List Td) (h : Nat), (∀ t ∈ L, t.st < B) → h < B → L.foldl (fun h t => if t.p = p ∧ (t.kind = 0 ∨ (t.kind = 1 ∧ t.sq ≤ c)) then max h t.st else h) h < B := by
    intro L
    induction L with
    | nil => intro h _ hh; exact hh
    | cons t L ih =>
      intro h hL hh
      rw [List.foldl_cons]
      refine ih _ (fun x hx => hL x (List.mem_cons_of_mem _ hx)) ?_
      have := hL t List.mem_cons_self
      split <;> omega
  exact this T 0 hT hB
theorem rD_lt (p : Int) (B : Nat) : ∀ (T : List Td), (∀ t ∈ T, t.st < B) → 0 < B → rD p T < B := by
  intro T hT hB
  unfold rD
  have : ∀ (L : List Td) (h : Nat), (∀ t ∈ L, t.st < B) → h < B → L.foldl (fun h t => if t.p = p ∧ t.kind = 2 then max h t.st else h) h < B := by
    intro L
    induction L with
    | nil => intro h _ hh; exact hh
    | cons t L ih =>
      intro h hL hh
      rw [List.foldl_cons]
      refine ih _ (fun x hx => hL x (List.mem_cons_of_mem _ hx)) ?_
      have := hL t List.mem_cons_self
      split <;> omega
  exact this T 0 hT hB
theorem cameD_lt (p : Int) (B : Nat) : ∀ (T : List Td), (∀ t ∈ T, t.sq < B) → 0 < B → cameD p T < B := by
  intro T hT hB
  unfold cameD
  have : ∀ (L : List Td) (h : Nat), (∀ t ∈ L, t.sq < B) → h < B → L.foldl (fun c t => if t.p = p ∧ t.kind = 0 then t.sq else c) h < B := by
    intro L
    induction L with
    | nil => intro h _ hh; exact hh
    | cons t L ih =>
      intro h hL hh
      rw [List.foldl_cons]
      refine ih _ (fun x hx => hL x (List.mem_cons_of_mem _ hx)) ?_
      have := hL t List.mem_cons_self
      split <;> omega
  exact this T 0 hT hB
/-- What came of p never falls: then a promise counts if as many came at the end. -/
def CmUp (T : List Td) (p : Int) : Prop := ∀ i j, i ≤ j → cameD p (T.take i) ≤ cameD p (T.take j)
theorem CmUp.upD {T : List Td} {p : Int} (h : CmUp T p) (hk : ∀ t ∈ T, t.ok) : UpD T p := by
  intro at_ a ha hp hk1
  have hlt := (List.getElem?_eq_some_iff.1 ha).1
  constructor
  · rintro ⟨i, t, a', h1, h2, h3, h4, h5, h6⟩
    rw [ha] at h2
    cases h2
    have h7 := h (i + 1) T.length (List.getElem?_eq_some_iff.1 h1).1
    rw [List.take_length] at h7
    omega
  · intro hc
    -- the last moment at which anything came of p at or behind the promise
    have key : ∀ k, at_ + 1 ≤ k → k ≤ T.length → ∃ i t, T[i]? = some t ∧ at_ ≤ i ∧ t.p = p ∧ t.kind < 2 ∧ cameD p (T.take (i + 1)) = cameD p (T.take k) := by
      intro k hk0
      induction k with
      | zero => omega
      | succ k ih =>
        intro hkl
        have hk2 : T[k]? = some T[k] := List.getElem?_eq_getElem (by omega)
        by_cases e : at_ = k
        · subst e
          exact ⟨at_, a, ha, Nat.le_refl _, hp, by omega, rfl⟩
        · obtain ⟨i, t, h1, h2, h3, h4, h5⟩ := ih (by omega) (by omega)
          by_cases hc2 : T[k].p = p ∧ T[k].kind = 0
          · exact ⟨k, T[k], hk2, by omega, hc2.1, by omega, rfl⟩
          · refine ⟨i, t, h1, h2, h3, h4, ?_⟩
            rw [h5, take_snoc hk2, cameD_snoc, if_neg hc2]
    obtain ⟨i, t, h1, h2, h3, h4, h5⟩ := key T.length hlt (Nat.le_refl _)
    rw [List.take_length] at h5
    exact ⟨i, t, a, h1, ha, h2, h3, h4, by omega⟩
end Go.Proofs.Ytfocjcdfpnbkjaa

/- The program's marks are what was told. Plain facts. -/
set_option linter.unusedVariables false
set_option linter.unusedSimpArgs false
namespace Go.Proofs.Ytfocjcdfpnbkjaa

theorem eq_of_le {m n : Nat} (h : ∀ B, m ≤ B ↔ n ≤ B) : m = n := Nat.le_antisymm ((h n).2 (Nat.le_refl _)) ((h m).1 (Nat.le_refl _))
theorem heardL_le (p : Int) (c : Nat) : ∀ (l : List Pm) (h B : Nat), heardL p c l h ≤ B ↔ h ≤ B ∧ ∀ a ∈ l, hits p c a = true → a.st ≤ B
  | [], h, B => by show h ≤ B ↔ _; simp
  | a :: l, h, B => by
    show heardL p c l (if hits p c a then max h a.st else h) ≤ B ↔ _
    rw [heardL_le p c l]
    constructor
    · rintro ⟨h1, h2⟩
      refine ⟨?_, fun x hx hh => ?_⟩
      · split at h1 <;> omega
      · rcases List.mem_cons.1 hx with e | e
        · subst e; rw [if_pos hh] at h1; omega
        · exact h2 x e hh
    · rintro ⟨h1, h2⟩
      refine ⟨?_, fun x hx hh => h2 x (List.mem_cons_of_mem _ hx) hh⟩
      split
      · rename_i hh
        have := h2 a List.mem_cons_self hh
        omega
      · exact h1
/-- Does what was told say that p was heard? -/
def tells (p : Int) (c : Nat) (t : Td) : Prop := t.p = p ∧ (t.kind = 0 ∨ (t.kind = 1 ∧ t.sq ≤ c))
theorem hD_le (p : Int) (c : Nat) (T : List Td) (B : Nat) : hD p c T ≤ B ↔ ∀ t ∈ T, tells p c t → t.st ≤ B := by
  have : ∀ (L : List Td) (h : Nat), L.foldl (fun h t => if t.p = p ∧ (t.kind = 0 ∨ (t.kind = 1 ∧ t.sq ≤ c)) then max h t.st else h) h ≤ B ↔ h ≤ B ∧ ∀ t ∈ L, tells p c t → t.st ≤ B := by
    intro L
    induction L with
    | nil => intro h; simp
    | cons t L ih =>
      intro h
      rw [List.foldl_cons, ih]
      constructor
      · rintro ⟨h1, h2⟩
        refine ⟨?_, fun x hx hh => ?_⟩
        · split at h1 <;> omega
        · rcases List.mem_cons.1 hx with e | e
          · subst e
            have hh2 : x.p = p ∧ (x.kind = 0 ∨ x.kind = 1 ∧ x.sq ≤ c) := hh
            rw [if_pos hh2] at h1; omega
          · exact h2 x e hh
      · rintro ⟨h1, h2⟩
        refine ⟨?_, fun x hx hh => h2 x (List.mem_cons_of_mem _ hx) hh⟩
        split
        · rename_i hh
          have := h2 t List.mem_cons_self hh
          omega
        · exact h1
  have h0 := this T 0
  unfold hD
  rw [h0]
  exact ⟨fun h => h.2, fun h => ⟨Nat.zero_le _, h⟩⟩
/-- The marks say what was told. -/
structure ZRel (H : Hz) (T : List Td) : Prop where
  tok : ∀ t ∈ T, t.ok
  up : ∀ p : Nat, p < 64 → CmUp T (p : Int)
  cm : ∀ p : Nat, p < 64 → H.oth.testBit p = true → (H.mks p).cm = cameD (p : Int) T
  rc : ∀ p : Nat, p < 64 → H.oth.testBit p = true → (H.mks p).rc = rD (p : Int) T
  hd : ∀ p : Nat, p < 64 → H.oth.testBit p = true → ∀ c, cameD (p : Int) T ≤ c → ∀ B, ((H.mks p).hd ≤ B ∧ ∀ a ∈ H.wait, hits (p : Int) c a = true → a.st ≤ B) ↔ ∀ t ∈ T, tells (p : Int) c t → t.st ≤ B
  at_ : ∀ p : Nat, p < 64 → H.oth.testBit p = true → ∀ a ∈ H.wait, hits (p : Int) (cameD (p : Int) T) a = true → a.st ≤ (H.mks p).hd
section
variable {H : Hz} {T : List Td}
theorem ZRel.heard (h : ZRel H T) (p : Nat) (hp : p < 64) (ho : H.oth.testBit p = true) : (H.mks p).hd = heardD T (p : Int) := by
  refine eq_of_le fun B => ?_
  unfold heardD
  rw [hD_le, ← h.hd p hp ho _ (Nat.le_refl _) B]
  exact ⟨fun hB => ⟨hB, fun a ha hh => Nat.le_trans (h.at_ p hp ho a ha hh) hB⟩, fun hB => hB.1⟩
theorem least_ext {o : Nat} {f g : Nat → Nat} {s : Nat} (h : ∀ p, p < 64 → o.testBit p = true → f p = g p) : leastN o f s = leastN o g s :=
  Nat.le_antisymm (leastN_mono (fun _ _ e => e) (fun p hp hb => Nat.le_of_eq (h p hp hb)) (Nat.le_refl _)) (leastN_mono (fun _ _ e => e) (fun p hp hb => Nat.le_of_eq (h p hp hb).symm) (Nat.le_refl _))
theorem ZRel.all (h : ZRel H T) : allN H = allD H.oth H.clock T := least_ext fun p hp hb => h.heard p hp hb
theorem ZRel.safe (h : ZRel H T) : safeN H = safeD H.oth H.clock T := by
  unfold safeN safeD
  rw [h.all]
  exact least_ext fun p hp hb => h.rc p hp hb
theorem ZRel.see (h : ZRel H T) (s : Nat) : ZRel (seeZ H s) T := ⟨h.tok, h.up, h.cm, h.rc, h.hd, h.at_⟩
theorem ZRel.start (o : Nat) : ZRel ⟨o, 0, fun _ => ⟨0, 0, 0⟩, []⟩ [] :=
  ⟨(fun t h => by cases h), (fun p _ i j _ => by simp), (fun _ _ _ => rfl), (fun _ _ _ => rfl), (fun p _ _ c _ B => ⟨fun _ t h => (by cases h), fun _ => ⟨Nat.zero_le _, fun a h => (by cases h)⟩⟩), (fun p _ _ a h => by cases h)⟩
theorem cmUp_snoc {p : Int} {t : Td} (h : CmUp T p) (ht : t.p = p ∧ t.kind = 0 → cameD p T ≤ t.sq) : CmUp (T ++ [t]) p := by
  intro i j hij
  have e : ∀ k, k ≤ T.length → (T ++ [t]).take k = T.take k := fun k hk => by rw [List.take_append_of_le_length hk]
  have hT := fun k => h k T.length
  rw [List.take_length] at hT
  by_cases hj : j ≤ T.length
  · rw [e j hj, e i (by omega)]; exact h i j hij
  · rw [List.take_of_length_le (by simp; omega : (T ++ [t]).length ≤ j), cameD_snoc]
    by_cases hi : i ≤ T.length
    · rw [e i hi]
      have h1 := hT i hi
      split
      · rename_i hh; exact Nat.le_trans h1 (ht hh)
      · exact h1
    · rw [List.take_of_length_le (by simp; omega : (T ++ [t]).length ≤ i), cameD_snoc]
      exact Nat.le_refl _
theorem cameD_other {p : Int} {t : Td} (ht : ¬ (t.p = p ∧ t.kind = 0)) : cameD p (T ++ [t]) = cameD p T := by rw [cameD_snoc, if_neg ht]
theorem rD_other {p : Int} {t : Td} (ht : ¬ (t.p = p ∧ t.kind = 2)) : rD p (T ++ [t]) = rD p T := by rw [rD_snoc, if_neg ht]
theorem tells_snoc {p : Int} {c B : Nat} {t : Td} : (∀ x ∈ T ++ [t], tells p c x → x.st ≤ B) ↔ (∀ x ∈ T, tells p c x → x.st ≤ B) ∧ (tells p c t → t.st ≤ B) := by
  constructor
  · exact fun h => ⟨fun x hx => h x (List.mem_append.2 (.inl hx)), h t (List.mem_append.2 (.inr (List.mem_singleton.2 rfl)))⟩
  · rintro ⟨h1, h2⟩ x hx
    rcases List.mem_append.1 hx with hx | hx
    · exact h1 x hx
    · rw [List.mem_singleton.1 hx]; exact h2
/-- All was reached by p. -/
theorem ZRel.reach (h : ZRel H T) (p : Nat) (hp : p < 64) (ho : H.oth.testBit p = true) (s : Nat) (hs : s < 18446744073709551616) : ZRel (reachZ H (p : Int) s) (T ++ [⟨2, (p : Int), 0, s⟩]) := by
  have hoth : othZ H (p : Int) = true := by unfold othZ; rw [mem_nat _ _ hp]; exact ho
  rw [reachZ_yes hoth, Int.toNat_natCast]
  have hnt : ∀ (q : Int) c, ¬ tells q c ⟨2, (p : Int), 0, s⟩ := fun q c e => by
    rcases e.2 with e | e
    · exact absurd (show (2 : Int) = 0 from e) (by decide)
    · exact absurd (show (2 : Int) = 1 from e.1) (by decide)
  have hcm : ∀ q : Int, cameD q (T ++ [⟨2, (p : Int), 0, s⟩]) = cameD q T := fun q => cameD_other fun e => absurd (show (2 : Int) = 0 from e.2) (by decide)
  refine ⟨fun t ht => ?_, fun q hq => cmUp_snoc (h.up q hq) fun e => absurd (show (2 : Int) = 0 from e.2) (by decide), fun q hq hb => ?_, fun q hq hb => ?_, fun q hq hb c hc B => ?_, fun q hq hb a ha hh => ?_⟩
  · rcases List.mem_append.1 ht with ht | ht
    · exact h.tok t ht
    · rw [List.mem_singleton.1 ht]
      exact ⟨.inr (.inr rfl), Int.natCast_nonneg p, show (p : Int) < 64 by omega, show 0 < 4294967296 by decide, hs⟩
  · rw [hcm]
    show (updM H.mks p _ q).cm = _
    by_cases e : q = p
    · subst e; rw [updM_at]; exact h.cm q hq hb
    · rw [updM_other _ _ _ _ e]; exact h.cm q hq hb
  · show (updM H.mks p _ q).rc = _
    rw [rD_snoc]
    by_cases e : q = p
    · subst e
      rw [updM_at, if_pos ⟨rfl, rfl⟩, ← h.rc q hq hb]
    · rw [updM_other _ _ _ _ e, if_neg (fun e2 => e (by have : (p : Int) = (q : Int) := e2.1; omega))]
      exact h.rc q hq hb
  · rw [tells_snoc]
    rw [hcm] at hc
    have h1 := h.hd q hq hb c hc B
    have h2 : (updM H.mks p ⟨(H.mks p).hd, max (H.mks p).rc s, (H.mks p).cm⟩ q).hd = (H.mks q).hd := by
      by_cases e : q = p
      · subst e; rw [updM_at]
      · rw [updM_other _ _ _ _ e]
    show (updM H.mks p _ q).hd ≤ B ∧ _ ↔ _
    rw [h2, and_iff_left (fun e => absurd e (hnt _ _))]
    exact h1
  · rw [hcm] at hh
    have h2 : (updM H.mks p ⟨(H.mks p).hd, max (H.mks p).rc s, (H.mks p).cm⟩ q).hd = (H.mks q).hd := by
      by_cases e : q = p
      · subst e; rw [updM_at]
      · rw [updM_other _ _ _ _ e]
    show a.st ≤ (updM H.mks p _ q).hd
    rw [h2]
    exact h.at_ q hq hb a ha hh
/-- After counting: of p's marks nothing is missing. -/
theorem count_rel {T' : List Td} {p : Nat} (hp : p < 64) (tok : ∀ t ∈ T', t.ok) (up : ∀ q : Nat, q < 64 → CmUp T' (q : Int)) (cm : ∀ q : Nat, q < 64 → H.oth.testBit q = true → (H.mks q).cm = cameD (q : Int) T') (rc : ∀ q : Nat, q < 64 → H.oth.testBit q = true → (H.mks q).rc = rD (q : Int) T')
    (hd : ∀ q : Nat, q < 64 → H.oth.testBit q = true → ∀ c, cameD (q : Int) T' ≤ c → ∀ B, ((H.mks q).hd ≤ B ∧ ∀ a ∈ H.wait, hits (q : Int) c a = true → a.st ≤ B) ↔ ∀ t ∈ T', tells (q : Int) c t → t.st ≤ B)
    (at_ : ∀ q : Nat, q < 64 → q ≠ p → H.oth.testBit q = true → ∀ a ∈ H.wait, hits (q : Int) (cameD (q : Int) T') a = true → a.st ≤ (H.mks q).hd) (ho : H.oth.testBit p = true) : ZRel (countZ H p) T' := by
  have hnow : ∀ B, nowH H p ≤ B ↔ (H.mks p).hd ≤ B ∧ ∀ a ∈ H.wait, hits (p : Int) (H.mks p).cm a = true → a.st ≤ B := fun B => heardL_le _ _ _ _ _
  have hge : (H.mks p).hd ≤ nowH H p := heardL_ge _ _ _ _
  refine ⟨tok, up, fun q hq hb => ?_, fun q hq hb => ?_, fun q hq hb c hc B => ?_, fun q hq hb a ha hh => ?_⟩
  · show (updM H.mks p _ q).cm = _
    by_cases e : q = p
    · subst e; rw [updM_at]; exact cm q hq hb
    · rw [updM_other _ _ _ _ e]; exact cm q hq hb
  · show (updM H.mks p _ q).rc = _
    by_cases e : q = p
    · subst e; rw [updM_at]; exact rc q hq hb
    · rw [updM_other _ _ _ _ e]; exact rc q hq hb
  · rw [← hd q hq hb c hc B]
    show (updM H.mks p _ q).hd ≤ B ∧ (∀ a ∈ H.wait.filter _, _) ↔ _
    by_cases e : q = p
    · subst e
      rw [updM_at]
      show nowH H q ≤ B ∧ _ ↔ _
      constructor
      · rintro ⟨h1, h2⟩
        refine ⟨Nat.le_trans hge h1, fun a ha hh => ?_⟩
        by_cases hdn : doneP (q : Int) (nowH H q) a = true
        · unfold doneP at hdn
          simp at hdn
          omega
        · exact h2 a (List.mem_filter.2 ⟨ha, by simpa using hdn⟩) hh
      · rintro ⟨h1, h2⟩
        refine ⟨(hnow B).2 ⟨h1, fun a ha hh => h2 a ha ?_⟩, fun a ha hh => h2 a (List.mem_filter.1 ha).1 hh⟩
        unfold hits at hh ⊢
        have := cm q hq hb
        simp at hh ⊢
        omega
    · rw [updM_other _ _ _ _ e]
      constructor
      · rintro ⟨h1, h2⟩
        refine ⟨h1, fun a ha hh => h2 a (List.mem_filter.2 ⟨ha, ?_⟩) hh⟩
        unfold hits at hh
        simp at hh
        have hf := hh.1
        unfold doneP
        rw [hf]
        simp
        omega
      · rintro ⟨h1, h2⟩
        exact ⟨h1, fun a ha hh => h2 a (List.mem_filter.1 ha).1 hh⟩
  · have ha' := (List.mem_filter.1 ha).1
    show a.st ≤ (updM H.mks p _ q).hd
    by_cases e : q = p
    · subst e
      rw [updM_at]
      show a.st ≤ nowH H q
      refine ((hnow _).1 (Nat.le_refl _)).2 a ha' ?_
      rw [cm q hq hb]; exact hh
    · rw [updM_other _ _ _ _ e]; exact at_ q hq e hb a ha' hh
/-- A message of p came. -/
theorem ZRel.came (h : ZRel H T) (p : Nat) (hp : p < 64) (ho : H.oth.testBit p = true) (q s : Nat) (hq : q < 4294967296) (hs : s < 18446744073709551616) (hup : cameD (p : Int) T ≤ q) : ZRel (cameZ H (p : Int) q s) (T ++ [⟨0, (p : Int), q, s⟩]) := by
  have hoth : othZ H (p : Int) = true := by unfold othZ; rw [mem_nat _ _ hp]; exact ho
  rw [cameZ_yes hoth, Int.toNat_natCast]
  have hcm : ∀ r : Nat, r ≠ p → cameD (r : Int) (T ++ [⟨0, (p : Int), q, s⟩]) = cameD (r : Int) T := fun r hr => cameD_other fun e => hr (by have : (p : Int) = (r : Int) := e.1; omega)
  have hcp : cameD (p : Int) (T ++ [⟨0, (p : Int), q, s⟩]) = q := by rw [cameD_snoc, if_pos ⟨rfl, rfl⟩]
  have hnt : ∀ (r : Nat) c, r ≠ p → ¬ tells (r : Int) c ⟨0, (p : Int), q, s⟩ := fun r c hr e => hr (by have : (p : Int) = (r : Int) := e.1; omega)
  refine count_rel (H := markZ (seeZ H s) p ⟨max (H.mks p).hd s, (H.mks p).rc, q⟩) hp (fun t ht => ?_) (fun r hr => cmUp_snoc (h.up r hr) fun e => ?_) (fun r hr hb => ?_) (fun r hr hb => ?_) (fun r hr hb c hc B => ?_) (fun r hr hrp hb a ha hh => ?_) ho
  · rcases List.mem_append.1 ht with ht | ht
    · exact h.tok t ht
    · rw [List.mem_singleton.1 ht]
      exact ⟨.inl rfl, Int.natCast_nonneg p, show (p : Int) < 64 by omega, hq, hs⟩
  · have : r = p := by have : (p : Int) = (r : Int) := e.1; omega
    subst this; exact hup
  · show (updM H.mks p _ r).cm = _
    by_cases e : r = p
    · subst e; rw [updM_at, hcp]
    · rw [updM_other _ _ _ _ e, hcm r e]; exact h.cm r hr hb
  · show (updM H.mks p _ r).rc = _
    rw [rD_other fun e => absurd (show (0 : Int) = 2 from e.2) (by decide)]
    by_cases e : r = p
    · subst e; rw [updM_at]; exact h.rc r hr hb
    · rw [updM_other _ _ _ _ e]; exact h.rc r hr hb
  · show (updM H.mks p _ r).hd ≤ B ∧ (∀ a ∈ H.wait, _) ↔ _
    rw [tells_snoc]
    by_cases e : r = p
    · subst e
      rw [hcp] at hc
      rw [updM_at]
      have h1 := h.hd r hr hb c (by omega) B
      have h2 : tells (r : Int) c ⟨0, (r : Int), q, s⟩ := ⟨rfl, .inl rfl⟩
      show max (H.mks r).hd s ≤ B ∧ _ ↔ _
      rw [← h1]
      constructor
      · rintro ⟨k1, k2⟩
        exact ⟨⟨by omega, k2⟩, fun _ => show s ≤ B by omega⟩
      · rintro ⟨⟨k1, k2⟩, k3⟩
        have k4 : s ≤ B := k3 h2
        exact ⟨by omega, k2⟩
    · rw [updM_other _ _ _ _ e, and_iff_left (fun e2 => absurd e2 (hnt r c e))]
      rw [hcm r e] at hc
      exact h.hd r hr hb c hc B
  · show a.st ≤ (updM H.mks p _ r).hd
    rw [updM_other _ _ _ _ hrp]
    rw [hcm r hrp] at hh
    exact h.at_ r hr hb a ha hh
/-- What waits says what it said, and what is promised. -/
theorem wait_le (l : List Pm) (n : Pm) (p : Int) (c B : Nat) : (∀ a ∈ waitL l n, hits p c a = true → a.st ≤ B) ↔ (∀ a ∈ l, hits p c a = true → a.st ≤ B) ∧ (hits p c n = true → n.st ≤ B) := by
  cases hc : l.any (fun a => coversP a n) with
  | true =>
    rw [waitL_yes hc]
    refine ⟨fun h => ⟨h, fun hn => ?_⟩, fun h => h.1⟩
    obtain ⟨b, hb, hcv⟩ := List.any_eq_true.1 hc
    unfold coversP at hcv
    simp at hcv
    have hh : hits p c b = true := by
      unfold hits at hn ⊢
      simp at hn ⊢
      omega
    have := h b hb hh
    omega
  | false =>
    rw [waitL_no hc]
    constructor
    · intro h
      refine ⟨fun a ha hh => ?_, fun hn => h n (List.mem_append.2 (.inr (List.mem_singleton.2 rfl))) hn⟩
      by_cases hcv : coversP n a = true
      · unfold coversP at hcv
        simp at hcv
        have hn : hits p c n = true := by
          unfold hits at hh ⊢
          simp at hh ⊢
          omega
        have := h n (List.mem_append.2 (.inr (List.mem_singleton.2 rfl))) hn
        omega
      · exact h a (List.mem_append.2 (.inl (List.mem_filter.2 ⟨ha, by simpa using hcv⟩))) hh
    · rintro ⟨h1, h2⟩ a ha hh
      rcases List.mem_append.1 ha with ha | ha
      · exact h1 a (List.mem_filter.1 ha).1 hh
      · rw [List.mem_singleton.1 ha] at hh ⊢; exact h2 hh
/-- p promised. -/
theorem ZRel.prom (h : ZRel H T) (p : Nat) (hp : p < 64) (ho : H.oth.testBit p = true) (s q : Nat) (hq : q < 4294967296) (hs : s < 18446744073709551616) : ZRel (promZ H (p : Int) s q) (T ++ [⟨1, (p : Int), q, s⟩]) := by
  have hoth : othZ H (p : Int) = true := by unfold othZ; rw [mem_nat _ _ hp]; exact ho
  rw [promZ_yes hoth, Int.toNat_natCast]
  have hcm : ∀ r : Int, cameD r (T ++ [⟨1, (p : Int), q, s⟩]) = cameD r T := fun r => cameD_other fun e => absurd (show (1 : Int) = 0 from e.2) (by decide)
  refine count_rel (H := { seeZ H s with wait := waitL H.wait ⟨(p : Int), s, q⟩ }) hp (fun t ht => ?_) (fun r hr => cmUp_snoc (h.up r hr) fun e => absurd (show (1 : Int) = 0 from e.2) (by decide)) (fun r hr hb => by rw [hcm]; exact h.cm r hr hb) (fun r hr hb => by rw [rD_other fun e => absurd (show (1 : Int) = 2 from e.2) (by decide)]; exact h.rc r hr hb) (fun r hr hb c hc B => ?_) (fun r hr hrp hb a ha hh => ?_) ho
  · rcases List.mem_append.1 ht with ht | ht
    · exact h.tok t ht
    · rw [List.mem_singleton.1 ht]
      exact ⟨.inr (.inl rfl), Int.natCast_nonneg p, show (p : Int) < 64 by omega, hq, hs⟩
  · rw [hcm] at hc
    show (H.mks r).hd ≤ B ∧ (∀ a ∈ waitL H.wait _, _) ↔ _
    rw [wait_le, tells_snoc, ← h.hd r hr hb c hc B, and_assoc]
    refine and_congr_right fun _ => and_congr_right fun _ => ?_
    unfold hits tells
    simp
  · rw [hcm] at hh
    rcases waitL_mem ha with e | e
    · exact h.at_ r hr hb a e hh
    · subst e
      unfold hits at hh
      simp at hh
      exact absurd hh.1.symm (by omega)
end
end Go.Proofs.Ytfocjcdfpnbkjaa

/- The document's horizon in memory; counts. (Written by gen_rz.py.) -/
set_option linter.unusedVariables false
set_option maxRecDepth 100000
set_option linter.unusedSimpArgs false
namespace Go.Proofs.Ytfocjcdfpnbkjaa
open Go.RowKit Go.Sort

def encD (t : Td) : List Value := [.int .i64 t.kind, .int .i64 t.p, .int .u32 (t.sq : Int), .int .u64 (t.st : Int)]
theorem encD_length (t : Td) : (encD t).length = 4 := rfl
def vB (b : Bool) : Value := .bool b
/-- The cells of the document's horizon: the clock, the others, all that was told. -/
def rzC (clk oth : Nat) (s : Sl) : List Value := .int .u64 (clk : Int) :: (rowF vB (fun p => oth.testBit p) ++ [s.v])
theorem rzC_length (clk oth : Nat) (s : Sl) : (rzC clk oth s).length = 66 := by unfold rzC; simp [rowF_length]
theorem rzC_oth (clk oth : Nat) (s : Sl) (p : Nat) (hp : p < 64) : (rzC clk oth s)[1 + p]? = some (.bool (oth.testBit p)) := by
  unfold rzC
  rw [show 1 + p = p + 1 by omega, List.getElem?_cons_succ, List.getElem?_append_left (by rw [rowF_length]; exact hp), rowF_at _ _ _ hp]; rfl
theorem rzC_all (clk oth : Nat) (s : Sl) : (rzC clk oth s)[65]? = some s.v := by
  unfold rzC
  rw [show (65 : Nat) = 64 + 1 from rfl, List.getElem?_cons_succ, List.getElem?_append_right (by rw [rowF_length]; exact Nat.le_refl _), rowF_length]; rfl
theorem rzC_one (clk oth : Nat) (s : Sl) : (rzC clk oth s).toArray.all (·.oneCell') = true := by simp [rzC, rowF, vB, Sl.v, Value.oneCell']
theorem rz_size : (Try.prog.info? 37).map (·.size) = some 66 := by kernel_rfl
/-- Its block. -/
def RzB (w : World) (b : Nat) (clk oth : Nat) (s : Sl) : Prop := Own w b 37 (rzC clk oth s).toArray
section
variable {w : World} {b clk oth : Nat} {s : Sl}
theorem RzB.own (h : RzB w b clk oth s) : Own w b 37 (rzC clk oth s).toArray := h
theorem RzB.lt (h : RzB w b clk oth s) : b < w.heap.size := h.own.lt
theorem RzB.new (w : World) (clk oth : Nat) (s : Sl) : RzB (w.alloc (.cells (rzC clk oth s).toArray 37)) w.heap.size clk oth s := Own.new w _ _
theorem RzB.below {w' : World} (h : RzB w b clk oth s) (hb : Below w.heap.size w w') : RzB w' b clk oth s := (hb.block b h.lt).trans h
theorem RzB.c0 (h : RzB w b clk oth s) : w.cell? ⟨b, 0, none⟩ = some (.int .u64 (clk : Int)) := h.own.at_ 0 _ rfl
theorem RzB.cp (h : RzB w b clk oth s) (p : Nat) (hp : p < 64) : w.cell? ⟨b, 1 + p, none⟩ = some (.bool (oth.testBit p)) := h.own.at_ _ _ (by rw [List.getElem?_toArray]; exact rzC_oth _ _ _ _ hp)
theorem RzB.c65 (h : RzB w b clk oth s) : w.cell? ⟨b, 65, none⟩ = some (.slice s.a s.n s.c) := h.own.at_ 65 _ (by rw [List.getElem?_toArray]; exact rzC_all _ _ _)
theorem RzB.free (h : RzB w b clk oth s) (j : Nat) : w.frozen? ⟨b, j, none⟩ = false := h.own.free j
end
theorem load_rz {ops : Array Oper} {rest : List Oper} {o : Oper} {A : Act} {w : World} {Q : Exit → Act → World → Prop} (hgd : o.guard = none) (x : Operand) (ho : o.op = .load 37 x)
    (b clk oth : Nat) (s : Sl) (hx : A.eval x = .pointer (some ⟨b, 0, none⟩)) (hg : RzB w b clk oth s) (h : wpList Try.prog ops Q rest (A.put o.dst (.agg (rzC clk oth s).toArray)) w) : wpList Try.prog ops Q (o :: rest) A w :=
  wpList_load_row hgd 37 x ho b hx 37 _ _ _ hg Try.underlying37 rfl (by rw [List.size_toArray, rzC_length]; exact rz_size) h
theorem store_rz {ops : Array Oper} {rest : List Oper} {o : Oper} {A : Act} {w : World} {Q : Exit → Act → World → Prop} (hgd : o.guard = none) (x y : Operand) (ho : o.op = .store 37 x y)
    (b clk oth : Nat) (s : Sl) (hx : A.eval x = .pointer (some ⟨b, 0, none⟩)) (hy : A.eval y = .agg (rzC clk oth s).toArray) {clk0 oth0 : Nat} {s0 : Sl} (hg : RzB w b clk0 oth0 s0)
    (h : wpList Try.prog ops Q rest (A.put o.dst undef) (w.setRow b (rzC clk oth s).toArray)) : wpList Try.prog ops Q (o :: rest) A w :=
  wpList_store_row hgd 37 x y ho b _ hx hy 37 _ hg (by rw [List.size_toArray, rzC_length]; exact rz_size) (by rw [List.size_toArray, List.size_toArray, rzC_length, rzC_length]) (rzC_one clk oth s) h
theorem results_rz {fn : Func} {p : Tmp} (h : fn.results = #[.cell p 37]) (tmps : Array Value) (w : World) (b clk oth : Nat) {s : Sl} (hp : tmps.getD p undef = .pointer (some ⟨b, 0, none⟩)) (hg : RzB w b clk oth s) :
    (results fn tmps).run Try.prog w = .ok (.agg (rzC clk oth s).toArray) w :=
  results_cell_row h tmps w b 37 _ (0, 0) _ hp hg Try.underlying37 rfl (by rw [List.size_toArray, rzC_length]; exact rz_size)
theorem lst_atD {w : World} {ao : Option Addr} {len : Nat} {l : List Td} (h : Lst encD 4 w ao len l) {i : Nat} (hi : i < len) :
    ∃ b o x, ao = some ⟨b, o, none⟩ ∧ l[i]? = some x ∧ ∀ c v, (encD x)[c]? = some v → w.cell? ⟨b, o + i * 4 + c, none⟩ = some v := by
  obtain ⟨b, o, e, hr⟩ := h.src (show 0 < len by omega)
  have hx : i < l.length := by rw [h.size]; exact hi
  exact ⟨b, o, l[i], e, List.getElem?_eq_getElem hx, hr i _ (List.getElem?_eq_getElem hx)⟩
/-- Up to i it did not count. -/
def NoC (T : List Td) (p : Int) (a : Nat) (A : Td) (i : Nat) : Prop := ∀ j t, j < i → T[j]? = some t → a ≤ j → t.p = p → t.kind < 2 → ¬ A.sq ≤ cameD p (T.take (j + 1))
theorem NoC.next {T : List Td} {p : Int} {a : Nat} {A : Td} {i : Nat} {t : Td} (h : NoC T p a A i) (ht : T[i]? = some t) (hn : a ≤ i → t.p = p → t.kind < 2 → ¬ A.sq ≤ cameD p (T.take (i + 1))) : NoC T p a A (i + 1) := by
  intro j x hj hx
  by_cases e : j = i
  · subst e
    rw [ht] at hx; cases hx
    exact hn
  · exact h j x (by omega) hx
set_option maxHeartbeats 4000000 in
theorem rz_counts (clk oth : Nat) (s : Sl) (T : List Td) (p : Int) (a : Nat) (w : World) (hl : Lst encD 4 w s.a s.n T) (hn : s.n ≤ 1000) (ha : a < s.n) (hk : ∀ t ∈ T, t.ok) :
    Calls Try.prog 147 #[.agg (rzC clk oth s).toArray, .int .i64 p, .int .i64 (a : Int)] w fun e w' => ∃ b, e = .returned (.bool b) ∧ (b = true ↔ Cnt T p a) ∧ Below w.heap.size w w' := by
  have c65 := (RzB.new w clk oth s).c65
  have HG := Lib.hid ((Grw.refl w).alloc (.cells (rzC clk oth s).toArray 37)).below
  have HL := Lib.hid (Lst.below hl HG.out)
  have HK := Lib.hid hk
  obtain ⟨sa, sn, sc⟩ := s
  simp only at c65 hn ha HL
  generalize (rzC clk oth ⟨sa, sn, sc⟩).toArray = C at *
  clear hl hk
  go_enter Try.func147, Try.ntmps147
  go_upto_region 1 with fail
  generalize w.alloc (.cells C 37) = W at *
  obtain ⟨hb, hhb⟩ : ∃ hb, hb = w.heap.size := ⟨_, rfl⟩
  rw [← hhb] at c65
  try rw [← hhb]
  clear hhb
  obtain ⟨lb, lo, A, rfl, hA, hAc⟩ := lst_atD HL.out ha
  have hA2 := hAc 2 _ rfl
  have HA := Lib.hid hA
  clear hAc hA
  obtain ⟨Ak, Ap, Aq, As⟩ := A
  simp only at hA2
  have HA2 := Lib.hid hA2
  have HC := Lib.hid c65
  clear hA2 c65
  go_wp2
  go_loopw [7, 8] (fun cv si wr => ∃ k : Nat, k ≤ sn ∧ si = .int .i64 k ∧ cv = .int .u32 (cameD p (T.take k) : Nat) ∧ Hid (Below W.heap.size W wr) ∧ Hid (NoC T p a ⟨Ak, Ap, Aq, As⟩ k)) (fun _ si _ => sn - (intOf si).toNat)
  case atStart => exact ⟨0, Nat.zero_le _, rfl, rfl, Lib.hid (Below.refl _ _), Lib.hid fun j t hj => absurd hj (Nat.not_lt_zero _)⟩
  case round =>
    obtain ⟨k, hk, rfl, rfl, HB, HN⟩ := hrel
    have c65 := cell_later HB.out HC.out
    have hA2 := cell_later HB.out HA2.out
    by_cases hlt : k < sn
    · obtain ⟨lb2, lo2, x, e2, hx, hc⟩ := lst_atD HL.out hlt
      obtain ⟨rfl, rfl⟩ : lb2 = lb ∧ lo2 = lo := by cases e2; exact ⟨rfl, rfl⟩
      have d0 := cell_later HB.out (hc 0 _ rfl)
      have d1 := cell_later HB.out (hc 1 _ rfl)
      have d2 := cell_later HB.out (hc 2 _ rfl)
      have d3 := cell_later HB.out (hc 3 _ rfl)
      rw [Nat.add_zero] at d0
      have hok := (HK.out x (List.mem_of_getElem? hx)).k
      have HT := Lib.hid (take_snoc hx)
      have HX := Lib.hid hx
      obtain ⟨c0, hc0⟩ : ∃ c0, c0 = cameD p (T.take k) := ⟨_, rfl⟩
      rw [← hc0]
      have HC0 := Lib.hid hc0
      obtain ⟨xk, xp, xq, xs⟩ := x
      simp only at d0 d1 d2 d3 hok
      have hBa := ((Grw.refl wr).alloc (.cells #[.int .i64 xk, .int .i64 xp, .int .u32 (xq : Int), .int .u64 (xs : Int)] 130)).below
      have HB2 := Lib.hid (HB.out.trans (hBa.mono HB.out.size))
      have f65 := cell_later hBa c65
      have fA2 := cell_later hBa hA2
      clear hc hx e2 hc0 hBa
      by_cases hp : xp = p
      · subst hp
        rcases hok with rfl | rfl | rfl
        · have HQ : Hid (cameD xp (T.take (k + 1)) = xq) := Lib.hid (by rw [HT.out, cameD_snoc, if_pos ⟨rfl, rfl⟩])
          by_cases hak : a ≤ k
          · have hak' : (a : Int) ≤ (k : Int) := by omega
            by_cases hle : Aq ≤ xq
            · have hle' : (Aq : Int) ≤ (xq : Int) := by omega
              go_wp2
              go_ret
              exact ⟨true, rfl, ⟨fun _ => ⟨k, _, _, HX.out, HA.out, hak, rfl, show (0 : Int) < 2 by decide, by rw [HQ.out]; exact hle⟩, fun _ => rfl⟩, HG.out.trans (HB2.out.mono HG.out.size)⟩
            · have hle' : ¬ (Aq : Int) ≤ (xq : Int) := by omega
              go_wp2
              go_roundw
              case rel => exact ⟨k + 1, by omega, by go_num, by rw [HQ.out], HB2, Lib.hid (HN.out.next HX.out fun _ _ _ => by rw [HQ.out]; exact hle)⟩
              case measure => simp [intOf]; omega
          · have hak' : ¬ (a : Int) ≤ (k : Int) := by omega
            go_wp2
            go_roundw
            case rel => exact ⟨k + 1, by omega, by go_num, by rw [HQ.out], HB2, Lib.hid (HN.out.next HX.out fun e => absurd e hak)⟩
            case measure => simp [intOf]; omega
        · have HQ : Hid (cameD xp (T.take (k + 1)) = c0) := Lib.hid (by rw [HT.out, cameD_snoc, if_neg (fun e => absurd (show (1 : Int) = 0 from e.2) (by decide)), HC0.out])
          by_cases hak : a ≤ k
          · have hak' : (a : Int) ≤ (k : Int) := by omega
            by_cases hle : Aq ≤ c0
            · have hle' : (Aq : Int) ≤ (c0 : Int) := by omega
              go_wp2
              go_ret
              exact ⟨true, rfl, ⟨fun _ => ⟨k, _, _, HX.out, HA.out, hak, rfl, show (1 : Int) < 2 by decide, by rw [HQ.out]; exact hle⟩, fun _ => rfl⟩, HG.out.trans (HB2.out.mono HG.out.size)⟩
            · have hle' : ¬ (Aq : Int) ≤ (c0 : Int) := by omega
              go_wp2
              go_roundw
              case rel => exact ⟨k + 1, by omega, by go_num, by rw [HQ.out], HB2, Lib.hid (HN.out.next HX.out fun _ _ _ => by rw [HQ.out]; exact hle)⟩
              case measure => simp [intOf]; omega
          · have hak' : ¬ (a : Int) ≤ (k : Int) := by omega
            go_wp2
            go_roundw
            case rel => exact ⟨k + 1, by omega, by go_num, by rw [HQ.out], HB2, Lib.hid (HN.out.next HX.out fun e => absurd e hak)⟩
            case measure => simp [intOf]; omega
        · have HQ : Hid (cameD xp (T.take (k + 1)) = c0) := Lib.hid (by rw [HT.out, cameD_snoc, if_neg (fun e => absurd (show (2 : Int) = 0 from e.2) (by decide)), HC0.out])
          by_cases hak : a ≤ k
          · have hak' : (a : Int) ≤ (k : Int) := by omega
            go_wp2
            go_roundw
            case rel => exact ⟨k + 1, by omega, by go_num, by rw [HQ.out], HB2, Lib.hid (HN.out.next HX.out fun _ _ e => absurd (show (2 : Int) < 2 from e) (by decide))⟩
            case measure => simp [intOf]; omega
          · have hak' : ¬ (a : Int) ≤ (k : Int) := by omega
            go_wp2
            go_roundw
            case rel => exact ⟨k + 1, by omega, by go_num, by rw [HQ.out], HB2, Lib.hid (HN.out.next HX.out fun e => absurd e hak)⟩
            case measure => simp [intOf]; omega
      · have HQ : Hid (cameD p (T.take (k + 1)) = c0) := Lib.hid (by rw [HT.out, cameD_snoc, if_neg (fun e => hp e.1), HC0.out])
        by_cases hak : a ≤ k
        · have hak' : (a : Int) ≤ (k : Int) := by omega
          go_wp2
          go_roundw
          case rel => exact ⟨k + 1, by omega, by go_num, by rw [HQ.out], HB2, Lib.hid (HN.out.next HX.out fun _ e => absurd e hp)⟩
          case measure => simp [intOf]; omega
        · have hak' : ¬ (a : Int) ≤ (k : Int) := by omega
          go_wp2
          go_roundw
          case rel => exact ⟨k + 1, by omega, by go_num, by rw [HQ.out], HB2, Lib.hid (HN.out.next HX.out fun _ e => absurd e hp)⟩
          case measure => simp [intOf]; omega
    · obtain rfl : k = sn := by omega
      have HF : Hid (¬ Cnt T p a) := Lib.hid (by
        rintro ⟨i, t, a', h1, h2, h3, h4, h5, h6⟩
        have hi := (List.getElem?_eq_some_iff.1 h1).1
        rw [HA.out] at h2
        cases h2
        exact HN.out i t (by rw [← HL.out.size]; exact hi) h1 h3 h4 h5 h6)
      obtain ⟨c0, hc0⟩ : ∃ c0, c0 = cameD p (T.take k) := ⟨_, rfl⟩
      rw [← hc0]
      clear hc0
      go_wp2
      go_ret
      exact ⟨false, rfl, ⟨fun e => Bool.noConfusion e, fun e => absurd e HF.out⟩, HG.out.trans (HB.out.mono HG.out.size)⟩
end Go.Proofs.Ytfocjcdfpnbkjaa
