/- A stream of messages by their numbers: plain facts, without the program. (Written ahead of stage 10's landing; sq: a message's number.) -/
import Derived.Lib.Hide
set_option linter.unusedVariables false
set_option linter.unusedSimpArgs false
namespace Go.Proofs.Ytcnfkjjfegjecaa

/-- Numbers within bounds, none twice: not more than the bounds have. -/
theorem nodup_len : ∀ (n : Nat) (l : List Nat) (a : Nat), l.Nodup → (∀ x ∈ l, a ≤ x ∧ x < a + n) → l.length ≤ n
  | 0, l, a, _, h => by
    cases l with
    | nil => exact Nat.le_refl _
    | cons x r => have := h x (List.mem_cons_self ..); omega
  | n + 1, l, a, hn, h => by
    by_cases hm : a + n ∈ l
    · have h1 := nodup_len n (l.erase (a + n)) a (hn.erase _) (fun x hx => by
        have h2 := (List.Nodup.mem_erase_iff hn).1 hx
        have h3 := h x h2.2
        have := h2.1
        omega)
      have := List.length_erase_of_mem hm
      omega
    · have h1 := nodup_len n l a hn (fun x hx => by
        have h3 := h x hx
        have : x ≠ a + n := fun e => hm (e ▸ hx)
        omega)
      omega

section
variable {α : Type} (sq : α → Nat)
/-- The held one of a number. -/
def getS (H : List α) (n : Nat) : Option α := H.find? fun m => sq m == n
def dropS (H : List α) (n : Nat) : List α := H.eraseP fun m => sq m == n
structure Sm (α : Type) where
  size : Nat
  count : Nat
  held : List α
structure SmInv (S : Sm α) : Prop where
  s1 : 1 ≤ S.size
  s2 : S.size ≤ 64
  nodup : (S.held.map sq).Nodup
  above : ∀ m ∈ S.held, S.count + 2 ≤ sq m
  most : ∀ m ∈ S.held, sq m ≤ S.count + S.size
theorem SmInv.few {S : Sm α} (h : SmInv sq S) : S.held.length ≤ 63 := by
  have := nodup_len (S.size - 1) (S.held.map sq) (S.count + 2) h.nodup (fun x hx => by
    obtain ⟨m, hm, rfl⟩ := List.mem_map.1 hx
    have h1 := h.above m hm
    have h2 := h.most m hm
    have h3 := h.s1
    omega)
  rw [List.length_map] at this
  have := h.s2
  omega

theorem getS_none (H : List α) (n : Nat) : getS sq H n = none ↔ ∀ m ∈ H, sq m ≠ n := by
  unfold getS
  rw [List.find?_eq_none]
  simp
theorem getS_some {H : List α} {n : Nat} {m : α} (h : getS sq H n = some m) : m ∈ H ∧ sq m = n := by
  unfold getS at h
  exact ⟨List.mem_of_find?_eq_some h, by have := List.find?_some h; simpa using this⟩
theorem getS_mem {H : List α} (hn : (H.map sq).Nodup) {m : α} (h : m ∈ H) : getS sq H (sq m) = some m := by
  induction H with
  | nil => cases h
  | cons x r ih =>
    unfold getS
    rw [List.find?_cons]
    rw [List.map_cons, List.nodup_cons] at hn
    rcases List.mem_cons.1 h with rfl | h'
    · simp
    · have : (sq x == sq m) = false := by
        simp only [beq_eq_false_iff_ne]
        intro e
        exact hn.1 (e ▸ List.mem_map_of_mem h')
      rw [this]
      exact ih hn.2 h'
theorem getS_append (H : List α) (m : α) (n : Nat) : getS sq (H ++ [m]) n = match getS sq H n with | some x => some x | none => if sq m = n then some m else none := by
  unfold getS
  rw [List.find?_append]
  cases h : H.find? (fun m => sq m == n) with
  | some x => rfl
  | none =>
    by_cases e : sq m = n
    · simp [e]
    · simp [e]
theorem dropS_mem {H : List α} (hn : (H.map sq).Nodup) (n : Nat) (m : α) : m ∈ dropS sq H n ↔ m ∈ H ∧ sq m ≠ n := by
  induction H with
  | nil => simp [dropS]
  | cons x r ih =>
    rw [List.map_cons, List.nodup_cons] at hn
    unfold dropS
    by_cases e : sq x = n
    · rw [List.eraseP_cons_of_pos (by simpa using e)]
      constructor
      · intro h
        refine ⟨List.mem_cons_of_mem _ h, fun e' => hn.1 ?_⟩
        rw [e, ← e']
        exact List.mem_map_of_mem h
      · rintro ⟨h, h'⟩
        rcases List.mem_cons.1 h with rfl | h2
        · exact absurd e h'
        · exact h2
    · rw [List.eraseP_cons_of_neg (by simpa using e), List.mem_cons, List.mem_cons]
      have := ih hn.2
      unfold dropS at this
      rw [this]
      constructor
      · rintro (rfl | ⟨h, h'⟩)
        · exact ⟨.inl rfl, e⟩
        · exact ⟨.inr h, h'⟩
      · rintro ⟨rfl | h, h'⟩
        · exact .inl rfl
        · exact .inr ⟨h, h'⟩
theorem dropS_nodup {H : List α} (hn : (H.map sq).Nodup) (n : Nat) : ((dropS sq H n).map sq).Nodup :=
  List.Nodup.sublist (List.Sublist.map sq List.eraseP_sublist) hn
theorem dropS_length {H : List α} {n : Nat} {m : α} (h : getS sq H n = some m) : (dropS sq H n).length + 1 = H.length := by
  obtain ⟨h1, h2⟩ := getS_some sq h
  unfold dropS
  rw [List.length_eraseP_of_mem h1 (by simpa using h2)]
  have := List.length_pos_of_mem h1
  omega
theorem getS_drop {H : List α} (hn : (H.map sq).Nodup) (n k : Nat) : getS sq (dropS sq H n) k = if k = n then none else getS sq H k := by
  split
  · rename_i e
    subst e
    rw [getS_none]
    intro m hm
    exact ((dropS_mem sq hn _ m).1 hm).2
  · rename_i e
    cases h : getS sq H k with
    | none =>
      rw [getS_none] at h ⊢
      intro m hm
      exact h m ((dropS_mem sq hn _ m).1 hm).1
    | some x =>
      obtain ⟨h1, h2⟩ := getS_some sq h
      have h3 : x ∈ dropS sq H n := (dropS_mem sq hn n x).2 ⟨h1, by rw [h2]; exact e⟩
      have := getS_mem sq (dropS_nodup sq hn n) h3
      rw [h2] at this
      exact this

/-- What goes on behind the count: the count, what is still held, what is answered. -/
def drainS : Nat → Nat → List α → Nat × List α × List α
  | 0, c, H => (c, H, [])
  | f + 1, c, H => match getS sq H (c + 1) with
    | none => (c, H, [])
    | some m => ((drainS f (c + 1) (dropS sq H (c + 1))).1, (drainS f (c + 1) (dropS sq H (c + 1))).2.1, m :: (drainS f (c + 1) (dropS sq H (c + 1))).2.2)
theorem drainS_some (f c : Nat) (H : List α) (m : α) (h : getS sq H (c + 1) = some m) :
    drainS sq (f + 1) c H = ((drainS sq f (c + 1) (dropS sq H (c + 1))).1, (drainS sq f (c + 1) (dropS sq H (c + 1))).2.1, m :: (drainS sq f (c + 1) (dropS sq H (c + 1))).2.2) := by
  rw [drainS, h]
theorem drainS_none (f c : Nat) (H : List α) (h : getS sq H (c + 1) = none) : drainS sq f c H = (c, H, []) := by
  cases f with
  | zero => rfl
  | succ f => rw [drainS, h]
/-- What a draining leaves. -/
structure Drained (c : Nat) (H : List α) (r : Nat × List α × List α) : Prop where
  count : r.1 = c + r.2.2.length
  seqs : ∀ i x, r.2.2[i]? = some x → sq x = c + 1 + i
  mem : ∀ x, x ∈ H ↔ x ∈ r.2.2 ∨ x ∈ r.2.1
  len : r.2.2.length + r.2.1.length = H.length
  nodup : (r.2.1.map sq).Nodup
  stop : getS sq r.2.1 (r.1 + 1) = none
  apart : ∀ x ∈ r.2.1, sq x ≤ c ∨ r.1 < sq x
theorem drainS_ok : ∀ (f c : Nat) (H : List α), (H.map sq).Nodup → H.length ≤ f → Drained sq c H (drainS sq f c H)
  | f, c, H, hn, hf => by
    cases hg : getS sq H (c + 1) with
    | none =>
      rw [drainS_none sq f c H hg]
      exact ⟨rfl, fun i x h => by simp at h, fun x => by simp, by simp, hn, hg, fun x _ => by show sq x ≤ c ∨ c < sq x; omega⟩
    | some m =>
      have hl := dropS_length sq hg
      match f, hf with
      | 0, hf => omega
      | f + 1, hf =>
        have ih := drainS_ok f (c + 1) (dropS sq H (c + 1)) (dropS_nodup sq hn _) (by omega)
        rw [drainS_some sq f c H m hg]
        generalize drainS sq f (c + 1) (dropS sq H (c + 1)) = r at ih
        obtain ⟨hm1, hm2⟩ := getS_some sq hg
        refine ⟨by rw [List.length_cons, ih.count]; omega, fun i x hx => ?_, fun x => ?_, by have := ih.len; simp only [List.length_cons]; omega, ih.nodup, ih.stop, fun x hx => ?_⟩
        · cases i with
          | zero => simp at hx; subst hx; exact hm2
          | succ i =>
            rw [List.getElem?_cons_succ] at hx
            have := ih.seqs i x hx
            omega
        · have h1 := ih.mem x
          rw [dropS_mem sq hn] at h1
          rw [List.mem_cons]
          constructor
          · intro hx
            by_cases e : sq x = c + 1
            · have := getS_mem sq hn hx
              rw [e, hg] at this
              injection this with this
              exact .inl (.inl this.symm)
            · rcases h1.1 ⟨hx, e⟩ with h2 | h2
              · exact .inl (.inr h2)
              · exact .inr h2
          · rintro ((rfl | h2) | h2)
            · exact hm1
            · exact (h1.2 (.inl h2)).1
            · exact (h1.2 (.inr h2)).1
        · have h1 := ((dropS_mem sq hn _ x).1 ((ih.mem x).2 (.inr hx))).2
          have h2 := ih.apart x hx
          show sq x ≤ c ∨ r.1 < sq x
          omega

/-- The answer's code: 0, 1 range, 6 full, 12 twice. -/
def codeS (S : Sm α) (m : α) : Nat := if sq m = 0 then 1 else if sq m ≤ S.count ∨ (getS sq S.held (sq m)).isSome = true then 12 else if S.count + S.size < sq m then 6 else 0
def drawnS (S : Sm α) (m : α) : Nat × List α × List α := drainS sq (S.held.length + 1) S.count (S.held ++ [m])
def takeS (S : Sm α) (m : α) : Sm α := if codeS sq S m = 0 then ⟨S.size, (drawnS sq S m).1, (drawnS sq S m).2.1⟩ else S
def outS (S : Sm α) (m : α) : List α := if codeS sq S m = 0 then (drawnS sq S m).2.2 else []
theorem codeS_zero {S : Sm α} {m : α} : codeS sq S m = 0 ↔ S.count < sq m ∧ sq m ≤ S.count + S.size ∧ getS sq S.held (sq m) = none := by
  unfold codeS
  by_cases h0 : sq m = 0
  · rw [if_pos h0]; constructor
    · intro h; cases h
    · rintro ⟨h, _⟩; omega
  · rw [if_neg h0]
    by_cases h1 : sq m ≤ S.count ∨ (getS sq S.held (sq m)).isSome = true
    · rw [if_pos h1]; constructor
      · intro h; cases h
      · rintro ⟨h, _, h'⟩
        rcases h1 with h1 | h1
        · omega
        · rw [h'] at h1; cases h1
    · rw [if_neg h1]
      have h2 : ¬ sq m ≤ S.count := fun e => h1 (.inl e)
      have h3 : getS sq S.held (sq m) = none := by
        cases h : getS sq S.held (sq m) with
        | none => rfl
        | some x => exact absurd (.inr (by rw [h]; rfl)) h1
      by_cases h4 : S.count + S.size < sq m
      · rw [if_pos h4]; constructor
        · intro h; cases h
        · rintro ⟨_, h, _⟩; omega
      · rw [if_neg h4]
        exact ⟨fun _ => ⟨by omega, by omega, h3⟩, fun _ => rfl⟩
theorem drawn_ok {S : Sm α} (h : SmInv sq S) {m : α} (hc : codeS sq S m = 0) : Drained sq S.count (S.held ++ [m]) (drawnS sq S m) := by
  obtain ⟨_, _, h3⟩ := (codeS_zero sq).1 hc
  refine drainS_ok sq _ _ _ ?_ (by simp)
  rw [List.map_append, List.nodup_append]
  refine ⟨h.nodup, by simp, fun a ha b hb e => ?_⟩
  obtain ⟨x, hx, rfl⟩ := List.mem_map.1 ha
  have hb : b = sq m := by simpa using hb
  exact ((getS_none sq _ _).1 h3) x hx (e.trans hb)
theorem take_inv {S : Sm α} (h : SmInv sq S) (m : α) : SmInv sq (takeS sq S m) := by
  unfold takeS
  split
  · rename_i hc
    have D := drawn_ok sq h hc
    obtain ⟨h1, h2, h3⟩ := (codeS_zero sq).1 hc
    generalize drawnS sq S m = r at D
    have hcnt := D.count
    have hall : ∀ x ∈ S.held ++ [m], S.count < sq x ∧ sq x ≤ S.count + S.size := fun x hx => by
      rcases List.mem_append.1 hx with h' | h'
      · have := h.above x h'; have := h.most x h'; omega
      · rw [List.mem_singleton.1 h']; omega
    have hlow : ∀ x ∈ r.2.1, r.1 < sq x := fun x hx => by
      have h1 := hall x ((D.mem x).2 (.inr hx))
      have h2 := D.apart x hx
      omega
    refine ⟨h.s1, h.s2, D.nodup, fun x hx => ?_, fun x hx => ?_⟩
    · show r.1 + 2 ≤ sq x
      have := hlow x hx
      have : sq x ≠ r.1 + 1 := (getS_none sq _ _).1 D.stop x hx
      omega
    · show sq x ≤ r.1 + S.size
      have := (hall x ((D.mem x).2 (.inr hx))).2
      omega
  · exact h
theorem new_inv (n : Int) : SmInv sq (⟨(if n < 1 then 1 else if 64 < n then 64 else n).toNat, 0, []⟩ : Sm α) := by
  refine ⟨?_, ?_, by simp, fun m hm => (by cases hm), fun m hm => (by cases hm)⟩
  all_goals
    show _ ≤ _
    simp only
    split
    · decide
    · split
      · decide
      · omega

/-- What was answered so far, of what was taken. -/
structure Ord (S : Sm α) (first all : List α) : Prop where
  inv : SmInv sq S
  count : S.count = all.length
  seqs : ∀ i x, all[i]? = some x → sq x = i + 1
  mem : ∀ x, (x ∈ all ∨ x ∈ S.held) → x ∈ first
  len : first.length = all.length + S.held.length
theorem Ord.step {S : Sm α} {first all : List α} (h : Ord sq S first all) (m : α) :
    Ord sq (takeS sq S m) (if codeS sq S m = 0 then first ++ [m] else first) (all ++ outS sq S m) := by
  have hi := take_inv sq h.inv m
  unfold takeS outS at *
  by_cases hc : codeS sq S m = 0
  · rw [if_pos hc] at hi ⊢
    rw [if_pos hc, if_pos hc]
    have D := drawn_ok sq h.inv hc
    generalize drawnS sq S m = r at *
    refine ⟨hi, ?_, fun i x hx => ?_, fun x hx => ?_, ?_⟩
    · show r.1 = _
      rw [D.count, List.length_append, h.count]
    · by_cases hl : i < all.length
      · rw [List.getElem?_append_left hl] at hx
        exact h.seqs i x hx
      · rw [List.getElem?_append_right (by omega)] at hx
        have := D.seqs _ x hx
        have := h.count
        omega
    · have h1 : ∀ y, y ∈ S.held ++ [m] → y ∈ first ++ [m] := fun y hy => by
        rcases List.mem_append.1 hy with h' | h'
        · exact List.mem_append_left _ (h.mem y (.inr h'))
        · exact List.mem_append_right _ h'
      rcases hx with hx | hx
      · rcases List.mem_append.1 hx with h' | h'
        · exact List.mem_append_left _ (h.mem x (.inl h'))
        · exact h1 x ((D.mem x).2 (.inl h'))
      · exact h1 x ((D.mem x).2 (.inr hx))
    · have := D.len
      have := h.len
      simp only [List.length_append, List.length_cons, List.length_nil] at *
      omega
  · rw [if_neg hc] at hi ⊢
    rw [if_neg hc, if_neg hc, List.append_nil]
    exact h

/-- Of the numbers from 1 to n just those of L weren't taken yet. -/
structure Whl (S : Sm α) (n : Nat) (L : List Nat) : Prop where
  inv : SmInv sq S
  big : S.size = 64
  n64 : n ≤ 64
  left : ∀ k, k ∈ L → 1 ≤ k ∧ k ≤ n ∧ S.count < k ∧ getS sq S.held k = none
  rest : ∀ k, 1 ≤ k → k ≤ n → k ∉ L → k ≤ S.count ∨ (getS sq S.held k).isSome = true
  held : ∀ m ∈ S.held, sq m ≤ n
  cnt : S.count ≤ n
theorem Whl.code {S : Sm α} {n : Nat} {L : List Nat} (h : Whl sq S n L) (m : α) (hm : sq m ∈ L) : codeS sq S m = 0 := by
  obtain ⟨h1, h2, h3, h4⟩ := h.left _ hm
  rw [codeS_zero]
  have := h.big
  have := h.n64
  exact ⟨h3, by omega, h4⟩
theorem Whl.step {S : Sm α} {n : Nat} {L L' : List Nat} (h : Whl sq S n L) (m : α) (hm : sq m ∈ L) (hL : ∀ k, k ∈ L' ↔ k ∈ L ∧ k ≠ sq m) : Whl sq (takeS sq S m) n L' := by
  have hc := h.code sq m hm
  have hi := take_inv sq h.inv m
  have D := drawn_ok sq h.inv hc
  obtain ⟨c1, c2, c3⟩ := (codeS_zero sq).1 hc
  obtain ⟨m1, m2, m3, m4⟩ := h.left _ hm
  unfold takeS at *
  rw [if_pos hc] at hi ⊢
  generalize drawnS sq S m = r at *
  have hin : ∀ x ∈ S.held ++ [m], sq x ≤ n ∧ S.count < sq x := fun x hx => by
    rcases List.mem_append.1 hx with h' | h'
    · have := h.inv.above x h'; exact ⟨h.held x h', by omega⟩
    · rw [List.mem_singleton.1 h']; exact ⟨m2, c1⟩
  have hout : ∀ x ∈ r.2.2, sq x ≤ r.1 := fun x hx => by
    obtain ⟨i, hi', rfl⟩ := List.mem_iff_getElem.1 hx
    have := D.seqs i _ (List.getElem?_eq_getElem hi')
    have := D.count
    omega
  refine ⟨hi, h.big, h.n64, fun k hk => ?_, fun k hk1 hk2 hk3 => ?_, fun x hx => (hin x ((D.mem x).2 (.inr hx))).1, ?_⟩
  · obtain ⟨hkL, hkm⟩ := (hL k).1 hk
    obtain ⟨k1, k2, k3, k4⟩ := h.left k hkL
    have hno : ∀ x ∈ S.held ++ [m], sq x ≠ k := fun x hx => by
      rcases List.mem_append.1 hx with h' | h'
      · exact (getS_none sq _ _).1 k4 x h'
      · rw [List.mem_singleton.1 h']; exact fun e => hkm e.symm
    refine ⟨k1, k2, ?_, (getS_none sq _ _).2 fun x hx => hno x ((D.mem x).2 (.inr hx))⟩
    show r.1 < k
    rcases Nat.lt_or_ge r.1 k with e | e
    · exact e
    · exfalso
      have hi' : k - S.count - 1 < r.2.2.length := by have := D.count; omega
      have hs := D.seqs _ _ (List.getElem?_eq_getElem hi')
      exact hno _ ((D.mem _).2 (.inl (List.getElem_mem hi'))) (by omega)
  · have hx : k ≤ S.count ∨ ∃ x ∈ S.held ++ [m], sq x = k := by
      by_cases e : k = sq m
      · exact .inr ⟨m, by simp, e.symm⟩
      · rcases h.rest k hk1 hk2 (fun hkL => hk3 ((hL k).2 ⟨hkL, e⟩)) with h' | h'
        · exact .inl h'
        · cases hg : getS sq S.held k with
          | none => rw [hg] at h'; cases h'
          | some x =>
            obtain ⟨g1, g2⟩ := getS_some sq hg
            exact .inr ⟨x, List.mem_append_left _ g1, g2⟩
    show k ≤ r.1 ∨ (getS sq r.2.1 k).isSome = true
    rcases hx with h' | ⟨x, hx, rfl⟩
    · have := D.count; exact .inl (by omega)
    · rcases (D.mem x).1 hx with h' | h'
      · exact .inl (hout x h')
      · exact .inr (by rw [getS_mem sq D.nodup h']; rfl)
  · show r.1 ≤ n
    rcases Nat.eq_zero_or_pos r.2.2.length with e | e
    · have := D.count; have := h.cnt; omega
    · have hi' : r.2.2.length - 1 < r.2.2.length := by omega
      have hs := D.seqs _ _ (List.getElem?_eq_getElem hi')
      have := (hin _ ((D.mem _).2 (.inl (List.getElem_mem hi')))).1
      have := D.count
      omega
/-- In the end all were answered, and nothing is held. -/
theorem Whl.done {S : Sm α} {n : Nat} (h : Whl sq S n []) : S.count = n ∧ S.held = [] := by
  have hc : n ≤ S.count := by
    rcases Nat.lt_or_ge S.count n with e | e
    · exfalso
      rcases h.rest (S.count + 1) (by omega) (by omega) (by simp) with h' | h'
      · omega
      · cases hg : getS sq S.held (S.count + 1) with
        | none => rw [hg] at h'; cases h'
        | some x =>
          obtain ⟨g1, g2⟩ := getS_some sq hg
          have := h.inv.above x g1
          omega
    · exact e
  have := h.cnt
  refine ⟨by omega, ?_⟩
  cases hh : S.held with
  | nil => rfl
  | cons x r =>
    exfalso
    have hx : x ∈ S.held := by rw [hh]; exact List.mem_cons_self ..
    have := h.inv.above x hx
    have := h.held x hx
    omega
end
end Go.Proofs.Ytcnfkjjfegjecaa
