/- Layer 15: what the document's Keep gives up, by place: sound, closed, so just what PlMath calls given. -/
import Derived.Test.YtfocjcdfpnbkjaaPlRefF
set_option linter.unusedVariables false
set_option linter.unusedSimpArgs false
namespace Go.Proofs.Ytfocjcdfpnbkjaa
open Go.RowKit Go.Sort Go.Shelf Go.Maps

section
variable {f : Nat → Wh} {R : List Mg} {G G0 : List Bool}
/-- Whatever is marked is given up. -/
def Sound (f : Nat → Wh) (R : List Mg) (G : List Bool) : Prop := ∀ (i : Nat) (x : Mg), R[i]? = some x → G[i]? = some true → Given f R x
/-- Nothing is left to mark at this place. -/
def OkAt (f : Nat → Wh) (R : List Mg) (G : List Bool) (i : Nat) : Prop := ∀ x, R[i]? = some x → countsP f x → LostP f R G x → G[i]? = some true
def Closed (f : Nat → Wh) (R : List Mg) (G : List Bool) : Prop := ∀ i, OkAt f R G i
theorem lost_given (hs : Sound f R G) {m : Mg} (hm : m ∈ R) (hc : countsP f m) (hl : LostP f R G m) : Given f R m := by
  rcases hl with ⟨q, d, h1, h2⟩ | ⟨i, x, h1, h2, h3⟩
  · exact .deps m hm hc q d h1 h2
  · have hg := hs i x h1 h2
    rcases h3 with ⟨e, h⟩ | h
    · exact .same m x hm hc hg e h
    · exact .lean m x hm hc hg h
theorem set_get (G : List Bool) (k i : Nat) (h : (G.set k true)[i]? = some true) : i = k ∨ G[i]? = some true := by
  rw [List.getElem?_set] at h
  split at h
  · rename_i e; exact .inl e.symm
  · exact .inr h
theorem Sound.set (hs : Sound f R G) {k : Nat} {x : Mg} (hx : R[k]? = some x) (hc : countsP f x) (hl : LostP f R G x) : Sound f R (G.set k true) := fun i y hy hg => by
  rcases set_get G k i hg with e | hg
  · subst e; rw [hx] at hy; cases hy; exact lost_given hs (List.mem_of_getElem? hx) hc hl
  · exact hs i y hy hg
theorem Sound.start (n : Nat) : Sound f R (List.replicate n false) := fun i x _ hg => by
  have := List.mem_of_getElem? hg
  rw [List.mem_replicate] at this
  cases this.2
theorem given_marked (hc : Closed f R G) {m : Mg} (h : Given f R m) : ∀ i : Nat, R[i]? = some m → G[i]? = some true := by
  induction h with
  | deps m hm hcm q d hd hb => exact fun i hi => hc i m hi hcm (.inl ⟨q, d, hd, hb⟩)
  | same m x hm hcm hx h1 h2 ih =>
    intro i hi
    obtain ⟨j, hj⟩ := List.getElem?_of_mem hx.mem
    exact hc i m hi hcm (.inr ⟨j, x, hj, ih j hj, .inl ⟨h1, h2⟩⟩)
  | lean m x hm hcm hx h ih =>
    intro i hi
    obtain ⟨j, hj⟩ := List.getElem?_of_mem hx.mem
    exact hc i m hi hcm (.inr ⟨j, x, hj, ih j hj, .inr h⟩)
/-- How many are marked. -/
def cntT (G : List Bool) : Nat := G.countP id
theorem cntT_le (G : List Bool) : cntT G ≤ G.length := List.countP_le_length
theorem cntT_set : ∀ (G : List Bool) (k : Nat), G[k]? = some false → cntT (G.set k true) = cntT G + 1
  | [], k, h => by simp at h
  | b :: G, 0, h => by
    have : b = false := by simpa using h
    subst this
    simp [cntT]
  | b :: G, k + 1, h => by
    have := cntT_set G k (by simpa using h)
    unfold cntT at this ⊢
    rw [List.set_cons_succ, List.countP_cons, List.countP_cons, this]
    omega
theorem set_same (G : List Bool) (k : Nat) (h : G[k]? = some true) : G.set k true = G := by
  refine List.ext_getElem? fun i => ?_
  rw [List.getElem?_set]
  split
  · rename_i e; subst e; rw [h]; have := (List.getElem?_eq_some_iff.1 h).1; simp [this]
  · rfl
/-- Amid a round that began with G0. -/
def InSt (f : Nat → Wh) (R : List Mg) (G0 G : List Bool) (k : Nat) : Prop := (G = G0 ∧ ∀ i, i < k → OkAt f R G0 i) ∨ (cntT G0 < cntT G ∧ ¬ Closed f R G0)
theorem InSt.start : InSt f R G G 0 := .inl ⟨rfl, fun i hi => absurd hi (Nat.not_lt_zero _)⟩
theorem InSt.skip {k : Nat} {x : Mg} (h : InSt f R G0 G k) (hx : R[k]? = some x) (hn : ¬ (countsP f x ∧ LostP f R G x)) : InSt f R G0 G (k + 1) := by
  rcases h with ⟨e, h⟩ | h
  · subst e
    refine .inl ⟨rfl, fun i hi => ?_⟩
    by_cases e : i = k
    · subst e
      intro y hy hc hl
      rw [hx] at hy; cases hy
      exact absurd ⟨hc, hl⟩ hn
    · exact h i (by omega)
  · exact .inr h
theorem InSt.mark {k : Nat} {x : Mg} (h : InSt f R G0 G k) (hx : R[k]? = some x) (hc : countsP f x) (hl : LostP f R G x) (hk : k < G.length) : InSt f R G0 (G.set k true) (k + 1) := by
  obtain ⟨b, hb⟩ : ∃ b, G[k]? = some b := ⟨_, List.getElem?_eq_getElem hk⟩
  cases b with
  | true =>
    rw [set_same G k hb]
    rcases h with ⟨e, h⟩ | h
    · subst e
      refine .inl ⟨rfl, fun i hi => ?_⟩
      by_cases e : i = k
      · subst e; exact fun y hy _ _ => hb
      · exact h i (by omega)
    · exact .inr h
  | false =>
    have h1 := cntT_set G k hb
    rcases h with ⟨e, h⟩ | ⟨h, h2⟩
    · subst e
      refine .inr ⟨by omega, fun hcl => ?_⟩
      have := hcl k x hx hc hl
      rw [hb] at this
      cases this
    · exact .inr ⟨by omega, h2⟩
/-- A round more: nothing is left, or so many are marked. -/
theorem InSt.done {r : Nat} (h : InSt f R G0 G R.length) (h0 : Closed f R G0 ∨ r ≤ cntT G0) : Closed f R G ∨ r + 1 ≤ cntT G := by
  rcases h with ⟨e, h⟩ | ⟨h, h2⟩
  · subst e
    refine .inl fun i => ?_
    by_cases hi : i < R.length
    · exact h i hi
    · intro x hx
      rw [List.getElem?_eq_none (by omega)] at hx
      cases hx
  · exact .inr (by have := h0.resolve_left h2; omega)
theorem closed_end (h : Closed f R G ∨ R.length + 1 ≤ cntT G) (hl : G.length = R.length) : Closed f R G :=
  h.resolve_right (by have := cntT_le G; omega)
/-- What is kept, at a place. -/
theorem kept_at (hs : Sound f R G) (hc : Closed f R G) {k : Nat} {x : Mg} (hx : R[k]? = some x) (b : Bool) (hb : G[k]? = some b) : keptB f R x = (countsB f x && !b) := by
  cases hk : keptB f R x with
  | true =>
    obtain ⟨h1, h2⟩ := kept_iff.1 hk
    rw [countsB_iff.2 h1]
    cases b with
    | true => exact absurd (hs k x hx hb) h2
    | false => rfl
  | false =>
    cases hcb : countsB f x with
    | false => rfl
    | true =>
      cases b with
      | true => rfl
      | false =>
        exfalso
        have : keptB f R x = true := kept_iff.2 ⟨countsB_iff.1 hcb, fun hg => by
          have := given_marked hc hg k hx
          rw [hb] at this; cases this⟩
        rw [hk] at this; cases this
end
end Go.Proofs.Ytfocjcdfpnbkjaa
