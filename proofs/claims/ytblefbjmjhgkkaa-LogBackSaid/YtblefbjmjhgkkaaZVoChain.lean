/- Layer 18, plain: sessions of five processes; the views that are formed are a chain. -/
import Derived.Test.YtblefbjmjhgkkaaZVoMath
set_option linter.unusedVariables false
set_option maxRecDepth 100000
set_option linter.unusedSimpArgs false
namespace Go.Proofs.Ytblefbjmjhgkkaa

/-- A record with a view more that is pending, if there is room. -/
def addR (r : Rp) (v : Vw) : Rp := if 32 ≤ r.pend.length then r else ⟨r.last, r.pend ++ [v]⟩
/-- A record once the view is formed. -/
def formR (r : Rp) (v : Vw) : Rp := ⟨v, behindV r.pend v.n⟩
def first5 : Vw := ⟨0, 0, 0, below 5⟩
/-- The records of those who came, of the processes below k. -/
def toldV (m : Nat) (R : Nat → Rp) (k : Nat) : List Rp := ((List.range k).filter m.testBit).map R
theorem toldV_zero (m : Nat) (R : Nat → Rp) : toldV m R 0 = [] := rfl
theorem toldV_next (m : Nat) (R : Nat → Rp) (k : Nat) : toldV m R (k + 1) = if m.testBit k then toldV m R k ++ [R k] else toldV m R k := by
  unfold toldV
  rw [List.range_succ, List.filter_append]
  by_cases h : m.testBit k
  · simp [h]
  · simp [h]
theorem toldV_mem (m : Nat) (R : Nat → Rp) (k : Nat) (r : Rp) : r ∈ toldV m R k ↔ ∃ p, p < k ∧ m.testBit p = true ∧ R p = r := by
  unfold toldV
  simp [List.mem_map, List.mem_filter, and_assoc]
/-- What holds of the records and the chain of formed views (with the first one of all at its head). -/
structure Chn (R : Nat → Rp) (F : List Vw) (i : Nat) : Prop where
  head : F[0]? = some first5
  rise : ∀ (j : Nat) (x y : Vw), F[j]? = some x → F[j + 1]? = some y → x.n < y.n ∧ most y.m x.m = true
  known : ∀ x ∈ F, ∀ p, p < 5 → x.m.testBit p = true → x.n ≤ (R p).last.n ∨ x ∈ (R p).pend
  last : ∀ p, p < 5 → (R p).last ∈ F
  small : ∀ p, p < 5 → ∀ n ∈ numsR (R p), n ≤ i
  inn : ∀ x ∈ F, ∀ p, x.m.testBit p = true → p < 5
theorem Chn.rises {R : Nat → Rp} {F : List Vw} {i : Nat} (h : Chn R F i) (j d : Nat) (x y : Vw) (hx : F[j]? = some x) (hy : F[j + d]? = some y) : x.n + d ≤ y.n := by
  induction d generalizing y with
  | zero =>
    rw [Nat.add_zero, hx] at hy
    rw [Option.some.inj hy]; exact Nat.le_refl _
  | succ d ih =>
    have hl := (List.getElem?_eq_some_iff.1 hy).1
    have hz : F[j + d]? = some F[j + d] := List.getElem?_eq_getElem (by omega)
    have h1 := ih _ hz
    have h2 := (h.rise _ _ _ hz hy).1
    omega
/-- Who may has most of all that were formed since the last view that they know. -/
theorem Chn.most_of {R : Nat → Rp} {F : List Vw} {i : Nat} (h : Chn R F i) (m : Nat) (hm : mayV m (toldV m R 5) = true) :
    ∃ j0, F[j0]? = some (lastR (toldV m R 5)) ∧ ∀ (d : Nat) (x : Vw), F[j0 + d]? = some x → most m x.m = true := by
  have hM := (mayV_iff _ _).1 hm
  have hne : toldV m R 5 ≠ [] := by
    intro e
    rw [e, mayV_nil] at hm
    cases hm
  have hne' : (toldV m R 5).map Rp.last ≠ [] := by
    intro e
    exact hne (List.map_eq_nil_iff.1 e)
  have hl := lastV_mem _ hne'
  obtain ⟨r, hr, hrl⟩ := List.mem_map.1 hl
  obtain ⟨q, hq, hqm, rfl⟩ := (toldV_mem _ _ _ _).1 hr
  have hF : lastR (toldV m R 5) ∈ F := by
    unfold lastR
    rw [← hrl]
    exact h.last q hq
  obtain ⟨j0, hj0⟩ := List.getElem?_of_mem hF
  refine ⟨j0, hj0, fun d => ?_⟩
  induction d with
  | zero =>
    intro x hx
    rw [Nat.add_zero, hj0] at hx
    rw [← Option.some.inj hx]
    exact hM.1
  | succ d ih =>
    intro y hy
    have hlt := (List.getElem?_eq_some_iff.1 hy).1
    have hz : F[j0 + d]? = some F[j0 + d] := List.getElem?_eq_getElem (by omega)
    have hmz := ih _ hz
    obtain ⟨_, hyz⟩ := h.rise _ _ _ hz hy
    obtain ⟨p, hp, hpm, hpy, _⟩ := most_meet _ _ _ hmz hyz
    have hyF := List.mem_of_getElem? hy
    have hp5 := h.inn y hyF p hpy
    have hpt : R p ∈ toldV m R 5 := (toldV_mem _ _ _ _).2 ⟨p, hp5, hpm, rfl⟩
    have hup := h.rises j0 (d + 1) _ y hj0 hy
    rcases h.known y hyF p hp5 hpy with hk | hk
    · have h1 := lastV_max ((toldV m R 5).map Rp.last) (R p).last (List.mem_map.2 ⟨_, hpt, rfl⟩)
      have h2 : (lastV ((toldV m R 5).map Rp.last)).n = (lastR (toldV m R 5)).n := rfl
      omega
    · exact hM.2 y ((pendV_mem _ _).2 ⟨_, hpt, hk, by omega⟩)
/-- The newest of the chain: who may has most of it, and the next number is behind it. -/
theorem Chn.newest {R : Nat → Rp} {F : List Vw} {i : Nat} (h : Chn R F i) (hi : i ≤ 1000) (m : Nat) (hm : mayV m (toldV m R 5) = true) (y : Vw) (hy : F[F.length - 1]? = some y) :
    most m y.m = true ∧ y.n < nextV (toldV m R 5) ∧ nextV (toldV m R 5) ≤ i + 1 := by
  obtain ⟨j0, hj0, hd⟩ := h.most_of m hm
  have hlt := (List.getElem?_eq_some_iff.1 hj0).1
  have hmy : most m y.m = true := hd (F.length - 1 - j0) y (by rw [show j0 + (F.length - 1 - j0) = F.length - 1 by omega]; exact hy)
  have hmx : mxN (numsV (toldV m R 5)) < i + 1 := mxN_lt _ _ (by omega) fun n hn => by
    obtain ⟨r, hr, hn⟩ := (numsV_mem _ _).1 hn
    obtain ⟨q, hq, hqm, rfl⟩ := (toldV_mem _ _ _ _).1 hr
    have := h.small q hq n (by
      unfold numsR
      rcases hn with rfl | ⟨v, hv, rfl⟩
      · exact List.mem_cons_self ..
      · exact List.mem_cons_of_mem _ (List.mem_map.2 ⟨v, hv, rfl⟩))
    omega
  have hup : upN (mxN (numsV (toldV m R 5))) = mxN (numsV (toldV m R 5)) + 1 := by
    unfold upN
    rw [if_neg (by omega)]
  refine ⟨hmy, ?_, by unfold nextV; omega⟩
  obtain ⟨p, hp, hpm, _, hpy⟩ := most_meet m m y.m hmy hmy
  have hyF := List.mem_of_getElem? hy
  have hp5 := h.inn y hyF p hpy
  have hpt : R p ∈ toldV m R 5 := (toldV_mem _ _ _ _).2 ⟨p, hp5, hpm, rfl⟩
  have : y.n ≤ mxN (numsV (toldV m R 5)) := by
    rcases h.known y hyF p hp5 hpy with hk | hk
    · have := mxN_le _ _ ((numsV_mem (toldV m R 5) (R p).last.n).2 ⟨_, hpt, .inl rfl⟩)
      omega
    · exact mxN_le _ _ ((numsV_mem (toldV m R 5) y.n).2 ⟨_, hpt, .inr ⟨y, hk, rfl⟩⟩)
  unfold nextV
  omega
theorem Chn.up {R : Nat → Rp} {F : List Vw} {i k : Nat} (h : Chn R F i) (hk : i ≤ k) : Chn R F k :=
  ⟨h.head, h.rise, h.known, h.last, fun p hp n hn => Nat.le_trans (h.small p hp n hn) hk, h.inn⟩
/-- Some wrote the view down. -/
theorem Chn.wrote {R R' : Nat → Rp} {F : List Vw} {i : Nat} (h : Chn R F i) (v : Vw) (hv : v.n ≤ i + 1) (hR : ∀ p, p < 5 → R' p = R p ∨ R' p = ⟨(R p).last, (R p).pend ++ [v]⟩) : Chn R' F (i + 1) where
  head := h.head
  rise := h.rise
  known x hx p hp hxp := by
    rcases hR p hp with e | e
    · rw [e]; exact h.known x hx p hp hxp
    · rw [e]
      rcases h.known x hx p hp hxp with hk | hk
      · exact .inl hk
      · exact .inr (List.mem_append_left _ hk)
  last p hp := by
    rcases hR p hp with e | e
    · rw [e]; exact h.last p hp
    · rw [e]; exact h.last p hp
  small p hp n hn := by
    rcases hR p hp with e | e
    · rw [e] at hn
      have := h.small p hp n hn
      omega
    · rw [e] at hn
      unfold numsR at hn
      simp only [List.map_append, List.mem_cons, List.mem_append, List.map_cons, List.map_nil, List.not_mem_nil, or_false] at hn
      rcases hn with hn | hn | hn
      · have := h.small p hp n (by unfold numsR; rw [hn]; exact List.mem_cons_self ..)
        omega
      · have := h.small p hp n (by unfold numsR; exact List.mem_cons_of_mem _ hn)
        omega
      · omega
  inn := h.inn
/-- All wrote it down, and some formed it. -/
theorem Chn.formed {R R' : Nat → Rp} {F : List Vw} {i : Nat} (h : Chn R F i) (v y : Vw) (hy : F[F.length - 1]? = some y) (hv : v.n ≤ i + 1) (hn : y.n < v.n) (hm : most v.m y.m = true) (h5 : ∀ p, v.m.testBit p = true → p < 5)
    (hR : ∀ p, p < 5 → v.m.testBit p = false → R' p = R p)
    (hA : ∀ p, p < 5 → v.m.testBit p = true → R' p = ⟨(R p).last, (R p).pend ++ [v]⟩ ∨ R' p = formR ⟨(R p).last, (R p).pend ++ [v]⟩ v) : Chn R' (F ++ [v]) (i + 1) := by
  have hlen := (List.getElem?_eq_some_iff.1 hy).1
  have hbelow : ∀ x ∈ F, x.n < v.n := fun x hx => by
    obtain ⟨j, hj⟩ := List.getElem?_of_mem hx
    have hjl := (List.getElem?_eq_some_iff.1 hj).1
    have := h.rises j (F.length - 1 - j) x y hj (by rw [show j + (F.length - 1 - j) = F.length - 1 by omega]; exact hy)
    omega
  refine ⟨?_, ?_, ?_, ?_, ?_, ?_⟩
  · rw [List.getElem?_append_left (by omega)]; exact h.head
  · intro j a b ha hb
    have hbl := (List.getElem?_eq_some_iff.1 hb).1
    rw [List.length_append] at hbl
    simp only [List.length_cons, List.length_nil] at hbl
    rw [List.getElem?_append_left (by omega)] at ha
    by_cases hj : j + 1 < F.length
    · rw [List.getElem?_append_left hj] at hb
      exact h.rise j a b ha hb
    · have e : j = F.length - 1 := by omega
      subst e
      rw [hy] at ha
      have ha := Option.some.inj ha
      rw [show F.length - 1 + 1 = F.length by omega, List.getElem?_append_right (Nat.le_refl _), Nat.sub_self] at hb
      have hb : v = b := Option.some.inj hb
      subst ha hb
      exact ⟨hn, hm⟩
  · intro x hx p hp hxp
    rcases List.mem_append.1 hx with hx | hx
    · cases hvp : v.m.testBit p with
      | false => rw [hR p hp hvp]; exact h.known x hx p hp hxp
      | true =>
        rcases hA p hp hvp with e | e
        · rw [e]
          rcases h.known x hx p hp hxp with hk | hk
          · exact .inl hk
          · exact .inr (List.mem_append_left _ hk)
        · rw [e]
          exact .inl (Nat.le_of_lt (hbelow x hx))
    · simp only [List.mem_cons, List.not_mem_nil, or_false] at hx
      subst hx
      rcases hA p hp hxp with e | e
      · rw [e]; exact .inr (by simp)
      · rw [e]; exact .inl (Nat.le_refl _)
  · intro p hp
    cases hvp : v.m.testBit p with
    | false => rw [hR p hp hvp]; exact List.mem_append_left _ (h.last p hp)
    | true =>
      rcases hA p hp hvp with e | e
      · rw [e]; exact List.mem_append_left _ (h.last p hp)
      · rw [e]; exact List.mem_append_right _ (by unfold formR; simp)
  · intro p hp n hnn
    have base : ∀ n ∈ numsR ⟨(R p).last, (R p).pend ++ [v]⟩, n ≤ i + 1 := fun n hn => by
      unfold numsR at hn
      simp only [List.map_append, List.mem_cons, List.mem_append, List.map_cons, List.map_nil, List.not_mem_nil, or_false] at hn
      rcases hn with hn | hn | hn
      · have := h.small p hp n (by unfold numsR; rw [hn]; exact List.mem_cons_self ..)
        omega
      · have := h.small p hp n (by unfold numsR; exact List.mem_cons_of_mem _ hn)
        omega
      · omega
    cases hvp : v.m.testBit p with
    | false =>
      rw [hR p hp hvp] at hnn
      have := h.small p hp n hnn
      omega
    | true =>
      rcases hA p hp hvp with e | e
      · rw [e] at hnn; exact base n hnn
      · rw [e] at hnn
        unfold numsR formR at hnn
        rcases List.mem_cons.1 hnn with hq | hq
        · rw [hq]; exact hv
        · obtain ⟨z, hz, rfl⟩ := List.mem_map.1 hq
          exact base _ (by unfold numsR; exact List.mem_cons_of_mem _ (List.mem_map.2 ⟨z, ((behindV_mem _ _ _).1 hz).1, rfl⟩))
  · intro x hx p hxp
    rcases List.mem_append.1 hx with hx | hx
    · exact h.inn x hx p hxp
    · simp only [List.mem_cons, List.not_mem_nil, or_false] at hx
      subst hx
      exact h5 p hxp
theorem Chn.start (R : Nat → Rp) (hR : ∀ p, p < 5 → R p = ⟨first5, []⟩) : Chn R [first5] 0 where
  head := rfl
  rise j x y hx hy := by simp at hy
  known x hx p hp hxp := by
    simp only [List.mem_cons, List.not_mem_nil, or_false] at hx
    subst hx
    rw [hR p hp]
    exact .inl (Nat.le_refl _)
  last p hp := by rw [hR p hp]; exact List.mem_cons_self ..
  small p hp n hn := by
    rw [hR p hp] at hn
    unfold numsR at hn
    simp only [List.map_nil, List.mem_cons, List.not_mem_nil, or_false] at hn
    rw [hn]
    exact Nat.le_refl _
  inn x hx p hxp := by
    simp only [List.mem_cons, List.not_mem_nil, or_false] at hx
    subst hx
    unfold first5 below at hxp
    rw [num_bit] at hxp
    simp at hxp
    omega
end Go.Proofs.Ytblefbjmjhgkkaa
