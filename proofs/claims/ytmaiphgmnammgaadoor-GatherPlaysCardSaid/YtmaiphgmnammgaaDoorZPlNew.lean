/- Plans: New. -/
import Derived.Test.YtmaiphgmnammgaaDoorZPlFind
import Derived.Test.YtmaiphgmnammgaaDoorZKeyMaths
import Derived.Test.YtmaiphgmnammgaaDoorZSMaps
set_option linter.unusedVariables false
set_option maxRecDepth 100000
set_option linter.unusedSimpArgs false
namespace Go.Proofs.YtmaiphgmnammgaaDoor
open Go.RowKit Go.Sort Go.Shelf Go.Maps

/-! ### When are exchanges each of another process? -/
theorem cnt_or (f g : Nat → Bool) : cnt (fun p => f p || g p) ≤ cnt f + cnt g := by
  have := cnt_lin (fun p => f p || g p) (fun _ => false) f g fun x _ => by cases f x <;> cases g x <;> decide
  rw [cnt_none] at this; omega
theorem cnt_one (z : Int) : cnt (fun p => decide ((p : Int) = z)) ≤ 1 := by
  unfold cnt
  have key : ∀ l : List Nat, l.Nodup → l.countP (fun (p : Nat) => decide ((p : Int) = z)) ≤ 1 := by
    intro l
    induction l with
    | nil => intro _; simp
    | cons a l ih =>
      intro hn
      rw [List.nodup_cons] at hn
      rw [List.countP_cons]
      by_cases e : (a : Int) = z
      · have h0 : l.countP (fun (p : Nat) => decide ((p : Int) = z)) = 0 := by
          rw [List.countP_eq_zero]
          intro b hb hbz
          have : b = a := by have := of_decide_eq_true hbz; omega
          exact hn.1 (this ▸ hb)
        rw [h0, decide_eq_true e]; simp
      · rw [decide_eq_false e]
        have := ih hn.2
        simpa using this
  exact key _ List.nodup_range
theorem card_snoc (l : List Int) (z : Int) : card (ofl (l ++ [z])) ≤ card (ofl l) + (if 0 ≤ z ∧ z < 64 ∧ z ∉ l then 1 else 0) := by
  unfold ofl
  rw [card_num, card_num]
  by_cases h : 0 ≤ z ∧ z < 64 ∧ z ∉ l
  · rw [if_pos h]
    refine Nat.le_trans (Nat.le_of_eq (cnt_ext _ (fun p => l.contains (p : Int) || decide ((p : Int) = z)) fun i hi => ?_)) (Nat.le_trans (cnt_or _ _) (Nat.add_le_add (Nat.le_refl _) (cnt_one z)))
    simp [List.contains_eq_mem]
  · rw [if_neg h, Nat.add_zero]
    refine Nat.le_of_eq (cnt_ext _ _ fun i hi => ?_)
    by_cases e : (i : Int) = z
    · subst e
      have hm : (i : Int) ∈ l := Classical.byContradiction fun hn => h ⟨by omega, by omega, hn⟩
      simp [List.contains_eq_mem, hm]
    · simp [List.contains_eq_mem, e]
theorem card_len (l : List Int) : card (ofl l) ≤ l.length := by
  refine snoc_ind (P := fun l => card (ofl l) ≤ l.length) (by rw [ofl_nil, card_zero]; exact Nat.zero_le _) (fun l z ih => ?_) l
  have := card_snoc l z
  rw [List.length_append]
  simp only [List.length_singleton]
  split at this <;> omega
theorem card_full (l : List Int) : card (ofl l) = l.length ↔ (∀ z ∈ l, 0 ≤ z ∧ z < 64) ∧ l.Nodup := by
  refine snoc_ind (P := fun l => card (ofl l) = l.length ↔ (∀ z ∈ l, 0 ≤ z ∧ z < 64) ∧ l.Nodup) (by rw [ofl_nil, card_zero]; simp) (fun l z ih => ?_) l
  have h1 := card_snoc l z
  have h2 := card_len l
  have hl : (l ++ [z]).length = l.length + 1 := by simp
  rw [hl]
  constructor
  · intro h
    rw [h] at h1
    split at h1
    · rename_i hz
      have h3 : card (ofl l) = l.length := by omega
      obtain ⟨h4, h5⟩ := ih.1 h3
      refine ⟨fun y hy => ?_, ?_⟩
      · rcases List.mem_append.1 hy with hy | hy
        · exact h4 y hy
        · rw [List.mem_singleton.1 hy]; exact ⟨hz.1, hz.2.1⟩
      · rw [List.nodup_append]
        exact ⟨h5, by simp, fun a ha b hb e => by rw [List.mem_singleton.1 hb] at e; exact hz.2.2 (e ▸ ha)⟩
    · omega
  · rintro ⟨h3, h4⟩
    rw [List.nodup_append] at h4
    have hz := h3 z (by simp)
    have hnz : z ∉ l := fun hm => h4.2.2 z hm z (by simp) rfl
    have h5 := ih.2 ⟨fun y hy => h3 y (by simp [hy]), h4.1⟩
    -- the new one counts
    unfold ofl at h5 ⊢
    rw [card_num] at h5 ⊢
    have h6 := cnt_lin (fun p => l.contains (p : Int)) (fun p => decide ((p : Int) = z)) (fun p => (l ++ [z]).contains (p : Int)) (fun _ => false) fun x hx => by
      by_cases e : (x : Int) = z
      · subst e
        simp [List.contains_eq_mem, hnz]
      · simp [List.contains_eq_mem, e]
    rw [cnt_none, h5] at h6
    have h7 : 0 < cnt (fun p => decide ((p : Int) = z)) := by
      unfold cnt
      rw [List.countP_pos_iff]
      exact ⟨z.toNat, by rw [List.mem_range]; omega, by simp; omega⟩
    have h8 : cnt (fun p => (l ++ [z]).contains (p : Int)) ≤ l.length + 1 := by
      have := card_len (l ++ [z])
      unfold ofl at this
      rw [card_num, hl] at this
      exact this
    omega
theorem apart_iff {l : List Xg} : card (csL l) = l.length ↔ Apart l := by
  have h := card_full (l.map Xg.w)
  rw [List.length_map] at h
  constructor
  · intro e
    obtain ⟨h1, h2⟩ := h.1 e
    exact ⟨fun x hx => h1 x.w (List.mem_map_of_mem hx), h2⟩
  · rintro ⟨h1, h2⟩
    exact h.2 ⟨fun z hz => by obtain ⟨x, hx, rfl⟩ := List.mem_map.1 hz; exact h1 x hx, h2⟩
theorem csL_card (l : List Xg) : card (csL l) ≤ l.length := by
  have := card_len (l.map Xg.w)
  rw [List.length_map] at this
  exact this
/-- There is a plan of me. -/
structure HasPlan (l : List Xg) (me : Int) (y : Xg) : Prop where
  mem : y ∈ l
  me : y.w = me
  ap : Apart l

/-! ### Keys -/
theorem flatK_one {l : List K} : ∀ u ∈ flat encK12 l, u.oneCell' = true := by
  intro u hu
  unfold flat at hu
  obtain ⟨c, hc, huc⟩ := List.mem_flatten.1 hu
  obtain ⟨m, _, rfl⟩ := List.mem_map.1 hc
  simp only [encK12, List.mem_cons, List.not_mem_nil, or_false] at huc
  rcases huc with rfl | rfl <;> rfl
theorem encK12_length (k : K) : (encK12 k).length = 2 := rfl
theorem infoK : (Tryd.prog.info? 36).map (fun i => (i.zero, i.size, i.bytes)) = some (some (.agg #[.int .u64 0, .int .i64 0]), 2, 16) := by kernel_rfl
end Go.Proofs.YtmaiphgmnammgaaDoor
