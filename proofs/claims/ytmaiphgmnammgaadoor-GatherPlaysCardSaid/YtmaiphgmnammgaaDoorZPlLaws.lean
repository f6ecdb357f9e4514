/- Layer 15: plain facts for the laws. -/
import Derived.Test.YtmaiphgmnammgaaDoorZPlFew
set_option linter.unusedVariables false
set_option maxRecDepth 100000
set_option linter.unusedSimpArgs false
namespace Go.Proofs.YtmaiphgmnammgaaDoor
open Go.RowKit Go.Sort Go.Shelf Go.Maps

theorem csL_bit (C : List Xg) (k : Nat) (hk : k < 64) : (csL C).testBit k = true ↔ ∃ x ∈ C, x.w = (k : Int) := by
  unfold csL ofl
  rw [num_bit]
  simp [hk, List.contains_eq_mem]
theorem csL_mem (C : List Xg) (z : Int) : mem (csL C) z = true ↔ 0 ≤ z ∧ z < 64 ∧ ∃ x ∈ C, x.w = z := by
  by_cases h0 : 0 ≤ z
  · obtain ⟨k, rfl⟩ := Int.eq_ofNat_of_zero_le h0
    by_cases hk : k < 64
    · rw [mem_nat _ _ hk, csL_bit C k hk]
      constructor
      · intro h; exact ⟨h0, by omega, h⟩
      · intro h; exact h.2.2
    · unfold mem
      rw [decide_eq_false (show ¬ (k : Int) < 64 by omega)]
      simp
      omega
  · unfold mem
    rw [decide_eq_false h0]
    simp
    intro h; exact absurd h h0
theorem Apart.one {l : List Xg} (h : Apart l) {x y : Xg} (hx : x ∈ l) (hy : y ∈ l) (e : x.w = y.w) : x = y := by
  have hn := h.nd
  clear h
  induction l with
  | nil => cases hx
  | cons a l ih =>
    rw [List.map_cons, List.nodup_cons] at hn
    rcases List.mem_cons.1 hx with e1 | hx1
    · rcases List.mem_cons.1 hy with e2 | hy1
      · rw [e1, e2]
      · exact absurd (List.mem_map.2 ⟨y, hy1, by rw [← e, e1]⟩) hn.1
    · rcases List.mem_cons.1 hy with e2 | hy1
      · exact absurd (List.mem_map.2 ⟨x, hx1, by rw [e, e2]⟩) hn.1
      · exact ih hx1 hy1 hn.2
theorem sameOld_iff {x y : Xg} : sameOld x y = true ↔ x.oe = y.oe ∧ x.op = y.op := by unfold sameOld; simp
theorem comp_same {l : List Xg} {x y : Xg} (h : sameOld x y = true) : compL x l = compL y l := by
  obtain ⟨h1, h2⟩ := sameOld_iff.1 h
  unfold compL
  refine List.filter_congr fun z _ => ?_
  unfold sameOld
  rw [h1, h2]
theorem comp_self {l : List Xg} {me : Int} {y : Xg} (h : HasPlan l me y) : y ∈ compL y l := by
  unfold compL
  exact List.mem_filter.2 ⟨h.mem, sameOld_iff.2 ⟨rfl, rfl⟩⟩
/-- Two plans of companions are one. -/
theorem plan_one {l : List Xg} {a b : Int} {x y : Xg} (hx : HasPlan l a x) (hy : HasPlan l b y) (hm : mem (csL (compL x l)) b = true) : planL (compL y l) = planL (compL x l) := by
  obtain ⟨_, _, z, hz, he⟩ := (csL_mem _ _).1 hm
  obtain ⟨hz1, hz2⟩ := List.mem_filter.1 hz
  have : z = y := hx.ap.one hz1 hy.mem (by rw [he, hy.me])
  subst this
  rw [comp_same hz2]
theorem plan_me {l : List Xg} {a : Int} {x : Xg} (hx : HasPlan l a x) : mem (csL (compL x l)) a = true := by
  have h1 := comp_self hx
  have h2 := hx.ap.in_ x hx.mem
  rw [hx.me] at h2
  exact (csL_mem _ _).2 ⟨h2.1, h2.2, x, h1, hx.me⟩
/-- A holder is a companion. -/
theorem hold_mem {w : World} {ao : Option Addr} {n : Nat} {l : List Xg} {me : Int} {y : Xg} (h : XgL w ao n l) (hp : HasPlan l me y) (q : Int) (hq : 0 ≤ holdP (planL (compL y l)).f q) : mem (csL (compL y l)) (holdP (planL (compL y l)).f q) = true := by
  have hC : ∀ x ∈ compL y l, XgIn w x ∧ 0 ≤ x.w ∧ x.w < 64 := fun x hx => ⟨(h.in_ x (List.mem_filter.1 hx).1).1, hp.ap.in_ x (List.mem_filter.1 hx).1⟩
  unfold holdP at hq ⊢
  split at hq
  · rename_i hq2
    rw [if_pos hq2]
    split at hq
    · exact absurd hq (by decide)
    · rename_i hne
      rw [if_neg hne]
      have hi := whL_is (w := w) (compL y l) hC q.toNat (by omega)
      rcases hi.is with e | ⟨x, hx, h1, h2⟩
      · exact absurd e hne
      · have := hC x hx
        exact (csL_mem _ _).2 ⟨by show 0 ≤ (whL _ _).h; rw [← h2]; exact this.2.1, by show (whL _ _).h < 64; rw [← h2]; exact this.2.2, x, hx, h2⟩
  · exact absurd hq (by decide)
/-- What came in, of messages. -/
theorem MgN.of {w : World} {m : Mg} (h : DpIn w m ∧ DepsOk m.deps ∧ -9223372036854775808 ≤ m.f ∧ m.f ≤ 9223372036854775807 ∧ 0 ≤ m.q ∧ m.q < 4294967296) (hl : m.dl ≤ 1048576) : MgN w m := ⟨h.2.2.1, h.2.2.2.1, h.2.2.2.2.1, h.2.2.2.2.2, h.1, h.2.1, hl⟩
theorem keep_len {f : Nat → Wh} {R : List Mg} : (keepL f R).length ≤ R.length := List.length_filter_le _ _
end Go.Proofs.YtmaiphgmnammgaaDoor
