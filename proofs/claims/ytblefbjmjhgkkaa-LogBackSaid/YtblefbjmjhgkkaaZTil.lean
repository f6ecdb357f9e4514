/- A region that draws its order, where a condition on the world is kept up only till the loads that lean on it have come up (what is stored behind them may break it). -/
import Derived.Test.YtblefbjmjhgkkaaZGrws
import Derived.Deep.RegionHeld3
set_option linter.unusedVariables false
set_option maxRecDepth 100000
set_option linter.unusedSimpArgs false
namespace Go.Proofs.Ytblefbjmjhgkkaa
open Go.RowKit Go.Sort

section
variable {P : Program} {ops : Array Oper} {Q : Exit → Act → World → Prop} {md : Region.Mode} {T : Array Bool → World → Prop}
/-- Whatever comes up; behind it T holds of what has come up so far. -/
def wpTil (P : Program) (md : Region.Mode) (ops : Array Oper) (Q : Exit → Act → World → Prop) (T : Array Bool → World → Prop) : Nat → Array Bool → Act → World → Prop
  | 0, l, a, w => Region.ready md ops l = [] ∧ Q .normal a w
  | n + 1, l, a, w => (Region.ready md ops l = [] → Q .normal a w) ∧ ∀ i ∈ Region.ready md ops l, wpOp P ops Q i (fun a' w' => T (l.setIfInBounds i true) w' ∧ wpTil P md ops Q T n (l.setIfInBounds i true) a' w') a w
theorem wpTil.any : ∀ (n : Nat) (l : Array Bool) (a : Act) (w : World), wpTil P md ops Q T n l a w → wpAny P md ops Q n l a w
  | 0, _, _, _, h => h
  | n + 1, _, _, _, h => ⟨h.1, fun i hi => wpOp_mono (fun a' w' k => wpTil.any n _ a' w' k.2) (h.2 i hi)⟩
theorem til_first {S : World → Prop} {i : Nat} {oi : Oper} {v : Value} (hi : ops[i]? = some oi) (hs : ∀ (j : Nat) (o : Oper) cs b, ops[j]? = some o → o.op ≠ .select cs b)
    (hQ : ∀ c a w, Q (.panic c) (a.put oi.dst v) w → Q (.panic c) a w) {C : Array Bool → Prop} (hT : ∀ l w, C l → T l w → S w) (hm : ∀ l w, C l → T l w → T (l.setIfInBounds i true) w) (hb : ∀ l w, C l → T (l.setIfInBounds i true) w → T l w) (hC : ∀ l j, C l → l.getD i true = false → j ∈ Region.ready md ops l → j ≠ i → C (l.setIfInBounds j true)) :
    ∀ (n : Nat) (l : Array Bool) (a : Act) (w : World), (∀ j oj, ops[j]? = some oj → j ≠ i → l.getD j true = false → (∀ e ∈ oj.after, Region.binds md e = true → e.on ≠ i) → oi.apart ops oj = true) →
      i ∈ Region.ready md ops l → C l → YieldsIf P ops S oi v a → T l w → wpTil P md ops Q T n (l.setIfInBounds i true) (a.put oi.dst v) w → wpTil P md ops Q T (n + 1) l a w := by
  intro n
  induction n with
  | zero =>
    intro l a w hf hr hc hy hw H
    have h0 := (mem_ready.1 hr).1
    refine ⟨fun e => absurd (e ▸ hr) (List.not_mem_nil), fun j hj => ?_⟩
    by_cases e : j = i
    · rw [e]; exact hy.wpOp hi (hT l w hc hw) ⟨hm l w hc hw, H⟩
    · exact absurd (H.1 ▸ ready_mono hj e) (List.not_mem_nil)
  | succ n ih =>
    intro l a w hf hr hc hy hw H
    have h0 := (mem_ready.1 hr).1
    refine ⟨fun e => absurd (e ▸ hr) (List.not_mem_nil), fun j hj => ?_⟩
    by_cases e : j = i
    · rw [e]; exact hy.wpOp hi (hT l w hc hw) ⟨hm l w hc hw, H⟩
    obtain ⟨hj0, oj, hoj, hall⟩ := mem_ready.1 hj
    have hno : ∀ x ∈ oj.after, Region.binds md x = true → x.on ≠ i := by
      intro x hx hb hxe
      have h1 := hall x hx hb
      rw [hxe] at h1
      by_cases hlt : i < l.size
      · simp [hlt] at h0 h1; rw [h0] at h1; cases h1
      · simp [Array.getElem?_eq_none (Nat.le_of_not_lt hlt)] at h1
    have hk := wpOp_putIf hoj (hf j oj hoj e hj0 hno) (fun cs b => hs i oi cs b hi) (fun cs b => hs j oj cs b hoj) hQ hy (H.2 j (ready_mono hj e))
    refine wpOp_mono (fun a' w' k => ?_) hk
    obtain ⟨k1, k2, k3⟩ := k
    have hl : (l.setIfInBounds i true).setIfInBounds j true = (l.setIfInBounds j true).setIfInBounds i true := Array.setIfInBounds_comm _ _ (fun x => e x.symm)
    rw [hl] at k2 k3
    have hu : (l.setIfInBounds j true).getD i true = false := by rw [getD_set_ne true e]; exact h0
    have hcj := hC l j hc h0 hj e
    have hTj : T (l.setIfInBounds j true) w' := hb _ _ hcj k2
    exact ⟨hTj, ih (l.setIfInBounds j true) a' w' (fun q oq hq hqi hun hnq => hf q oq hq hqi (by
      by_cases hjq : j = q
      · subst hjq; exact hj0
      · rw [getD_set_ne true hjq] at hun; exact hun) hnq) (ready_mono hr (fun x => e x.symm)) hcj k1 hTj k3⟩
/-- S, till all of D have come up. -/
def tilD (D : List Nat) (S : World → Prop) (l : Array Bool) (w : World) : Prop := (D.all fun i => l.getD i false) = true ∨ S w
theorem til_pure {D : List Nat} {S : World → Prop} {i : Nat} {oi : Oper} {v : Value} {n : Nat} {l : Array Bool} {a : Act} {w : World} (d : Nat) (hi : ops[i]? = some oi) (hd : oi.dst = some d) (hs : Region.noSelect ops = true) (hf : Region.free md ops l i = true) (hr : (Region.ready md ops l).contains i = true) (hD : D.contains i = false)
    (hQ : ∀ c a w, Q (.panic c) (a.put oi.dst v) w → Q (.panic c) a w) (hy : YieldsIf P ops (fun _ => True) oi v a) (hw : tilD D S l w)
    (h : wpTil P md ops Q (tilD D S) n (l.setIfInBounds i true) (a.put (some d) v) w) : wpTil P md ops Q (tilD D S) (n + 1) l a w := by
  have hne : ∀ (l : Array Bool), (D.all fun j => (l.setIfInBounds i true).getD j false) = D.all fun j => l.getD j false := fun l => by
    rw [Bool.eq_iff_iff, List.all_eq_true, List.all_eq_true]
    have hx : ∀ x ∈ D, i ≠ x := fun x hx e => by subst e; rw [List.contains_iff_mem.2 hx] at hD; cases hD
    exact ⟨fun k x h1 => by have := k x h1; rwa [getD_set_ne false (hx x h1)] at this, fun k x h1 => by rw [getD_set_ne false (hx x h1)]; exact k x h1⟩
  exact til_first (T := tilD D S) (S := fun _ => True) (C := fun _ => True) hi (Region.noSelect_spec hs) hQ (fun _ _ _ _ => trivial) (fun l w _ k => by unfold tilD at *; rw [hne]; exact k) (fun l w _ k => by unfold tilD at *; rwa [hne] at k) (fun _ _ _ _ _ _ => trivial) n l a w (Region.free_spec hi hf) (by simpa using hr) trivial hy hw (by rw [hd]; exact h)
/-- A load that leans on S: c, which is one of D, waits for it. -/
theorem til_load {D : List Nat} {S : World → Prop} {i c : Nat} {oi oc : Oper} {v : Value} {n : Nat} {l : Array Bool} {a : Act} {w : World} (d : Nat) (hi : ops[i]? = some oi) (hd : oi.dst = some d) (hs : Region.noSelect ops = true) (hf : Region.free md ops l i = true) (hr : (Region.ready md ops l).contains i = true) (hD : D.contains c = true)
    (hoc : ops[c]? = some oc) (hcw : (oc.after.any fun e => Region.binds md e && e.on == i) = true) (hic : i ≠ c) (hcl : l.getD c true = false)
    (hQ : ∀ c a w, Q (.panic c) (a.put oi.dst v) w → Q (.panic c) a w) (hy : YieldsIf P ops S oi v a) (hw : tilD D S l w)
    (h : wpTil P md ops Q (tilD D S) n (l.setIfInBounds i true) (a.put (some d) v) w) : wpTil P md ops Q (tilD D S) (n + 1) l a w := by
  have hno : ∀ (l : Array Bool), l.getD c true = false → (D.all fun j => l.getD j false) = false := fun l hl => by
    cases hx : D.all fun j => l.getD j false with
    | false => rfl
    | true =>
      have h1 := List.all_eq_true.1 hx c (List.contains_iff_mem.1 hD)
      by_cases hlt : c < l.size
      · simp [hlt] at h1 hl; rw [hl] at h1; cases h1
      · simp [Array.getElem?_eq_none (Nat.le_of_not_lt hlt)] at h1
  have hS : ∀ (l : Array Bool) w, l.getD c true = false → (tilD D S l w ↔ S w) := fun l w hl => by
    unfold tilD; rw [hno l hl]; simp
  have hci : ∀ l : Array Bool, l.getD c true = false → (l.setIfInBounds i true).getD c true = false := fun l hl => by rw [getD_set_ne true hic]; exact hl
  refine til_first (T := tilD D S) (S := S) (C := fun l => l.getD c true = false) hi (Region.noSelect_spec hs) hQ (fun l w k h1 => (hS l w k).1 h1) (fun l w k h1 => (hS _ w (hci l k)).2 ((hS l w k).1 h1)) (fun l w k h1 => (hS l w k).2 ((hS _ w (hci l k)).1 h1)) (fun l j k h0 hj hne => ?_) n l a w (Region.free_spec hi hf) (by simpa using hr) hcl hy hw (by rw [hd]; exact h)
  have hjc : j ≠ c := by
    rintro rfl
    obtain ⟨_, oj, hoj, hall⟩ := mem_ready.1 hj
    rw [hoc] at hoj
    injection hoj with hoj
    subst hoj
    obtain ⟨e, he, hb⟩ := Array.any_eq_true'.1 hcw
    simp only [Bool.and_eq_true, beq_iff_eq] at hb
    have h1 := hall e he hb.1
    rw [hb.2] at h1
    by_cases hlt : i < l.size
    · simp [hlt] at h0 h1; rw [h0] at h1; cases h1
    · simp [Array.getElem?_eq_none (Nat.le_of_not_lt hlt)] at h1
  show (l.setIfInBounds j true).getD c true = false
  rw [getD_set_ne true hjc]; exact k
/-- What comes up next, when it is one alone. -/
theorem til_next {D : List Nat} {S : World → Prop} {i : Nat} {o : Oper} {n : Nat} {l : Array Bool} {a : Act} {w : World} (hr : Region.ready md ops l = [i]) (ho : ops[i]? = some o) (hw : Region.wanted o (yielded ops a.tmps) = true)
    (h : ∀ K : Act → World → Prop, Hid (∀ a' w', tilD D S (l.setIfInBounds i true) w' → wpTil P md ops Q (tilD D S) n (l.setIfInBounds i true) a' w' → K a' w') → Oper.wp P o a w K Q) : wpTil P md ops Q (tilD D S) (n + 1) l a w := by
  refine ⟨fun e => (by rw [hr] at e; cases e), fun j hj => ?_⟩
  rw [hr] at hj
  obtain rfl : j = i := by simpa using hj
  unfold wpOp
  simp only [ho, hw, if_true]
  exact .inl (h _ (Lib.hid fun a' w' k1 k2 => ⟨k1, k2⟩))
theorem til_done {D : List Nat} {S : World → Prop} {l : Array Bool} {a : Act} {w : World} (hr : Region.ready md ops l = []) (h : Q .normal a w) : ∀ n, wpTil P md ops Q (tilD D S) n l a w
  | 0 => ⟨hr, h⟩
  | _ + 1 => ⟨fun _ => h, by rw [hr]; simp⟩
theorem region_til (D : List Nat) (S : World → Prop) {id : Nat} {a : Act} {w : World} (hm : P.follows .mixedOrders = true) (h : wpTil P .any ops Q (tilD D S) ops.size (Array.replicate ops.size false) a w.drew) : (Code.region id ops true).wp P Q a w :=
  wp_region_any hm (wpTil.any _ _ _ _ h)
end
end Go.Proofs.Ytblefbjmjhgkkaa
