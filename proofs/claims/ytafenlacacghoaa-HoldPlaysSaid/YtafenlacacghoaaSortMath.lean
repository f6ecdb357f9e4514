/- Plain facts on lists: sorted by keys, what has one key as it stood. -/
import Derived.Test.YtafenlacacghoaaKeyMath
import Derived.Sort.LotA
namespace Go.Proofs.Ytafenlacacghoaa
open Go.Sort

section
variable {α : Type} (key : α → K)
/-- No later one comes ahead of an earlier one. -/
def Srt (l : List α) : Prop := l.Pairwise fun x y => (key y).less (key x) = false
/-- Those of each key stand as they stood. -/
def Fil (l l' : List α) : Prop := ∀ c : K, l'.filter (fun x => decide (key x = c)) = l.filter (fun x => decide (key x = c))
structure IsSrt (l l' : List α) : Prop where
  srt : Srt key l'
  fil : Fil key l l'
variable {key}
theorem Fil.refl (l : List α) : Fil key l l := fun _ => rfl
theorem Fil.trans {a b c : List α} (h : Fil key a b) (h' : Fil key b c) : Fil key a c := fun x => (h' x).trans (h x)
theorem Fil.app {a a' b b' : List α} (h : Fil key a a') (h' : Fil key b b') : Fil key (a ++ b) (a' ++ b') := fun x => by
  rw [List.filter_append, List.filter_append, h x, h' x]
theorem Fil.turn {a b : List α} (h : ∀ x ∈ a, ∀ y ∈ b, key x ≠ key y) : Fil key (a ++ b) (b ++ a) := fun c => by
  rw [List.filter_append, List.filter_append]
  by_cases hb : b.filter (fun x => decide (key x = c)) = []
  · rw [hb]; simp
  · obtain ⟨y, hy⟩ := List.exists_mem_of_ne_nil _ hb
    obtain ⟨hy1, hy2⟩ := List.mem_filter.1 hy
    have hyc : key y = c := by simpa using hy2
    have ha : a.filter (fun x => decide (key x = c)) = [] := by
      refine List.filter_eq_nil_iff.2 fun x hx => ?_
      have := h x hx y hy1
      simp only [decide_eq_true_eq]
      intro e
      exact this (e.trans hyc.symm)
    rw [ha]; simp
theorem Fil.perm : ∀ (l l' : List α), Fil key l l' → l.Perm l'
  | [], l', h => by
    have : l' = [] := by
      match l' with
      | [] => rfl
      | y :: r => have := h (key y); simp at this
    subst this; exact List.Perm.refl _
  | x :: t, l', h => by
    have hx := h (key x)
    rw [List.filter_cons_of_pos (by simp)] at hx
    obtain ⟨A, B, rfl, hA, _, hB⟩ := List.filter_eq_cons_iff.1 hx
    have ht : Fil key t (A ++ B) := fun c => by
      have hc := h c
      rw [List.filter_append] at hc ⊢
      by_cases e : key x = c
      · subst e
        rw [List.filter_cons_of_pos (by simp), List.filter_cons_of_pos (by simp)] at hc
        have hA' : A.filter (fun y => decide (key y = key x)) = [] := List.filter_eq_nil_iff.2 fun y hy => by simpa using hA y hy
        rw [hA', List.nil_append] at hc ⊢
        exact (List.cons.inj hc).2
      · rw [List.filter_cons_of_neg (by simpa using e), List.filter_cons_of_neg (by simpa using e)] at hc
        exact hc
    exact ((Fil.perm t (A ++ B) ht).cons x).trans List.perm_middle.symm
theorem Fil.length {l l' : List α} (h : Fil key l l') : l'.length = l.length := (Fil.perm l l' h).length_eq.symm
theorem Fil.mem {l l' : List α} (h : Fil key l l') (x : α) : x ∈ l' ↔ x ∈ l := (Fil.perm l l' h).mem_iff.symm
/-- There is one such list. -/
theorem IsSrt.unique : ∀ (a b : List α), Srt key a → Srt key b → Fil key a b → a = b
  | [], b, _, _, h => by
    match b with
    | [] => rfl
    | y :: r => have := h (key y); simp at this
  | x :: t, b, ha, hb, h => by
    match b with
    | [] => have := h (key x); simp at this
    | y :: s =>
      obtain ⟨ha1, ha2⟩ := List.pairwise_cons.1 ha
      obtain ⟨hb1, hb2⟩ := List.pairwise_cons.1 hb
      have hy : y ∈ x :: t := (h.mem y).1 (List.mem_cons_self ..)
      have hx : x ∈ y :: s := (h.mem x).2 (List.mem_cons_self ..)
      have h1 : (key y).less (key x) = false := by
        rcases List.mem_cons.1 hy with e | e
        · rw [e]; exact K.less_irrefl _
        · exact ha1 y e
      have h2 : (key x).less (key y) = false := by
        rcases List.mem_cons.1 hx with e | e
        · rw [e]; exact K.less_irrefl _
        · exact hb1 x e
      have hk : key x = key y := K.eq_of h2 h1
      have hc := h (key x)
      rw [List.filter_cons_of_pos (by simp [hk]), List.filter_cons_of_pos (by simp)] at hc
      obtain ⟨hxy, hts⟩ := List.cons.inj hc
      subst hxy
      have : t = s := IsSrt.unique t s ha2 hb2 fun c => by
        by_cases e : key y = c
        · subst e; exact hts
        · have := h c
          rw [List.filter_cons_of_neg (by simpa using e), List.filter_cons_of_neg (by simpa using e)] at this
          exact this
      rw [this]
theorem IsSrt.one {l a b : List α} (h : IsSrt key l a) (h' : IsSrt key l b) : a = b :=
  IsSrt.unique a b h.srt h'.srt fun c => (h'.fil c).trans (h.fil c).symm
theorem IsSrt.same {l : List α} (h : Srt key l) : IsSrt key l l := ⟨h, Fil.refl l⟩
theorem IsSrt.of_fil {l l' m : List α} (h : IsSrt key l' m) (hf : Fil key l l') : IsSrt key l m := ⟨h.srt, hf.trans h.fil⟩

theorem Srt.app {a b : List α} (ha : Srt key a) (hb : Srt key b) (h : ∀ x ∈ a, ∀ y ∈ b, (key y).less (key x) = false) : Srt key (a ++ b) := List.pairwise_append.2 ⟨ha, hb, h⟩
theorem Srt.left {a b : List α} (h : Srt key (a ++ b)) : Srt key a := (List.pairwise_append.1 h).1
theorem Srt.right {a b : List α} (h : Srt key (a ++ b)) : Srt key b := (List.pairwise_append.1 h).2.1
theorem Srt.between {a b : List α} (h : Srt key (a ++ b)) : ∀ x ∈ a, ∀ y ∈ b, (key y).less (key x) = false := (List.pairwise_append.1 h).2.2
theorem Srt.nil : Srt key ([] : List α) := List.Pairwise.nil
theorem Srt.one (x : α) : Srt key [x] := List.pairwise_singleton _ _

/-- One element into a sorted list, ahead of those that aren't less. -/
theorem put_first {x : α} {a b : List α} (h : Srt key (a ++ b)) (h1 : ∀ A y, a = A ++ [y] → (key y).less (key x) = true) (h2 : ∀ y B, b = y :: B → (key y).less (key x) = false) :
    IsSrt key (x :: (a ++ b)) (a ++ x :: b) := by
  have la : ∀ y ∈ a, (key y).less (key x) = true := fun y hy => by
    rcases List.eq_nil_or_concat a with rfl | ⟨A, z, rfl⟩
    · cases hy
    · have hz := h1 A z (by rw [List.concat_eq_append])
      rw [List.concat_eq_append] at hy h
      rcases List.mem_append.1 hy with e | e
      · have := h.left.between y e z (List.mem_cons_self ..)
        rw [K.less_iff] at hz ⊢
        rw [K.less_not] at this
        omega
      · rw [List.mem_singleton.1 e]; exact hz
  have lb : ∀ y ∈ b, (key y).less (key x) = false := fun y hy => by
    match b, hy with
    | z :: B, hy =>
      have hz := h2 z B rfl
      rcases List.mem_cons.1 hy with e | e
      · rw [e]; exact hz
      · exact K.le_trans hz ((List.pairwise_cons.1 h.right).1 y e)
  refine ⟨?_, ?_⟩
  · refine List.pairwise_append.2 ⟨h.left, List.pairwise_cons.2 ⟨lb, h.right⟩, fun y hy z hz => ?_⟩
    rcases List.mem_cons.1 hz with e | e
    · rw [e]; exact K.less_asymm (la y hy)
    · exact h.between y hy z e
  · have : Fil key ([x] ++ a) (a ++ [x]) := Fil.turn fun u hu y hy => by
      rw [List.mem_singleton.1 hu]
      intro e
      have := la y hy
      rw [e, K.less_irrefl] at this
      cases this
    have := this.app (Fil.refl b)
    simpa using this
/-- One element into a sorted list, behind those that aren't greater. -/
theorem put_last {x : α} {a b : List α} (h : Srt key (a ++ b)) (h1 : ∀ A y, a = A ++ [y] → (key x).less (key y) = false) (h2 : ∀ y B, b = y :: B → (key x).less (key y) = true) :
    IsSrt key ((a ++ b) ++ [x]) (a ++ x :: b) := by
  have la : ∀ y ∈ a, (key x).less (key y) = false := fun y hy => by
    rcases List.eq_nil_or_concat a with rfl | ⟨A, z, rfl⟩
    · cases hy
    · have hz := h1 A z (by rw [List.concat_eq_append])
      rw [List.concat_eq_append] at hy h
      rcases List.mem_append.1 hy with e | e
      · exact K.le_trans (h.left.between y e z (List.mem_cons_self ..)) hz
      · rw [List.mem_singleton.1 e]; exact hz
  have lb : ∀ y ∈ b, (key x).less (key y) = true := fun y hy => by
    match b, hy with
    | z :: B, hy =>
      have hz := h2 z B rfl
      rcases List.mem_cons.1 hy with e | e
      · rw [e]; exact hz
      · have := (List.pairwise_cons.1 h.right).1 y e
        rw [K.less_iff] at hz ⊢
        rw [K.less_not] at this
        omega
  refine ⟨?_, ?_⟩
  · refine List.pairwise_append.2 ⟨h.left, List.pairwise_cons.2 ⟨fun y hy => K.less_asymm (lb y hy), h.right⟩, fun y hy z hz => ?_⟩
    rcases List.mem_cons.1 hz with e | e
    · rw [e]; exact la y hy
    · exact h.between y hy z e
  · have : Fil key (b ++ [x]) ([x] ++ b) := Fil.turn fun y hy u hu => by
      rw [List.mem_singleton.1 hu]
      intro e
      have := lb y hy
      rw [e, K.less_irrefl] at this
      cases this
    have := (Fil.refl a).app this
    simpa using this

/-- Two sorted lists, each cut in two, the inner parts turned about: merged part by part. -/
theorem merge_parts {a1 a2 b1 b2 m1 m2 : List α} (ha : Srt key (a1 ++ a2)) (hb : Srt key (b1 ++ b2))
    (h1 : ∀ A x y B, a1 = A ++ [x] → b2 = y :: B → (key y).less (key x) = false) (h2 : ∀ A x y B, b1 = A ++ [x] → a2 = y :: B → (key x).less (key y) = true)
    (hm1 : IsSrt key (a1 ++ b1) m1) (hm2 : IsSrt key (a2 ++ b2) m2) : IsSrt key ((a1 ++ a2) ++ (b1 ++ b2)) (m1 ++ m2) := by
  have l1 : ∀ x ∈ a1, ∀ y ∈ b2, (key y).less (key x) = false := fun x hx y hy => by
    rcases List.eq_nil_or_concat a1 with rfl | ⟨A, z, rfl⟩
    · cases hx
    · rw [List.concat_eq_append] at hx ha
      match b2, hy with
      | u :: B, hy =>
        have hzu := h1 A z u B (by rw [List.concat_eq_append]) rfl
        have hxz : (key z).less (key x) = false := by
          rcases List.mem_append.1 hx with e | e
          · exact ha.left.between x e z (List.mem_cons_self ..)
          · rw [List.mem_singleton.1 e]; exact K.less_irrefl _
        have huy : (key y).less (key u) = false := by
          rcases List.mem_cons.1 hy with e | e
          · rw [e]; exact K.less_irrefl _
          · exact (List.pairwise_cons.1 hb.right).1 y e
        exact K.le_trans (K.le_trans hxz hzu) huy
  have l2 : ∀ x ∈ b1, ∀ y ∈ a2, (key x).less (key y) = true := fun x hx y hy => by
    rcases List.eq_nil_or_concat b1 with rfl | ⟨A, z, rfl⟩
    · cases hx
    · rw [List.concat_eq_append] at hx hb
      match a2, hy with
      | u :: B, hy =>
        have hzu := h2 A z u B (by rw [List.concat_eq_append]) rfl
        have hxz : (key z).less (key x) = false := by
          rcases List.mem_append.1 hx with e | e
          · exact hb.left.between x e z (List.mem_cons_self ..)
          · rw [List.mem_singleton.1 e]; exact K.less_irrefl _
        have huy : (key y).less (key u) = false := by
          rcases List.mem_cons.1 hy with e | e
          · rw [e]; exact K.less_irrefl _
          · exact (List.pairwise_cons.1 ha.right).1 y e
        rw [K.less_iff] at hzu ⊢
        rw [K.less_not] at hxz huy
        omega
  refine ⟨Srt.app hm1.srt hm2.srt fun x hx y hy => ?_, ?_⟩
  · rcases List.mem_append.1 ((hm1.fil.mem x).1 hx) with ex | ex <;> rcases List.mem_append.1 ((hm2.fil.mem y).1 hy) with ey | ey
    · exact ha.between x ex y ey
    · exact l1 x ex y ey
    · exact K.less_asymm (l2 x ex y ey)
    · exact hb.between x ex y ey
  · have ht : Fil key (a2 ++ b1) (b1 ++ a2) := Fil.turn fun x hx y hy e => by
      have := l2 y hy x hx
      rw [e, K.less_irrefl] at this
      cases this
    have h3 : Fil key ((a1 ++ a2) ++ (b1 ++ b2)) ((a1 ++ b1) ++ (a2 ++ b2)) := by
      have := ((Fil.refl a1).app ht).app (Fil.refl b2)
      simpa using this
    exact h3.trans (hm1.fil.app hm2.fil)

/-- Sorted runs of n each, one behind the other, the last one shorter. -/
inductive Runs (key : α → K) (n : Nat) : List α → Prop
  | last (b : List α) : Srt key b → b.length ≤ n → Runs key n b
  | cons (b r : List α) : Srt key b → b.length = n → Runs key n r → Runs key n (b ++ r)
/-- What stands ahead of runs. -/
def Done (key : α → K) (n : Nat) (d : List α) : Prop := ∀ r, Runs key n r → Runs key n (d ++ r)
theorem Done.nil (n : Nat) : Done key n ([] : List α) := fun _ h => h
theorem Done.snoc {n : Nat} {d b : List α} (h : Done key n d) (hb : Srt key b) (hl : b.length = n) : Done key n (d ++ b) := fun r hr => by
  rw [List.append_assoc]
  exact h _ (.cons b r hb hl hr)
theorem Runs.short {n : Nat} {r : List α} (h : Runs key n r) (hl : r.length ≤ n) : Srt key r := by
  cases h with
  | last _ hs _ => exact hs
  | cons b r' hb hbl _ =>
    have : r' = [] := List.eq_nil_of_length_eq_zero (by rw [List.length_append] at hl; omega)
    subst this
    rw [List.append_nil]; exact hb
theorem Runs.cut {n : Nat} {r : List α} (h : Runs key n r) (hl : n < r.length) : ∃ b r', r = b ++ r' ∧ Srt key b ∧ b.length = n ∧ Runs key n r' := by
  cases h with
  | last _ _ hl' => omega
  | cons b r' hb hbl hr => exact ⟨b, r', rfl, hb, hbl, hr⟩
theorem Runs.two {n : Nat} {r : List α} (h : Runs key n r) (hn : 0 < n) (hl : 2 * n ≤ r.length) : ∃ b c r', r = b ++ (c ++ r') ∧ Srt key b ∧ b.length = n ∧ Srt key c ∧ c.length = n ∧ Runs key n r' := by
  obtain ⟨b, r1, rfl, hb, hbl, hr⟩ := h.cut (by omega)
  rw [List.length_append] at hl
  by_cases he : r1.length = n
  · exact ⟨b, r1, [], by simp, hb, hbl, hr.short (by omega), he, .last _ Srt.nil (by simp)⟩
  · obtain ⟨c, r2, rfl, hc, hcl, hr2⟩ := hr.cut (by omega)
    exact ⟨b, c, r2, rfl, hb, hbl, hc, hcl, hr2⟩
end

/-! ### Rows as lists -/
section
variable {α : Type} [Inhabited α]
theorem list_at (X Z : List α) (x : α) : (X ++ x :: Z).toArray[X.length]! = x := by simp
theorem swp_list (X Y Z : List α) (x y : α) (i j : Nat) (hi : X.length = i) (hj : X.length + 1 + Y.length = j) :
    swp (X ++ x :: (Y ++ y :: Z)).toArray i j = (X ++ y :: (Y ++ x :: Z)).toArray := by
  subst hi hj
  have e1 : (X ++ x :: (Y ++ y :: Z)).toArray[X.length]! = x := list_at _ _ _
  have e2 : (X ++ x :: (Y ++ y :: Z)).toArray[X.length + 1 + Y.length]! = y := by
    have := list_at (X ++ x :: Y) Z y
    rw [List.append_assoc, List.length_append, List.length_cons] at this
    rw [show X.length + 1 + Y.length = X.length + (Y.length + 1) by omega]
    exact this
  unfold swp
  rw [e1, e2]
  simp only [List.setIfInBounds_toArray]
  congr 1
  rw [List.set_append_right _ _ (Nat.le_refl _), Nat.sub_self, List.set_cons_zero]
  rw [List.set_append_right _ _ (by omega), show X.length + 1 + Y.length - X.length = Y.length + 1 by omega, List.set_cons_succ, List.set_append_right _ _ (Nat.le_refl _), Nat.sub_self, List.set_cons_zero]
theorem swp_comm (d : Array α) (i j : Nat) (hi : i < d.size) (hj : j < d.size) : swp d i j = swp d j i := by
  refine Array.ext (by simp [size_swp]) fun k h1 h2 => ?_
  have e1 := swp_get d hi hj k
  have e2 := swp_get d hj hi k
  rw [getElem!_pos (swp d i j) k h1] at e1
  rw [getElem!_pos (swp d j i) k h2] at e2
  rw [e1, e2]
  by_cases a : k = j <;> by_cases b : k = i <;> simp_all
end
end Go.Proofs.Ytafenlacacghoaa
