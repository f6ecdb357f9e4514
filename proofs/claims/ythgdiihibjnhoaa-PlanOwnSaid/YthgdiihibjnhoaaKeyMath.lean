/- Plain facts on numbers: the order of keys. -/
import Derived.Lib.Hide
namespace Go.Proofs.Ythgdiihibjnhoaa

/-- -1, 0 or 1: how two numbers stand. -/
def kc (x y : Int) : Int := if x < y then -1 else if y < x then 1 else 0
theorem kc_lt {x y : Int} (h : x < y) : kc x y = -1 := by unfold kc; rw [if_pos h]
theorem kc_gt {x y : Int} (h : y < x) : kc x y = 1 := by unfold kc; rw [if_neg (by omega), if_pos h]
theorem kc_eq {x y : Int} (h : x = y) : kc x y = 0 := by unfold kc; rw [if_neg (by omega), if_neg (by omega)]
theorem kc_bd (x y : Int) : -1 ≤ kc x y ∧ kc x y ≤ 1 := by unfold kc; split <;> (try split) <;> omega
/-- The first of two that isn't 0. -/
def orv (a b : Int) : Int := if a = 0 then b else a
theorem orv_zero {a b : Int} (h : a = 0) : orv a b = b := by unfold orv; rw [if_pos h]
theorem orv_else {a b : Int} (h : a ≠ 0) : orv a b = a := by unfold orv; rw [if_neg h]

/-- A key: its stamp, then its sender (a configuration: its epoch, then its representative). -/
structure K where
  n : Int
  p : Int
  deriving Inhabited, DecidableEq
def K.less (a b : K) : Bool := decide (a.n < b.n) || (decide (a.n = b.n) && decide (a.p < b.p))
theorem K.less_iff (a b : K) : a.less b = true ↔ a.n < b.n ∨ a.n = b.n ∧ a.p < b.p := by unfold K.less; simp
theorem K.less_not (a b : K) : a.less b = false ↔ b.n < a.n ∨ a.n = b.n ∧ b.p ≤ a.p := by
  rw [← Bool.not_eq_true, K.less_iff]; omega
def kcmp (a b : K) : Int := orv (kc a.n b.n) (kc a.p b.p)
theorem kcmp_lt {a b : K} (h : a.less b = true) : kcmp a b = -1 := by
  rw [K.less_iff] at h
  unfold kcmp
  rcases h with h | ⟨h1, h2⟩
  · rw [kc_lt h, orv_else (by decide)]
  · rw [kc_eq h1, orv_zero rfl, kc_lt h2]
theorem kcmp_gt {a b : K} (h : b.less a = true) : kcmp a b = 1 := by
  rw [K.less_iff] at h
  unfold kcmp
  rcases h with h | ⟨h1, h2⟩
  · rw [kc_gt h, orv_else (by decide)]
  · rw [kc_eq h1.symm, orv_zero rfl, kc_gt h2]
theorem kcmp_eq {a b : K} (h : a.less b = false) (h' : b.less a = false) : kcmp a b = 0 := by
  rw [K.less_not] at h h'
  unfold kcmp
  rw [kc_eq (by omega), orv_zero rfl, kc_eq (by omega)]
theorem K.less_irrefl (a : K) : a.less a = false := by rw [K.less_not]; omega
theorem K.less_asymm {a b : K} (h : a.less b = true) : b.less a = false := by rw [K.less_iff] at h; rw [K.less_not]; omega
theorem K.less_trans {a b c : K} (h : a.less b = true) (h' : b.less c = true) : a.less c = true := by rw [K.less_iff] at *; omega
/-- 'Not behind' is transitive. -/
theorem K.le_trans {a b c : K} (h : b.less a = false) (h' : c.less b = false) : c.less a = false := by rw [K.less_not] at *; omega
theorem K.eq_of {a b : K} (h : a.less b = false) (h' : b.less a = false) : a = b := by
  rw [K.less_not] at h h'
  obtain ⟨n, p⟩ := a
  obtain ⟨m, q⟩ := b
  simp only at h h'
  obtain rfl : n = m := by omega
  obtain rfl : p = q := by omega
  rfl
theorem kcmp_le (a b : K) : kcmp a b ≤ 0 ↔ b.less a = false := by
  cases h : b.less a with
  | true => rw [kcmp_gt h]; simp
  | false =>
    cases h' : a.less b with
    | true => rw [kcmp_lt h']; simp
    | false => rw [kcmp_eq h' h]; simp
theorem kcmp_neg (a b : K) : kcmp a b < 0 ↔ a.less b = true := by
  cases h' : a.less b with
  | true => rw [kcmp_lt h']; simp
  | false =>
    cases h : b.less a with
    | true => rw [kcmp_gt h]; simp
    | false => rw [kcmp_eq h' h]; simp
theorem kcmp_pos (a b : K) : 0 < kcmp a b ↔ b.less a = true := by
  cases h : b.less a with
  | true => rw [kcmp_gt h]; simp
  | false =>
    cases h' : a.less b with
    | true => rw [kcmp_lt h']; simp
    | false => rw [kcmp_eq h' h]; simp
theorem kcmp_anti (a b : K) : kcmp a b = -kcmp b a := by
  cases h' : a.less b with
  | true => rw [kcmp_lt h', kcmp_gt h']
  | false =>
    cases h : b.less a with
    | true => rw [kcmp_gt h, kcmp_lt h]; rfl
    | false => rw [kcmp_eq h' h, kcmp_eq h h']; rfl
theorem kcmp_zero (a b : K) : kcmp a b = 0 ↔ a = b := by
  constructor
  · intro h
    refine K.eq_of ?_ ?_
    · cases h' : a.less b with
      | true => rw [kcmp_lt h'] at h; simp at h
      | false => rfl
    · cases h' : b.less a with
      | true => rw [kcmp_gt h'] at h; simp at h
      | false => rfl
  · rintro rfl
    exact kcmp_eq (K.less_irrefl a) (K.less_irrefl a)
theorem kcmp_bd (a b : K) : -1 ≤ kcmp a b ∧ kcmp a b ≤ 1 := by
  have := kc_bd a.n b.n
  have := kc_bd a.p b.p
  unfold kcmp orv
  split <;> omega

/-- The greatest of a list, the first of those that are greatest; the zero one of none. -/
def top1 : K → List K → K
  | m, [] => m
  | m, x :: r => top1 (if m.less x then x else m) r
def lastK : List K → K
  | [] => ⟨0, 0⟩
  | x :: r => top1 x r
theorem top1_append (m : K) (l r : List K) : top1 m (l ++ r) = top1 (top1 m l) r := by
  induction l generalizing m with
  | nil => rfl
  | cons x t ih => exact ih _
theorem lastK_snoc (l : List K) (x : K) (h : l ≠ []) : lastK (l ++ [x]) = if (lastK l).less x then x else lastK l := by
  match l, h with
  | y :: r, _ =>
    show top1 y (r ++ [x]) = _
    rw [top1_append]; rfl
theorem top1_ge (m : K) (l : List K) : (top1 m l).less m = false ∧ ∀ x ∈ l, (top1 m l).less x = false := by
    induction l generalizing m with
    | nil => exact ⟨K.less_irrefl m, fun _ h => by cases h⟩
    | cons y r ih =>
      obtain ⟨h1, h2⟩ := ih (if m.less y then y else m)
      show (top1 _ r).less m = false ∧ _
      by_cases hb : m.less y = true
      · rw [if_pos hb] at h1 h2
        have hm : (top1 y r).less m = false := K.le_trans (K.less_asymm hb) h1
        refine ⟨by rw [if_pos hb]; exact hm, fun x hx => ?_⟩
        show (top1 _ r).less x = false
        rw [if_pos hb]
        rcases List.mem_cons.1 hx with rfl | hx
        · exact h1
        · exact h2 x hx
      · rw [if_neg hb] at h1 h2
        have hy : m.less y = false := by simpa using hb
        refine ⟨by rw [if_neg hb]; exact h1, fun x hx => ?_⟩
        show (top1 _ r).less x = false
        rw [if_neg hb]
        rcases List.mem_cons.1 hx with rfl | hx
        · exact K.le_trans hy h1
        · exact h2 x hx
theorem top1_mem (m : K) (l : List K) : top1 m l = m ∨ top1 m l ∈ l := by
    induction l generalizing m with
    | nil => exact .inl rfl
    | cons y r ih =>
      show top1 _ r = m ∨ top1 _ r ∈ y :: r
      rcases ih (if m.less y then y else m) with h | h
      · rw [h]
        split
        · exact .inr (List.mem_cons_self ..)
        · exact .inl rfl
      · exact .inr (List.mem_cons_of_mem _ h)
theorem lastK_mem (l : List K) (h : l ≠ []) : lastK l ∈ l := by
  match l, h with
  | y :: r, _ =>
    show top1 y r ∈ _
    rcases top1_mem y r with e | e
    · rw [e]; exact List.mem_cons_self ..
    · exact List.mem_cons_of_mem _ e
theorem lastK_ge (l : List K) (x : K) (h : x ∈ l) : (lastK l).less x = false := by
  match l, h with
  | y :: r, h =>
    show (top1 y r).less x = false
    rcases List.mem_cons.1 h with rfl | h
    · exact (top1_ge x r).1
    · exact (top1_ge y r).2 x h
/-- It is the one of the list that none is greater than. -/
theorem lastK_unique (l : List K) (m : K) (hm : m ∈ l) (hg : ∀ x ∈ l, m.less x = false) : lastK l = m :=
  K.eq_of (lastK_ge l m hm) (hg _ (lastK_mem l (by intro e; subst e; cases hm)))
theorem lastK_same (l r : List K) (h : ∀ x, x ∈ l ↔ x ∈ r) : lastK l = lastK r := by
  match l with
  | [] =>
    match r with
    | [] => rfl
    | y :: t => exact absurd ((h y).2 (List.mem_cons_self ..)) (by simp)
  | y :: t =>
    have hr : r ≠ [] := fun e => by subst e; exact absurd ((h y).1 (List.mem_cons_self ..)) (by simp)
    exact lastK_unique _ _ ((h _).2 (lastK_mem r hr)) fun x hx => lastK_ge r x ((h x).1 hx)
end Go.Proofs.Ythgdiihibjnhoaa
