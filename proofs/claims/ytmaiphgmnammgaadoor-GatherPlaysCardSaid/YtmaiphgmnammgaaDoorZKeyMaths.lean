/- Plain facts on numbers: the order of keys. -/
import Derived.Lib.Hide
import Derived.Test.YtmaiphgmnammgaaDoorRows
import Derived.WalkKit
import Derived.ProofKit
import Derived.OpenShut
import Derived.Sort.Grow
import Derived.Laws.Rows
import Derived.Below
import Derived.Test.YtmaiphgmnammgaaDoorZGrws
import Derived.StillTailTactics
import Derived.Deep.QuietTactic
import Derived.BigQuiet
import Derived.Test.YtmaiphgmnammgaaDoorZSMsg
import Derived.Shelf.SlSortCmp.KitK
import Derived.Deep.SlicePairs
namespace Go.Proofs.YtmaiphgmnammgaaDoor

/-- -1, 0 or 1: how two numbers stand. -/
def kc (x y : Int) : Int := if x < y then -1 else if y < x then 1 else 0
theorem kc_lt {x y : Int} (h : x < y) : kc x y = -1 := by unfold kc; rw [if_pos h]
theorem kc_gt {x y : Int} (h : y < x) : kc x y = 1 := by unfold kc; rw [if_neg (by omega), if_pos h]
theorem kc_eq {x y : Int} (h : x = y) : kc x y = 0 := by unfold kc; rw [if_neg (by omega), if_neg (by omega)]
theorem kc_bd (x y : Int) : -1 ≤ kc x y ∧ kc x y ≤ 1 := by unfold kc; split <;> (try split) <;> omega
/-- The first of two that isn't 0. -/
def orv (a b : Int) : Int := if a = 0 then b else a
theorem orv_zero {a b : Int} (h : a = 0) : orv a b = b := by unfold orv; rw [if_pos h]
theorem orv_else {a b : Int} (h : a ≠ 0) : orv a b = a := by unfold orv; rw [if_neg h]

/-- A key: its stamp, then its sender (a configuration: its epoch, then its representative). -/
structure K where
  n : Int
  p : Int
  deriving Inhabited, DecidableEq
def K.less (a b : K) : Bool := decide (a.n < b.n) || (decide (a.n = b.n) && decide (a.p < b.p))
theorem K.less_iff (a b : K) : a.less b = true ↔ a.n < b.n ∨ a.n = b.n ∧ a.p < b.p := by unfold K.less; simp
theorem K.less_not (a b : K) : a.less b = false ↔ b.n < a.n ∨ a.n = b.n ∧ b.p ≤ a.p := by
  rw [← Bool.not_eq_true, K.less_iff]; omega
def kcmp (a b : K) : Int := orv (kc a.n b.n) (kc a.p b.p)
theorem kcmp_lt {a b : K} (h : a.less b = true) : kcmp a b = -1 := by
  rw [K.less_iff] at h
  unfold kcmp
  rcases h with h | ⟨h1, h2⟩
  · rw [kc_lt h, orv_else (by decide)]
  · rw [kc_eq h1, orv_zero rfl, kc_lt h2]
theorem kcmp_gt {a b : K} (h : b.less a = true) : kcmp a b = 1 := by
  rw [K.less_iff] at h
  unfold kcmp
  rcases h with h | ⟨h1, h2⟩
  · rw [kc_gt h, orv_else (by decide)]
  · rw [kc_eq h1.symm, orv_zero rfl, kc_gt h2]
theorem kcmp_eq {a b : K} (h : a.less b = false) (h' : b.less a = false) : kcmp a b = 0 := by
  rw [K.less_not] at h h'
  unfold kcmp
  rw [kc_eq (by omega), orv_zero rfl, kc_eq (by omega)]
theorem K.less_irrefl (a : K) : a.less a = false := by rw [K.less_not]; omega
theorem K.less_asymm {a b : K} (h : a.less b = true) : b.less a = false := by rw [K.less_iff] at h; rw [K.less_not]; omega
theorem K.less_trans {a b c : K} (h : a.less b = true) (h' : b.less c = true) : a.less c = true := by rw [K.less_iff] at *; omega
/-- 'Not behind' is transitive. -/
theorem K.le_trans {a b c : K} (h : b.less a = false) (h' : c.less b = false) : c.less a = false := by rw [K.less_not] at *; omega
theorem K.eq_of {a b : K} (h : a.less b = false) (h' : b.less a = false) : a = b := by
  rw [K.less_not] at h h'
  obtain ⟨n, p⟩ := a
  obtain ⟨m, q⟩ := b
  simp only at h h'
  obtain rfl : n = m := by omega
  obtain rfl : p = q := by omega
  rfl
theorem kcmp_le (a b : K) : kcmp a b ≤ 0 ↔ b.less a = false := by
  cases h : b.less a with
  | true => rw [kcmp_gt h]; simp
  | false =>
    cases h' : a.less b with
    | true => rw [kcmp_lt h']; simp
    | false => rw [kcmp_eq h' h]; simp
theorem kcmp_neg (a b : K) : kcmp a b < 0 ↔ a.less b = true := by
  cases h' : a.less b with
  | true => rw [kcmp_lt h']; simp
  | false =>
    cases h : b.less a with
    | true => rw [kcmp_gt h]; simp
    | false => rw [kcmp_eq h' h]; simp
theorem kcmp_pos (a b : K) : 0 < kcmp a b ↔ b.less a = true := by
  cases h : b.less a with
  | true => rw [kcmp_gt h]; simp
  | false =>
    cases h' : a.less b with
    | true => rw [kcmp_lt h']; simp
    | false => rw [kcmp_eq h' h]; simp
theorem kcmp_anti (a b : K) : kcmp a b = -kcmp b a := by
  cases h' : a.less b with
  | true => rw [kcmp_lt h', kcmp_gt h']
  | false =>
    cases h : b.less a with
    | true => rw [kcmp_gt h, kcmp_lt h]; rfl
    | false => rw [kcmp_eq h' h, kcmp_eq h h']; rfl
theorem kcmp_zero (a b : K) : kcmp a b = 0 ↔ a = b := by
  constructor
  · intro h
    refine K.eq_of ?_ ?_
    · cases h' : a.less b with
      | true => rw [kcmp_lt h'] at h; simp at h
      | false => rfl
    · cases h' : b.less a with
      | true => rw [kcmp_gt h'] at h; simp at h
      | false => rfl
  · rintro rfl
    exact kcmp_eq (K.less_irrefl a) (K.less_irrefl a)
theorem kcmp_bd (a b : K) : -1 ≤ kcmp a b ∧ kcmp a b ≤ 1 := by
  have := kc_bd a.n b.n
  have := kc_bd a.p b.p
  unfold kcmp orv
  split <;> omega

/-- The greatest of a list, the first of those that are greatest; the zero one of none. -/
def top1 : K → List K → K
  | m, [] => m
  | m, x :: r => top1 (if m.less x then x else m) r
def lastK : List K → K
  | [] => ⟨0, 0⟩
  | x :: r => top1 x r
theorem top1_append (m : K) (l r : List K) : top1 m (l ++ r) = top1 (top1 m l) r := by
  induction l generalizing m with
  | nil => rfl
  | cons x t ih => exact ih _
theorem lastK_snoc (l : List K) (x : K) (h : l ≠ []) : lastK (l ++ [x]) = if (lastK l).less x then x else lastK l := by
  match l, h with
  | y :: r, _ =>
    show top1 y (r ++ [x]) = _
    rw [top1_append]; rfl
theorem top1_ge (m : K) (l : List K) : (top1 m l).less m = false ∧ ∀ x ∈ l, (top1 m l).less x = false := by
    induction l generalizing m with
    | nil => exact ⟨K.less_irrefl m, fun _ h => by cases h⟩
    | cons y r ih =>
      obtain ⟨h1, h2⟩ := ih (if m.less y then y else m)
      show (top1 _ r).less m = false ∧ _
      by_cases hb : m.less y = true
      · rw [if_pos hb] at h1 h2
        have hm : (top1 y r).less m = false := K.le_trans (K.less_asymm hb) h1
        refine ⟨by rw [if_pos hb]; exact hm, fun x hx => ?_⟩
        show (top1 _ r).less x = false
        rw [if_pos hb]
        rcases List.mem_cons.1 hx with rfl | hx
        · exact h1
        · exact h2 x hx
      · rw [if_neg hb] at h1 h2
        have hy : m.less y = false := by simpa using hb
        refine ⟨by rw [if_neg hb]; exact h1, fun x hx => ?_⟩
        show (top1 _ r).less x = false
        rw [if_neg hb]
        rcases List.mem_cons.1 hx with rfl | hx
        · exact K.le_trans hy h1
        · exact h2 x hx
theorem top1_mem (m : K) (l : List K) : top1 m l = m ∨ top1 m l ∈ l := by
    induction l generalizing m with
    | nil => exact .inl rfl
    | cons y r ih =>
      show top1 _ r = m ∨ top1 _ r ∈ y :: r
      rcases ih (if m.less y then y else m) with h | h
      · rw [h]
        split
        · exact .inr (List.mem_cons_self ..)
        · exact .inl rfl
      · exact .inr (List.mem_cons_of_mem _ h)
theorem lastK_mem (l : List K) (h : l ≠ []) : lastK l ∈ l := by
  match l, h with
  | y :: r, _ =>
    show top1 y r ∈ _
    rcases top1_mem y r with e | e
    · rw [e]; exact List.mem_cons_self ..
    · exact List.mem_cons_of_mem _ e
theorem lastK_ge (l : List K) (x : K) (h : x ∈ l) : (lastK l).less x = false := by
  match l, h with
  | y :: r, h =>
    show (top1 y r).less x = false
    rcases List.mem_cons.1 h with rfl | h
    · exact (top1_ge x r).1
    · exact (top1_ge y r).2 x h
/-- It is the one of the list that none is greater than. -/
theorem lastK_unique (l : List K) (m : K) (hm : m ∈ l) (hg : ∀ x ∈ l, m.less x = false) : lastK l = m :=
  K.eq_of (lastK_ge l m hm) (hg _ (lastK_mem l (by intro e; subst e; cases hm)))
theorem lastK_same (l r : List K) (h : ∀ x, x ∈ l ↔ x ∈ r) : lastK l = lastK r := by
  match l with
  | [] =>
    match r with
    | [] => rfl
    | y :: t => exact absurd ((h y).2 (List.mem_cons_self ..)) (by simp)
  | y :: t =>
    have hr : r ≠ [] := fun e => by subst e; exact absurd ((h y).1 (List.mem_cons_self ..)) (by simp)
    exact lastK_unique _ _ ((h _).2 (lastK_mem r hr)) fun x hx => lastK_ge r x ((h x).1 hx)
end Go.Proofs.YtmaiphgmnammgaaDoor

/- The contracts of package cmp's instances, and of the two orders: Compare, Confs, Of, messages; the document's. -/
set_option linter.unusedVariables false
set_option linter.unusedSimpArgs false
namespace Go.Proofs.YtmaiphgmnammgaaDoor
open Go.RowKit

theorem nanI (x : Int) (w : World) : Calls Tryd.prog 61 #[.int .i64 x] w fun e w' => e = .returned (.bool false) ∧ w = w' := by
  go_enter Tryd.func61, Tryd.ntmps61
  go_wp2
  go_ret
  exact ⟨rfl, rfl⟩
theorem nanU (x : Int) (w : World) : Calls Tryd.prog 60 #[.int .u64 x] w fun e w' => e = .returned (.bool false) ∧ w = w' := by
  go_enter Tryd.func60, Tryd.ntmps60
  go_wp2
  go_ret
  exact ⟨rfl, rfl⟩
theorem cmpI (x y : Int) (w : World) : Calls Tryd.prog 58 #[.int .i64 x, .int .i64 y] w fun e w' => e = .returned (.int .i64 (kc x y)) ∧ w = w' := by
  by_cases h : x < y
  · rw [kc_lt h]
    go_enter Tryd.func58, Tryd.ntmps58
    go_wp2_with (go_at_call 61; refine (nanI _ _).mono ?_; rintro e w' ⟨rfl, rfl⟩)
    go_ret
    exact ⟨rfl, rfl⟩
  · by_cases h2 : y < x
    · rw [kc_gt h2]
      go_enter Tryd.func58, Tryd.ntmps58
      go_wp2_with (go_at_call 61; refine (nanI _ _).mono ?_; rintro e w' ⟨rfl, rfl⟩)
      go_ret
      exact ⟨rfl, rfl⟩
    · rw [kc_eq (by omega)]
      go_enter Tryd.func58, Tryd.ntmps58
      go_wp2_with (go_at_call 61; refine (nanI _ _).mono ?_; rintro e w' ⟨rfl, rfl⟩)
      go_ret
      exact ⟨rfl, rfl⟩
theorem cmpU (x y : Int) (w : World) : Calls Tryd.prog 57 #[.int .u64 x, .int .u64 y] w fun e w' => e = .returned (.int .i64 (kc x y)) ∧ w = w' := by
  by_cases h : x < y
  · rw [kc_lt h]
    go_enter Tryd.func57, Tryd.ntmps57
    go_wp2_with (go_at_call 60; refine (nanU _ _).mono ?_; rintro e w' ⟨rfl, rfl⟩)
    go_ret
    exact ⟨rfl, rfl⟩
  · by_cases h2 : y < x
    · rw [kc_gt h2]
      go_enter Tryd.func57, Tryd.ntmps57
      go_wp2_with (go_at_call 60; refine (nanU _ _).mono ?_; rintro e w' ⟨rfl, rfl⟩)
      go_ret
      exact ⟨rfl, rfl⟩
    · rw [kc_eq (by omega)]
      go_enter Tryd.func57, Tryd.ntmps57
      go_wp2_with (go_at_call 60; refine (nanU _ _).mono ?_; rintro e w' ⟨rfl, rfl⟩)
      go_ret
      exact ⟨rfl, rfl⟩

set_option maxHeartbeats 1000000 in
theorem or_two (a b : Int) (g c : Nat) (w : World) (h0 : w.cell? ⟨g, 0, none⟩ = some (.int .i64 a)) (h1 : w.cell? ⟨g, 1, none⟩ = some (.int .i64 b)) :
    Calls Tryd.prog 56 #[.slice (some ⟨g, 0, none⟩) 2 c] w fun e w' => e = .returned (.int .i64 (orv a b)) ∧ w = w' := by
  by_cases ha : a = 0
  · rw [orv_zero ha]
    subst ha
    go_enter Tryd.func56, Tryd.ntmps56
    go_wp2
    go_loop [8] (fun i => ∃ k : Nat, k ≤ 2 ∧ i = .int .i64 k ∧ (k = 2 → b = 0)) (fun i => 2 - (intOf i).toNat)
    case atStart => exact ⟨0, by omega, rfl, by omega⟩
    case round =>
      obtain ⟨k, hk, rfl, hz⟩ := hrel
      by_cases hk0 : k = 0
      · subst hk0
        clear hz
        go_wp2
        go_round
        case rel => exact ⟨1, by omega, by go_num, by omega⟩
        case measure => simp [intOf]
      · by_cases hk1 : k = 1
        · subst hk1
          clear hz
          by_cases hb : b = 0
          · subst hb
            go_wp2
            go_round
            case rel => exact ⟨2, by omega, by go_num, by intros; trivial⟩
            case measure => simp [intOf]
          · go_wp2
            go_ret
            exact ⟨rfl, rfl⟩
        · obtain rfl : k = 2 := by omega
          have hb := hz rfl
          subst hb
          clear hz
          go_wp2
          go_ret
          exact ⟨rfl, rfl⟩
  · rw [orv_else ha]
    go_enter Tryd.func56, Tryd.ntmps56
    go_wp2
    go_loop [8] (fun i => i = .int .i64 0) (fun i => 2 - (intOf i).toNat)
    case atStart => rfl
    case round =>
      subst hrel
      go_wp2
      go_ret
      exact ⟨rfl, rfl⟩
end Go.Proofs.YtmaiphgmnammgaaDoor

/- The contracts of the two orders: Compare, Confs. -/
set_option linter.unusedVariables false
set_option linter.unusedSimpArgs false
set_option maxRecDepth 100000
namespace Go.Proofs.YtmaiphgmnammgaaDoor
open Go.RowKit Go.Sort

theorem flipped {P : Program} {f : FuncId} {args : Array Value} {w : World} {v : Value} (h : Calls P f args w fun e w' => e = .returned v ∧ w = w') : Calls P f args w fun e w' => e = .returned v ∧ w' = w :=
  h.mono fun _ _ ⟨he, hw⟩ => ⟨he, hw.symm⟩


set_option maxHeartbeats 1000000 in
theorem confs_any (a b : K) (w : World) : Calls Tryd.prog 50 #[.agg #[.int .u64 a.n, .int .i64 a.p], .agg #[.int .u64 b.n, .int .i64 b.p]] w fun e w' => e = .returned (.int .i64 (kcmp a b)) ∧ Grw w w' := by
  obtain ⟨an, ap⟩ := a
  obtain ⟨bn, bp⟩ := b
  show Calls Tryd.prog 50 #[.agg #[.int .u64 an, .int .i64 ap], .agg #[.int .u64 bn, .int .i64 bp]] w fun e w' => e = .returned (.int .i64 (orv (kc an bn) (kc ap bp))) ∧ Grw w w'
  generalize hr1 : kc an bn = r1
  generalize hr2 : kc ap bp = r2
  have c1 : ∀ W, Calls Tryd.prog 57 #[.int .u64 an, .int .u64 bn] W fun e w' => e = .returned (.int .i64 r1) ∧ w' = W := fun W => by rw [← hr1]; exact flipped (cmpU _ _ _)
  have c2 : ∀ W, Calls Tryd.prog 58 #[.int .i64 ap, .int .i64 bp] W fun e w' => e = .returned (.int .i64 r2) ∧ w' = W := fun W => by rw [← hr2]; exact flipped (cmpI _ _ _)
  clear hr1 hr2
  go_enter Tryd.func50, Tryd.ntmps50
  go_wp2
  generalize hW : ((w.alloc (.cells #[.int .u64 an, .int .i64 ap] 24)).alloc (.cells #[.int .u64 bn, .int .i64 bp] 24)) = W
  have k1 : W.drew.cell? ⟨w.heap.size, 0, none⟩ = some (.int .u64 an) := by rw [← hW]; simp
  have k2 : W.drew.cell? ⟨w.heap.size, 1, none⟩ = some (.int .i64 ap) := by rw [← hW]; simp
  have k3 : W.drew.cell? ⟨w.heap.size + 1, 0, none⟩ = some (.int .u64 bn) := by rw [← hW]; simp
  have k4 : W.drew.cell? ⟨w.heap.size + 1, 1, none⟩ = some (.int .i64 bp) := by rw [← hW]; simp
  have G : Grw w W.drew := by rw [← hW]; exact (((Grw.refl _).alloc _).alloc _).drew
  clear hW
  refine wp_region_still_tail 10 (by kernel_rfl) (by kernel_rfl) ?_
  simp only [List.take_succ_cons, List.take_zero, List.drop_succ_cons, List.drop_zero]
  change wpStill _ _ W.drew (fun a' => wpList _ _ _ _ a' W.drew) _ _
  generalize W.drew = V at k1 k2 k3 k4 G ⊢
  iterate 4 still_step
  still_call (c1 _)
  iterate 4 still_step
  still_call (c2 _)
  refine wpStill_nil ?_
  go_wp2_with fail
  refine (or_two r1 r2 _ _ _ (by simp) (by simp)).mono ?_
  rintro e w' ⟨rfl, rfl⟩
  go_wp2
  go_ret
  exact ⟨rfl, G.alloc _⟩
end Go.Proofs.YtmaiphgmnammgaaDoor

/- What All answers of two lists of the same messages. -/
set_option linter.unusedVariables false
set_option linter.unusedSimpArgs false
namespace Go.Proofs.YtmaiphgmnammgaaDoor
open Go.RowKit Go.Sort

end Go.Proofs.YtmaiphgmnammgaaDoor

/- Messages as values; the contracts of Of and messages; the document's Less, ConfLess, sign, Compare, Confs, Of. -/
set_option linter.unusedVariables false
set_option linter.unusedSimpArgs false
namespace Go.Proofs.YtmaiphgmnammgaaDoor
open Go.RowKit Go.Sort

def Mg.key (m : Mg) : K := ⟨m.s, m.f⟩
set_option maxHeartbeats 1000000 in
theorem confLess_any (a b : K) (w : World) : Calls Tryd.prog 29 #[.agg #[.int .u64 a.n, .int .i64 a.p], .agg #[.int .u64 b.n, .int .i64 b.p]] w fun e w' => e = .returned (.bool (a.less b)) ∧ Grw w w' := by
  obtain ⟨an, ap⟩ := a
  obtain ⟨bn, bp⟩ := b
  show Calls Tryd.prog 29 #[.agg #[.int .u64 an, .int .i64 ap], .agg #[.int .u64 bn, .int .i64 bp]] w fun e w' => e = .returned (.bool (K.less ⟨an, ap⟩ ⟨bn, bp⟩)) ∧ Grw w w'
  by_cases h1 : an < bn
  · have hr : K.less ⟨an, ap⟩ ⟨bn, bp⟩ = true := (K.less_iff _ _).2 (.inl h1)
    rw [hr]
    clear hr
    go_enter Tryd.func29, Tryd.ntmps29
    go_wp2
    go_ret
    exact ⟨rfl, ((Grw.refl _).alloc _).alloc _⟩
  · by_cases h2 : an = bn
    · subst h2
      by_cases h3 : ap < bp
      · have hr : K.less ⟨an, ap⟩ ⟨an, bp⟩ = true := (K.less_iff _ _).2 (.inr ⟨rfl, h3⟩)
        rw [hr]
        clear hr h1
        go_enter Tryd.func29, Tryd.ntmps29
        go_wp2
        go_ret
        exact ⟨rfl, ((Grw.refl _).alloc _).alloc _⟩
      · have hr : K.less ⟨an, ap⟩ ⟨an, bp⟩ = false := (K.less_not _ _).2 (.inr ⟨rfl, by simp only; omega⟩)
        rw [hr]
        clear hr h1
        go_enter Tryd.func29, Tryd.ntmps29
        go_wp2
        go_ret
        exact ⟨rfl, ((Grw.refl _).alloc _).alloc _⟩
    · have hr : K.less ⟨an, ap⟩ ⟨bn, bp⟩ = false := (K.less_not _ _).2 (.inl (by simp only; omega))
      rw [hr]
      clear hr
      go_enter Tryd.func29, Tryd.ntmps29
      go_wp2
      go_ret
      exact ⟨rfl, ((Grw.refl _).alloc _).alloc _⟩

end Go.Proofs.YtmaiphgmnammgaaDoor

/- A slice whose elements take k cells each; two cells of the call's own; the greatest key of a list. -/
set_option linter.unusedVariables false
set_option linter.unusedSimpArgs false
namespace Go.Proofs.YtmaiphgmnammgaaDoor
open Go.RowKit Go.Sort

/-- A key's two cells. -/
def encK12 (a : K) : List Value := [.int .u64 a.n, .int .i64 a.p]

/-- Two cells of one block, neither frozen. -/
structure Two (w : World) (g : Nat) (a b : Value) : Prop where
  c0 : w.cell? ⟨g, 0, none⟩ = some a
  c1 : w.cell? ⟨g, 1, none⟩ = some b
  f0 : w.frozen? ⟨g, 0, none⟩ = false
  f1 : w.frozen? ⟨g, 1, none⟩ = false
theorem Two.keep {w w' : World} {g : Nat} {a b : Value} (h : Two w g a b) (hc : ∀ i, w'.cell? ⟨g, i, none⟩ = w.cell? ⟨g, i, none⟩) (hf : ∀ i, w'.frozen? ⟨g, i, none⟩ = w.frozen? ⟨g, i, none⟩) : Two w' g a b :=
  ⟨(hc 0).trans h.c0, (hc 1).trans h.c1, (hf 0).trans h.f0, (hf 1).trans h.f1⟩
theorem Two.below {w w' : World} {g : Nat} {a b : Value} (h : Two w g a b) {B : Nat} (hb : Below B w w') (hg : g < B) : Two w' g a b :=
  h.keep (fun i => hb.cell (p := ⟨g, i, none⟩) hg) (fun i => hb.frozen (p := ⟨g, i, none⟩) hg)
theorem Two.lt {w : World} {g : Nat} {a b : Value} (h : Two w g a b) : g < w.heap.size := World.block_lt_of_cell? (a := ⟨g, 0, none⟩) _ h.c0
theorem Two.alloc {w : World} {g : Nat} {a b : Value} (h : Two w g a b) (o : Obj) : Two (w.alloc o) g a b :=
  h.below ((Below.refl w.heap.size w).alloc (Nat.le_refl _) o) h.lt

theorem lastK_next (l : List K) (k : Nat) (x : K) (hx : l[k]? = some x) : lastK (l.take (k + 1)) = if k = 0 then x else if (lastK (l.take k)).less x then x else lastK (l.take k) := by
  obtain ⟨hlt, rfl⟩ := List.getElem?_eq_some_iff.1 hx
  rw [List.take_succ_eq_append_getElem hlt]
  by_cases h0 : k = 0
  · subst h0; rw [if_pos rfl]; rfl
  · rw [if_neg h0, lastK_snoc]
    intro e
    have := congrArg List.length e
    rw [List.length_take, List.length_nil] at this
    omega
theorem Two.set {w : World} {g : Nat} {a b : Value} (h : Two w g a b) (u v : Value) : Two ((w.setCell ⟨g, 0, none⟩ u).setCell ⟨g, 1, none⟩ v) g u v := by
  obtain ⟨c0, c1, f0, f1⟩ := h
  refine ⟨?_, ?_, by rw [World.frozen?_setCell, World.frozen?_setCell]; exact f0, by rw [World.frozen?_setCell, World.frozen?_setCell]; exact f1⟩
  · rw [World.cell?_setCell_other _ _ _ _ (by intro e; injection e; omega)]
    exact World.cell?_setCell_same' _ _ _ (by rw [c0]; rfl)
  · refine World.cell?_setCell_same' _ _ _ ?_
    rw [World.cell?_setCell_other _ _ _ _ (by intro e; injection e; omega), c1]; rfl
theorem Two.far {w : World} {g : Nat} {a b : Value} (h : Two w g a b) {p : Addr} (hp : p.block ≠ g) (u : Value) : Two (w.setCell p u) g a b :=
  h.keep (fun i => World.cell?_setCell_other _ _ _ _ (by intro e; apply hp; rw [e])) (fun i => World.frozen?_setCell ..)

end Go.Proofs.YtmaiphgmnammgaaDoor
