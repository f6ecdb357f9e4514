/- Plain facts on numbers: the order of keys. -/
import Derived.Lib.Hide
import Derived.Test.YtfocjcdfpnbkjaaRows
import Derived.WalkKit
import Derived.ProofKit
import Derived.OpenShut
import Derived.Sort.Grow
import Derived.Laws.Rows
import Derived.Below
import Derived.Test.YtfocjcdfpnbkjaaZGrws
import Derived.StillTailTactics
import Derived.Deep.QuietTactic
import Derived.BigQuiet
import Derived.Test.YtfocjcdfpnbkjaaZSMsg
import Derived.Shelf.SlSortCmp.KitK
import Derived.Sort.LotA
import Derived.Sort.WalkB2
import Derived.Sort.WalkB12
import Derived.Deep.LoopGhost
import Derived.Deep.SlicePairs
import Derived.Shelf.SlicesE.Clone
namespace Go.Proofs.Ytfocjcdfpnbkjaa

/-- -1, 0 or 1: how two numbers stand. -/
def kc (x y : Int) : Int := if x < y then -1 else if y < x then 1 else 0
theorem kc_lt {x y : Int} (h : x < y) : kc x y = -1 := by unfold kc; rw [if_pos h]
theorem kc_gt {x y : Int} (h : y < x) : kc x y = 1 := by unfold kc; rw [if_neg (by omega), if_pos h]
theorem kc_eq {x y : Int} (h : x = y) : kc x y = 0 := by unfold kc; rw [if_neg (by omega), if_neg (by omega)]
theorem kc_bd (x y : Int) : -1 ≤ kc x y ∧ kc x y ≤ 1 := by unfold kc; split <;> (try split) <;> omega
/-- The first of two that isn't 0. -/
def orv (a b : Int) : Int := if a = 0 then b else a
theorem orv_zero {a b : Int} (h : a = 0) : orv a b = b := by unfold orv; rw [if_pos h]
theorem orv_else {a b : Int} (h : a ≠ 0) : orv a b = a := by unfold orv; rw [if_neg h]

/-- A key: its stamp, then its sender (a configuration: its epoch, then its representative). -/
structure K where
  n : Int
  p : Int
  deriving Inhabited, DecidableEq
def K.less (a b : K) : Bool := decide (a.n < b.n) || (decide (a.n = b.n) && decide (a.p < b.p))
theorem K.less_iff (a b : K) : a.less b = true ↔ a.n < b.n ∨ a.n = b.n ∧ a.p < b.p := by unfold K.less; simp
theorem K.less_not (a b : K) : a.less b = false ↔ b.n < a.n ∨ a.n = b.n ∧ b.p ≤ a.p := by
  rw [← Bool.not_eq_true, K.less_iff]; omega
def kcmp (a b : K) : Int := orv (kc a.n b.n) (kc a.p b.p)
theorem kcmp_lt {a b : K} (h : a.less b = true) : kcmp a b = -1 := by
  rw [K.less_iff] at h
  unfold kcmp
  rcases h with h | ⟨h1, h2⟩
  · rw [kc_lt h, orv_else (by decide)]
  · rw [kc_eq h1, orv_zero rfl, kc_lt h2]
theorem kcmp_gt {a b : K} (h : b.less a = true) : kcmp a b = 1 := by
  rw [K.less_iff] at h
  unfold kcmp
  rcases h with h | ⟨h1, h2⟩
  · rw [kc_gt h, orv_else (by decide)]
  · rw [kc_eq h1.symm, orv_zero rfl, kc_gt h2]
theorem kcmp_eq {a b : K} (h : a.less b = false) (h' : b.less a = false) : kcmp a b = 0 := by
  rw [K.less_not] at h h'
  unfold kcmp
  rw [kc_eq (by omega), orv_zero rfl, kc_eq (by omega)]
theorem K.less_irrefl (a : K) : a.less a = false := by rw [K.less_not]; omega
theorem K.less_asymm {a b : K} (h : a.less b = true) : b.less a = false := by rw [K.less_iff] at h; rw [K.less_not]; omega
theorem K.less_trans {a b c : K} (h : a.less b = true) (h' : b.less c = true) : a.less c = true := by rw [K.less_iff] at *; omega
/-- 'Not behind' is transitive. -/
theorem K.le_trans {a b c : K} (h : b.less a = false) (h' : c.less b = false) : c.less a = false := by rw [K.less_not] at *; omega
theorem K.eq_of {a b : K} (h : a.less b = false) (h' : b.less a = false) : a = b := by
  rw [K.less_not] at h h'
  obtain ⟨n, p⟩ := a
  obtain ⟨m, q⟩ := b
  simp only at h h'
  obtain rfl : n = m := by omega
  obtain rfl : p = q := by omega
  rfl
theorem kcmp_le (a b : K) : kcmp a b ≤ 0 ↔ b.less a = false := by
  cases h : b.less a with
  | true => rw [kcmp_gt h]; simp
  | false =>
    cases h' : a.less b with
    | true => rw [kcmp_lt h']; simp
    | false => rw [kcmp_eq h' h]; simp
theorem kcmp_neg (a b : K) : kcmp a b < 0 ↔ a.less b = true := by
  cases h' : a.less b with
  | true => rw [kcmp_lt h']; simp
  | false =>
    cases h : b.less a with
    | true => rw [kcmp_gt h]; simp
    | false => rw [kcmp_eq h' h]; simp
theorem kcmp_pos (a b : K) : 0 < kcmp a b ↔ b.less a = true := by
  cases h : b.less a with
  | true => rw [kcmp_gt h]; simp
  | false =>
    cases h' : a.less b with
    | true => rw [kcmp_lt h']; simp
    | false => rw [kcmp_eq h' h]; simp
theorem kcmp_anti (a b : K) : kcmp a b = -kcmp b a := by
  cases h' : a.less b with
  | true => rw [kcmp_lt h', kcmp_gt h']
  | false =>
    cases h : b.less a with
    | true => rw [kcmp_gt h, kcmp_lt h]; rfl
    | false => rw [kcmp_eq h' h, kcmp_eq h h']; rfl
theorem kcmp_zero (a b : K) : kcmp a b = 0 ↔ a = b := by
  constructor
  · intro h
    refine K.eq_of ?_ ?_
    · cases h' : a.less b with
      | true => rw [kcmp_lt h'] at h; simp at h
      | false => rfl
    · cases h' : b.less a with
      | true => rw [kcmp_gt h'] at h; simp at h
      | false => rfl
  · rintro rfl
    exact kcmp_eq (K.less_irrefl a) (K.less_irrefl a)
theorem kcmp_bd (a b : K) : -1 ≤ kcmp a b ∧ kcmp a b ≤ 1 := by
  have := kc_bd a.n b.n
  have := kc_bd a.p b.p
  unfold kcmp orv
  split <;> omega

/-- The greatest of a list, the first of those that are greatest; the zero one of none. -/
def top1 : K → List K → K
  | m, [] => m
  | m, x :: r => top1 (if m.less x then x else m) r
def lastK : List K → K
  | [] => ⟨0, 0⟩
  | x :: r => top1 x r
theorem top1_append (m : K) (l r : List K) : top1 m (l ++ r) = top1 (top1 m l) r := by
  induction l generalizing m with
  | nil => rfl
  | cons x t ih => exact ih _
theorem lastK_snoc (l : List K) (x : K) (h : l ≠ []) : lastK (l ++ [x]) = if (lastK l).less x then x else lastK l := by
  match l, h with
  | y :: r, _ =>
    show top1 y (r ++ [x]) = _
    rw [top1_append]; rfl
theorem top1_ge (m : K) (l : List K) : (top1 m l).less m = false ∧ ∀ x ∈ l, (top1 m l).less x = false := by
    induction l generalizing m with
    | nil => exact ⟨K.less_irrefl m, fun _ h => by cases h⟩
    | cons y r ih =>
      obtain ⟨h1, h2⟩ := ih (if m.less y then y else m)
      show (top1 _ r).less m = false ∧ _
      by_cases hb : m.less y = true
      · rw [if_pos hb] at h1 h2
        have hm : (top1 y r).less m = false := K.le_trans (K.less_asymm hb) h1
        refine ⟨by rw [if_pos hb]; exact hm, fun x hx => ?_⟩
        show (top1 _ r).less x = false
        rw [if_pos hb]
        rcases List.mem_cons.1 hx with rfl | hx
        · exact h1
        · exact h2 x hx
      · rw [if_neg hb] at h1 h2
        have hy : m.less y = false := by simpa using hb
        refine ⟨by rw [if_neg hb]; exact h1, fun x hx => ?_⟩
        show (top1 _ r).less x = false
        rw [if_neg hb]
        rcases List.mem_cons.1 hx with rfl | hx
        · exact K.le_trans hy h1
        · exact h2 x hx
theorem top1_mem (m : K) (l : List K) : top1 m l = m ∨ top1 m l ∈ l := by
    induction l generalizing m with
    | nil => exact .inl rfl
    | cons y r ih =>
      show top1 _ r = m ∨ top1 _ r ∈ y :: r
      rcases ih (if m.less y then y else m) with h | h
      · rw [h]
        split
        · exact .inr (List.mem_cons_self ..)
        · exact .inl rfl
      · exact .inr (List.mem_cons_of_mem _ h)
theorem lastK_mem (l : List K) (h : l ≠ []) : lastK l ∈ l := by
  match l, h with
  | y :: r, _ =>
    show top1 y r ∈ _
    rcases top1_mem y r with e | e
    · rw [e]; exact List.mem_cons_self ..
    · exact List.mem_cons_of_mem _ e
theorem lastK_ge (l : List K) (x : K) (h : x ∈ l) : (lastK l).less x = false := by
  match l, h with
  | y :: r, h =>
    show (top1 y r).less x = false
    rcases List.mem_cons.1 h with rfl | h
    · exact (top1_ge x r).1
    · exact (top1_ge y r).2 x h
/-- It is the one of the list that none is greater than. -/
theorem lastK_unique (l : List K) (m : K) (hm : m ∈ l) (hg : ∀ x ∈ l, m.less x = false) : lastK l = m :=
  K.eq_of (lastK_ge l m hm) (hg _ (lastK_mem l (by intro e; subst e; cases hm)))
theorem lastK_same (l r : List K) (h : ∀ x, x ∈ l ↔ x ∈ r) : lastK l = lastK r := by
  match l with
  | [] =>
    match r with
    | [] => rfl
    | y :: t => exact absurd ((h y).2 (List.mem_cons_self ..)) (by simp)
  | y :: t =>
    have hr : r ≠ [] := fun e => by subst e; exact absurd ((h y).1 (List.mem_cons_self ..)) (by simp)
    exact lastK_unique _ _ ((h _).2 (lastK_mem r hr)) fun x hx => lastK_ge r x ((h x).1 hx)
end Go.Proofs.Ytfocjcdfpnbkjaa

/- The contracts of package cmp's instances, and of the two orders: Compare, Confs, Of, messages; the document's. -/
set_option linter.unusedVariables false
set_option linter.unusedSimpArgs false
namespace Go.Proofs.Ytfocjcdfpnbkjaa
open Go.RowKit

theorem nanI (x : Int) (w : World) : Calls Try.prog 118 #[.int .i64 x] w fun e w' => e = .returned (.bool false) ∧ w = w' := by
  go_enter Try.func118, Try.ntmps118
  go_wp2
  go_ret
  exact ⟨rfl, rfl⟩
theorem nanU (x : Int) (w : World) : Calls Try.prog 117 #[.int .u64 x] w fun e w' => e = .returned (.bool false) ∧ w = w' := by
  go_enter Try.func117, Try.ntmps117
  go_wp2
  go_ret
  exact ⟨rfl, rfl⟩
theorem cmpI (x y : Int) (w : World) : Calls Try.prog 82 #[.int .i64 x, .int .i64 y] w fun e w' => e = .returned (.int .i64 (kc x y)) ∧ w = w' := by
  by_cases h : x < y
  · rw [kc_lt h]
    go_enter Try.func82, Try.ntmps82
    go_wp2_with (go_at_call 118; refine (nanI _ _).mono ?_; rintro e w' ⟨rfl, rfl⟩)
    go_ret
    exact ⟨rfl, rfl⟩
  · by_cases h2 : y < x
    · rw [kc_gt h2]
      go_enter Try.func82, Try.ntmps82
      go_wp2_with (go_at_call 118; refine (nanI _ _).mono ?_; rintro e w' ⟨rfl, rfl⟩)
      go_ret
      exact ⟨rfl, rfl⟩
    · rw [kc_eq (by omega)]
      go_enter Try.func82, Try.ntmps82
      go_wp2_with (go_at_call 118; refine (nanI _ _).mono ?_; rintro e w' ⟨rfl, rfl⟩)
      go_ret
      exact ⟨rfl, rfl⟩
theorem cmpU (x y : Int) (w : World) : Calls Try.prog 81 #[.int .u64 x, .int .u64 y] w fun e w' => e = .returned (.int .i64 (kc x y)) ∧ w = w' := by
  by_cases h : x < y
  · rw [kc_lt h]
    go_enter Try.func81, Try.ntmps81
    go_wp2_with (go_at_call 117; refine (nanU _ _).mono ?_; rintro e w' ⟨rfl, rfl⟩)
    go_ret
    exact ⟨rfl, rfl⟩
  · by_cases h2 : y < x
    · rw [kc_gt h2]
      go_enter Try.func81, Try.ntmps81
      go_wp2_with (go_at_call 117; refine (nanU _ _).mono ?_; rintro e w' ⟨rfl, rfl⟩)
      go_ret
      exact ⟨rfl, rfl⟩
    · rw [kc_eq (by omega)]
      go_enter Try.func81, Try.ntmps81
      go_wp2_with (go_at_call 117; refine (nanU _ _).mono ?_; rintro e w' ⟨rfl, rfl⟩)
      go_ret
      exact ⟨rfl, rfl⟩

set_option maxHeartbeats 1000000 in
theorem or_two (a b : Int) (g c : Nat) (w : World) (h0 : w.cell? ⟨g, 0, none⟩ = some (.int .i64 a)) (h1 : w.cell? ⟨g, 1, none⟩ = some (.int .i64 b)) :
    Calls Try.prog 80 #[.slice (some ⟨g, 0, none⟩) 2 c] w fun e w' => e = .returned (.int .i64 (orv a b)) ∧ w = w' := by
  by_cases ha : a = 0
  · rw [orv_zero ha]
    subst ha
    go_enter Try.func80, Try.ntmps80
    go_wp2
    go_loop [8] (fun i => ∃ k : Nat, k ≤ 2 ∧ i = .int .i64 k ∧ (k = 2 → b = 0)) (fun i => 2 - (intOf i).toNat)
    case atStart => exact ⟨0, by omega, rfl, by omega⟩
    case round =>
      obtain ⟨k, hk, rfl, hz⟩ := hrel
      by_cases hk0 : k = 0
      · subst hk0
        clear hz
        go_wp2
        go_round
        case rel => exact ⟨1, by omega, by go_num, by omega⟩
        case measure => simp [intOf]
      · by_cases hk1 : k = 1
        · subst hk1
          clear hz
          by_cases hb : b = 0
          · subst hb
            go_wp2
            go_round
            case rel => exact ⟨2, by omega, by go_num, by intros; trivial⟩
            case measure => simp [intOf]
          · go_wp2
            go_ret
            exact ⟨rfl, rfl⟩
        · obtain rfl : k = 2 := by omega
          have hb := hz rfl
          subst hb
          clear hz
          go_wp2
          go_ret
          exact ⟨rfl, rfl⟩
  · rw [orv_else ha]
    go_enter Try.func80, Try.ntmps80
    go_wp2
    go_loop [8] (fun i => i = .int .i64 0) (fun i => 2 - (intOf i).toNat)
    case atStart => rfl
    case round =>
      subst hrel
      go_wp2
      go_ret
      exact ⟨rfl, rfl⟩
end Go.Proofs.Ytfocjcdfpnbkjaa

/- The contracts of the two orders: Compare, Confs. -/
set_option linter.unusedVariables false
set_option linter.unusedSimpArgs false
set_option maxRecDepth 100000
namespace Go.Proofs.Ytfocjcdfpnbkjaa
open Go.RowKit Go.Sort

theorem flipped {P : Program} {f : FuncId} {args : Array Value} {w : World} {v : Value} (h : Calls P f args w fun e w' => e = .returned v ∧ w = w') : Calls P f args w fun e w' => e = .returned v ∧ w' = w :=
  h.mono fun _ _ ⟨he, hw⟩ => ⟨he, hw.symm⟩


set_option maxHeartbeats 1000000 in
theorem compare_any (a b : K) (w : World) : Calls Try.prog 30 #[.agg #[.int .u64 a.n, .int .i64 a.p], .agg #[.int .u64 b.n, .int .i64 b.p]] w fun e w' => e = .returned (.int .i64 (kcmp a b)) ∧ Grw w w' := by
  obtain ⟨an, ap⟩ := a
  obtain ⟨bn, bp⟩ := b
  show Calls Try.prog 30 #[.agg #[.int .u64 an, .int .i64 ap], .agg #[.int .u64 bn, .int .i64 bp]] w fun e w' => e = .returned (.int .i64 (orv (kc an bn) (kc ap bp))) ∧ Grw w w'
  generalize hr1 : kc an bn = r1
  generalize hr2 : kc ap bp = r2
  have c1 : ∀ W, Calls Try.prog 81 #[.int .u64 an, .int .u64 bn] W fun e w' => e = .returned (.int .i64 r1) ∧ w' = W := fun W => by rw [← hr1]; exact flipped (cmpU _ _ _)
  have c2 : ∀ W, Calls Try.prog 82 #[.int .i64 ap, .int .i64 bp] W fun e w' => e = .returned (.int .i64 r2) ∧ w' = W := fun W => by rw [← hr2]; exact flipped (cmpI _ _ _)
  clear hr1 hr2
  go_enter Try.func30, Try.ntmps30
  go_wp2
  generalize hW : ((w.alloc (.cells #[.int .u64 an, .int .i64 ap] 39)).alloc (.cells #[.int .u64 bn, .int .i64 bp] 39)) = W
  have k1 : W.drew.cell? ⟨w.heap.size, 0, none⟩ = some (.int .u64 an) := by rw [← hW]; simp
  have k2 : W.drew.cell? ⟨w.heap.size, 1, none⟩ = some (.int .i64 ap) := by rw [← hW]; simp
  have k3 : W.drew.cell? ⟨w.heap.size + 1, 0, none⟩ = some (.int .u64 bn) := by rw [← hW]; simp
  have k4 : W.drew.cell? ⟨w.heap.size + 1, 1, none⟩ = some (.int .i64 bp) := by rw [← hW]; simp
  have G : Grw w W.drew := by rw [← hW]; exact (((Grw.refl _).alloc _).alloc _).drew
  clear hW
  refine wp_region_still_tail 10 (by kernel_rfl) (by kernel_rfl) ?_
  simp only [List.take_succ_cons, List.take_zero, List.drop_succ_cons, List.drop_zero]
  change wpStill _ _ W.drew (fun a' => wpList _ _ _ _ a' W.drew) _ _
  generalize W.drew = V at k1 k2 k3 k4 G ⊢
  iterate 4 still_step
  still_call (c1 _)
  iterate 4 still_step
  still_call (c2 _)
  refine wpStill_nil ?_
  go_wp2_with fail
  refine (or_two r1 r2 _ _ _ (by simp) (by simp)).mono ?_
  rintro e w' ⟨rfl, rfl⟩
  go_wp2
  go_ret
  exact ⟨rfl, G.alloc _⟩

end Go.Proofs.Ytfocjcdfpnbkjaa

/- What All answers of two lists of the same messages. -/
set_option linter.unusedVariables false
set_option linter.unusedSimpArgs false
namespace Go.Proofs.Ytfocjcdfpnbkjaa
open Go.RowKit Go.Sort

set_option maxHeartbeats 4000000 in
theorem allG_any (ao bo : Option Addr) (len ac bc : Nat) (l r : List Mg) (w : World) (ha : Lst encG 6 w ao len l) (hb : Lst encG 6 w bo len r) (hd : ∀ m ∈ l, DpIn w m) (hd2 : ∀ m ∈ r, DpIn w m) (hdl : ∀ m ∈ l, m.dl ≤ 1048576)
    (hsm : ∀ (i : Nat) (x y : Mg), l[i]? = some x → r[i]? = some y → sameG x y = true) (hl : len ≤ 1048576) :
    Calls Try.prog 20 #[.slice ao len ac, .slice bo len bc] w fun e w' => e = .returned (.bool true) ∧ Grw w w' := by
  have HA := Lib.hid ha
  have HB := Lib.hid hb
  have HD := Lib.hid hd
  have HD2 := Lib.hid hd2
  have HDL := Lib.hid hdl
  have HSM := Lib.hid hsm
  have mixed : Try.prog.follows .mixedOrders = true := by kernel_rfl
  clear ha hb hd hd2 hdl hsm
  go_enter Try.func20, Try.ntmps20
  go_wp2
  go_loopw [5] (fun si wr => ∃ k : Nat, k ≤ len ∧ si = .int .i64 k ∧ Grw w wr) (fun si _ => len - (intOf si).toNat)
  case atStart => exact ⟨0, Nat.zero_le _, rfl, Grw.refl _⟩
  case round =>
    obtain ⟨k, hk, rfl, hGG⟩ := hrel
    have hB := hGG.below
    by_cases hlt : k < len
    · obtain ⟨b1, o1, x, rfl, hx, hb1, h1⟩ := HA.out.atG hlt
      obtain ⟨b2, o2, y, rfl, hy, hb2, h2⟩ := HB.out.atG hlt
      have hdx : DpIn wr x := (HD.out x (List.mem_of_getElem? hx)).below hB
      have hdy : DpIn wr y := (HD2.out y (List.mem_of_getElem? hy)).below hB
      have hs : ∀ n os, Calls Try.prog 69 #[.agg (encG x).toArray, .agg (encG y).toArray] (grow (wr.drewN n) os) fun e w' => e = .returned (.bool true) ∧ ∃ q os', w' = grow ((grow (wr.drewN n) os).drewN q) os' := fun n os => by
        have hd2 : DpIn (grow (wr.drewN n) os) x := hdx.below (Grw.below ⟨n, os, rfl⟩)
        have hd3 : DpIn (grow (wr.drewN n) os) y := hdy.below (Grw.below ⟨n, os, rfl⟩)
        have := sameG_any x y _ hd2 hd3 (HDL.out x (List.mem_of_getElem? hx))
        rw [HSM.out k x y hx hy] at this
        exact this
      have hbw := hB.size
      have c1 : ∀ c v, (encG x)[c]? = some v → ∀ n os, (grow (wr.drewN n) os).cell? ⟨b1, o1 + k * 6 + c, none⟩ = some v := fun c v hv => cell_grown (by show b1 < wr.heap.size; omega) (cell_later hB (h1 c v hv))
      have c2 : ∀ c v, (encG y)[c]? = some v → ∀ n os, (grow (wr.drewN n) os).cell? ⟨b2, o2 + k * 6 + c, none⟩ = some v := fun c v hv => cell_grown (by show b2 < wr.heap.size; omega) (cell_later hB (h2 c v hv))
      have HBB := Lib.hid hGG
      clear h1 h2 hx hy hdx hdy hbw hB hGG
      obtain ⟨f, q, s, v, a, dl, dc, deps, text⟩ := x
      obtain ⟨f', q', s', v', a', dl', dc', deps', text'⟩ := y
      simp only [encG] at hs
      have a0 := c1 0 _ rfl
      have a1 := c1 1 _ rfl
      have a2 := c1 2 _ rfl
      have a3 := c1 3 _ rfl
      have a4 := c1 4 _ rfl
      have a5 := c1 5 _ rfl
      have b0 := c2 0 _ rfl
      have b1 := c2 1 _ rfl
      have b2 := c2 2 _ rfl
      have b3 := c2 3 _ rfl
      have b4 := c2 4 _ rfl
      have b5 := c2 5 _ rfl
      simp only [Nat.add_zero] at a0 b0
      clear c1 c2
      go_wp2_with fail
      go_quiet_grown ((go_at_call 69; exact Calls.grown_of (hs _ _)))
      go_wp2_with fail
      go_roundw
      case rel => exact ⟨k + 1, by omega, by go_num, HBB.out.trans ⟨nq, osq, rfl⟩⟩
      case measure => simp [intOf]; omega
    · go_wp2
      go_ret
      exact ⟨rfl, hGG⟩
end Go.Proofs.Ytfocjcdfpnbkjaa

/- Messages as values; the contracts of Of and messages; the document's Less, ConfLess, sign, Compare, Confs, Of. -/
set_option linter.unusedVariables false
set_option linter.unusedSimpArgs false
namespace Go.Proofs.Ytfocjcdfpnbkjaa
open Go.RowKit Go.Sort

def Mg.key (m : Mg) : K := ⟨m.s, m.f⟩
theorem of12_any (m : Mg) (w : World) : Calls Try.prog 31 #[.agg (encG m).toArray] w fun e w' => e = .returned (.agg #[.int .u64 m.key.n, .int .i64 m.key.p]) ∧ Grw w w' := by
  obtain ⟨f, q, s, v, a, dl, dc, deps, text⟩ := m
  show Calls Try.prog 31 #[.agg #[.int .i64 f, .int .u32 q, .int .u64 s, .int .i64 v, .slice a dl dc, .string text]] w fun e w' => e = .returned (.agg #[.int .u64 s, .int .i64 f]) ∧ Grw w w'
  go_enter Try.func31, Try.ntmps31
  go_wp2
  exact bodyPost_ret (v := .agg #[.int .u64 s, .int .i64 f]) (by simp [results, Try.results31, go_sem]) rfl ⟨rfl, ((Grw.refl _).alloc _).alloc _⟩
theorem refOf12_any (m : Mg) (w : World) : Calls Try.prog 79 #[.agg (encG m).toArray] w fun e w' => e = .returned (.agg #[.int .u64 m.key.n, .int .i64 m.key.p]) ∧ Grw w w' := by
  obtain ⟨f, q, s, v, a, dl, dc, deps, text⟩ := m
  show Calls Try.prog 79 #[.agg #[.int .i64 f, .int .u32 q, .int .u64 s, .int .i64 v, .slice a dl dc, .string text]] w fun e w' => e = .returned (.agg #[.int .u64 s, .int .i64 f]) ∧ Grw w w'
  go_enter Try.func79, Try.ntmps79
  go_wp2
  exact bodyPost_ret (v := .agg #[.int .u64 s, .int .i64 f]) (by simp [results, Try.results79, go_sem]) rfl ⟨rfl, ((Grw.refl _).alloc _).alloc _⟩

set_option maxHeartbeats 1000000 in
theorem messages_any (x y : Mg) (w : World) : Calls Try.prog 135 #[.agg (encG x).toArray, .agg (encG y).toArray] w fun e w' => e = .returned (.int .i64 (kcmp x.key y.key)) ∧ Grw w w' := by
  have ho : ∀ (f q s v : Int) (a : Option Addr) (dl dc : Nat) (text : ByteArray) W, Calls Try.prog 31 #[.agg #[.int .i64 f, .int .u32 q, .int .u64 s, .int .i64 v, .slice a dl dc, .string text]] W fun e w' => e = .returned (.agg #[.int .u64 s, .int .i64 f]) ∧ Grw W w' :=
    fun f q s v a dl dc text W => of12_any ⟨f, q, s, v, a, dl, dc, [], text⟩ W
  have hc : ∀ W, Calls Try.prog 30 #[.agg #[.int .u64 x.s, .int .i64 x.f], .agg #[.int .u64 y.s, .int .i64 y.f]] W fun e w' => e = .returned (.int .i64 (kcmp x.key y.key)) ∧ Grw W w' := compare_any x.key y.key
  generalize kcmp x.key y.key = r at hc ⊢
  obtain ⟨f, q, s, v, a, dl, dc, deps, text⟩ := x
  obtain ⟨f', q', s', v', a', dl', dc', deps', text'⟩ := y
  simp only [encG] at hc ⊢
  have mixed : Try.prog.follows .mixedOrders = true := by kernel_rfl
  go_enter Try.func135, Try.ntmps135
  go_wp2
  generalize hW : ((w.alloc (.cells #[.int .i64 f, .int .u32 q, .int .u64 s, .int .i64 v, .slice a dl dc, .string text] 47)).alloc (.cells #[.int .i64 f', .int .u32 q', .int .u64 s', .int .i64 v', .slice a' dl' dc', .string text'] 47)) = W
  have hz : W.heap.size = w.heap.size + 2 := by rw [← hW]; simp
  have a0 : ∀ n os, (grow (W.drewN n) os).cell? ⟨w.heap.size, 0, none⟩ = some (.int .i64 f) := cell_grown (by rw [hz]; show w.heap.size < w.heap.size + 2; omega) (by rw [← hW]; simp)
  have a1 : ∀ n os, (grow (W.drewN n) os).cell? ⟨w.heap.size, 1, none⟩ = some (.int .u32 q) := cell_grown (by rw [hz]; show w.heap.size < w.heap.size + 2; omega) (by rw [← hW]; simp)
  have a2 : ∀ n os, (grow (W.drewN n) os).cell? ⟨w.heap.size, 2, none⟩ = some (.int .u64 s) := cell_grown (by rw [hz]; show w.heap.size < w.heap.size + 2; omega) (by rw [← hW]; simp)
  have a3 : ∀ n os, (grow (W.drewN n) os).cell? ⟨w.heap.size, 3, none⟩ = some (.int .i64 v) := cell_grown (by rw [hz]; show w.heap.size < w.heap.size + 2; omega) (by rw [← hW]; simp)
  have a4 : ∀ n os, (grow (W.drewN n) os).cell? ⟨w.heap.size, 4, none⟩ = some (.slice a dl dc) := cell_grown (by rw [hz]; show w.heap.size < w.heap.size + 2; omega) (by rw [← hW]; simp)
  have a5 : ∀ n os, (grow (W.drewN n) os).cell? ⟨w.heap.size, 5, none⟩ = some (.string text) := cell_grown (by rw [hz]; show w.heap.size < w.heap.size + 2; omega) (by rw [← hW]; simp)
  have b0 : ∀ n os, (grow (W.drewN n) os).cell? ⟨w.heap.size + 1, 0, none⟩ = some (.int .i64 f') := cell_grown (by rw [hz]; show w.heap.size + 1 < w.heap.size + 2; omega) (by rw [← hW]; simp)
  have b1 : ∀ n os, (grow (W.drewN n) os).cell? ⟨w.heap.size + 1, 1, none⟩ = some (.int .u32 q') := cell_grown (by rw [hz]; show w.heap.size + 1 < w.heap.size + 2; omega) (by rw [← hW]; simp)
  have b2 : ∀ n os, (grow (W.drewN n) os).cell? ⟨w.heap.size + 1, 2, none⟩ = some (.int .u64 s') := cell_grown (by rw [hz]; show w.heap.size + 1 < w.heap.size + 2; omega) (by rw [← hW]; simp)
  have b3 : ∀ n os, (grow (W.drewN n) os).cell? ⟨w.heap.size + 1, 3, none⟩ = some (.int .i64 v') := cell_grown (by rw [hz]; show w.heap.size + 1 < w.heap.size + 2; omega) (by rw [← hW]; simp)
  have b4 : ∀ n os, (grow (W.drewN n) os).cell? ⟨w.heap.size + 1, 4, none⟩ = some (.slice a' dl' dc') := cell_grown (by rw [hz]; show w.heap.size + 1 < w.heap.size + 2; omega) (by rw [← hW]; simp)
  have b5 : ∀ n os, (grow (W.drewN n) os).cell? ⟨w.heap.size + 1, 5, none⟩ = some (.string text') := cell_grown (by rw [hz]; show w.heap.size + 1 < w.heap.size + 2; omega) (by rw [← hW]; simp)
  have G : Grw w W := by rw [← hW]; exact ((Grw.refl _).alloc _).alloc _
  have HG := Lib.hid G
  clear hW hz G
  go_quiet_grown (first
    | (go_at_call 31; exact Calls.grown_of (ho _ _ _ _ _ _ _ _ _))
    | (go_at_call 30; exact Calls.grown_of (hc _)))
  go_wp2
  go_ret
  exact ⟨rfl, HG.out.trans ⟨nq, osq, rfl⟩⟩

theorem cmpLays (blk off size : Nat) (w : World) : Go.Proofs.CmpLays Try.prog 135 #[] encG 6 (fun x y => kcmp x.key y.key) blk off size w :=
  fun _ _ _ _ x y => messages_any x y _

set_option maxHeartbeats 1000000 in
theorem less12_any (a b : K) (w : World) : Calls Try.prog 78 #[.agg #[.int .u64 a.n, .int .i64 a.p], .agg #[.int .u64 b.n, .int .i64 b.p]] w fun e w' => e = .returned (.bool (a.less b)) ∧ Grw w w' := by
  obtain ⟨an, ap⟩ := a
  obtain ⟨bn, bp⟩ := b
  show Calls Try.prog 78 #[.agg #[.int .u64 an, .int .i64 ap], .agg #[.int .u64 bn, .int .i64 bp]] w fun e w' => e = .returned (.bool (K.less ⟨an, ap⟩ ⟨bn, bp⟩)) ∧ Grw w w'
  by_cases h1 : an < bn
  · have hr : K.less ⟨an, ap⟩ ⟨bn, bp⟩ = true := (K.less_iff _ _).2 (.inl h1)
    rw [hr]
    clear hr
    go_enter Try.func78, Try.ntmps78
    go_wp2
    go_ret
    exact ⟨rfl, ((Grw.refl _).alloc _).alloc _⟩
  · by_cases h2 : an = bn
    · subst h2
      by_cases h3 : ap < bp
      · have hr : K.less ⟨an, ap⟩ ⟨an, bp⟩ = true := (K.less_iff _ _).2 (.inr ⟨rfl, h3⟩)
        rw [hr]
        clear hr h1
        go_enter Try.func78, Try.ntmps78
        go_wp2
        go_ret
        exact ⟨rfl, ((Grw.refl _).alloc _).alloc _⟩
      · have hr : K.less ⟨an, ap⟩ ⟨an, bp⟩ = false := (K.less_not _ _).2 (.inr ⟨rfl, by simp only; omega⟩)
        rw [hr]
        clear hr h1
        go_enter Try.func78, Try.ntmps78
        go_wp2
        go_ret
        exact ⟨rfl, ((Grw.refl _).alloc _).alloc _⟩
    · have hr : K.less ⟨an, ap⟩ ⟨bn, bp⟩ = false := (K.less_not _ _).2 (.inl (by simp only; omega))
      rw [hr]
      clear hr
      go_enter Try.func78, Try.ntmps78
      go_wp2
      go_ret
      exact ⟨rfl, ((Grw.refl _).alloc _).alloc _⟩

end Go.Proofs.Ytfocjcdfpnbkjaa

/- Plain facts on lists: sorted by keys, what has one key as it stood. -/
namespace Go.Proofs.Ytfocjcdfpnbkjaa
open Go.Sort

section
variable {α : Type} (key : α → K)
/-- No later one comes ahead of an earlier one. -/
def Srt (l : List α) : Prop := l.Pairwise fun x y => (key y).less (key x) = false
/-- Those of each key stand as they stood. -/
def Fil (l l' : List α) : Prop := ∀ c : K, l'.filter (fun x => decide (key x = c)) = l.filter (fun x => decide (key x = c))
structure IsSrt (l l' : List α) : Prop where
  srt : Srt key l'
  fil : Fil key l l'
variable {key}
theorem Fil.refl (l : List α) : Fil key l l := fun _ => rfl
theorem Fil.trans {a b c : List α} (h : Fil key a b) (h' : Fil key b c) : Fil key a c := fun x => (h' x).trans (h x)
theorem Fil.app {a a' b b' : List α} (h : Fil key a a') (h' : Fil key b b') : Fil key (a ++ b) (a' ++ b') := fun x => by
  rw [List.filter_append, List.filter_append, h x, h' x]
theorem Fil.turn {a b : List α} (h : ∀ x ∈ a, ∀ y ∈ b, key x ≠ key y) : Fil key (a ++ b) (b ++ a) := fun c => by
  rw [List.filter_append, List.filter_append]
  by_cases hb : b.filter (fun x => decide (key x = c)) = []
  · rw [hb]; simp
  · obtain ⟨y, hy⟩ := List.exists_mem_of_ne_nil _ hb
    obtain ⟨hy1, hy2⟩ := List.mem_filter.1 hy
    have hyc : key y = c := by simpa using hy2
    have ha : a.filter (fun x => decide (key x = c)) = [] := by
      refine List.filter_eq_nil_iff.2 fun x hx => ?_
      have := h x hx y hy1
      simp only [decide_eq_true_eq]
      intro e
      exact this (e.trans hyc.symm)
    rw [ha]; simp
theorem Fil.perm : ∀ (l l' : List α), Fil key l l' → l.Perm l'
  | [], l', h => by
    have : l' = [] := by
      match l' with
      | [] => rfl
      | y :: r => have := h (key y); simp at this
    subst this; exact List.Perm.refl _
  | x :: t, l', h => by
    have hx := h (key x)
    rw [List.filter_cons_of_pos (by simp)] at hx
    obtain ⟨A, B, rfl, hA, _, hB⟩ := List.filter_eq_cons_iff.1 hx
    have ht : Fil key t (A ++ B) := fun c => by
      have hc := h c
      rw [List.filter_append] at hc ⊢
      by_cases e : key x = c
      · subst e
        rw [List.filter_cons_of_pos (by simp), List.filter_cons_of_pos (by simp)] at hc
        have hA' : A.filter (fun y => decide (key y = key x)) = [] := List.filter_eq_nil_iff.2 fun y hy => by simpa using hA y hy
        rw [hA', List.nil_append] at hc ⊢
        exact (List.cons.inj hc).2
      · rw [List.filter_cons_of_neg (by simpa using e), List.filter_cons_of_neg (by simpa using e)] at hc
        exact hc
    exact ((Fil.perm t (A ++ B) ht).cons x).trans List.perm_middle.symm
theorem Fil.length {l l' : List α} (h : Fil key l l') : l'.length = l.length := (Fil.perm l l' h).length_eq.symm
theorem Fil.mem {l l' : List α} (h : Fil key l l') (x : α) : x ∈ l' ↔ x ∈ l := (Fil.perm l l' h).mem_iff.symm
/-- There is one such list. -/
theorem IsSrt.unique : ∀ (a b : List α), Srt key a → Srt key b → Fil key a b → a = b
  | [], b, _, _, h => by
    match b with
    | [] => rfl
    | y :: r => have := h (key y); simp at this
  | x :: t, b, ha, hb, h => by
    match b with
    | [] => have := h (key x); simp at this
    | y :: s =>
      obtain ⟨ha1, ha2⟩ := List.pairwise_cons.1 ha
      obtain ⟨hb1, hb2⟩ := List.pairwise_cons.1 hb
      have hy : y ∈ x :: t := (h.mem y).1 (List.mem_cons_self ..)
      have hx : x ∈ y :: s := (h.mem x).2 (List.mem_cons_self ..)
      have h1 : (key y).less (key x) = false := by
        rcases List.mem_cons.1 hy with e | e
        · rw [e]; exact K.less_irrefl _
        · exact ha1 y e
      have h2 : (key x).less (key y) = false := by
        rcases List.mem_cons.1 hx with e | e
        · rw [e]; exact K.less_irrefl _
        · exact hb1 x e
      have hk : key x = key y := K.eq_of h2 h1
      have hc := h (key x)
      rw [List.filter_cons_of_pos (by simp [hk]), List.filter_cons_of_pos (by simp)] at hc
      obtain ⟨hxy, hts⟩ := List.cons.inj hc
      subst hxy
      have : t = s := IsSrt.unique t s ha2 hb2 fun c => by
        by_cases e : key y = c
        · subst e; exact hts
        · have := h c
          rw [List.filter_cons_of_neg (by simpa using e), List.filter_cons_of_neg (by simpa using e)] at this
          exact this
      rw [this]
theorem IsSrt.one {l a b : List α} (h : IsSrt key l a) (h' : IsSrt key l b) : a = b :=
  IsSrt.unique a b h.srt h'.srt fun c => (h'.fil c).trans (h.fil c).symm
theorem IsSrt.same {l : List α} (h : Srt key l) : IsSrt key l l := ⟨h, Fil.refl l⟩
theorem IsSrt.of_fil {l l' m : List α} (h : IsSrt key l' m) (hf : Fil key l l') : IsSrt key l m := ⟨h.srt, hf.trans h.fil⟩

theorem Srt.app {a b : List α} (ha : Srt key a) (hb : Srt key b) (h : ∀ x ∈ a, ∀ y ∈ b, (key y).less (key x) = false) : Srt key (a ++ b) := List.pairwise_append.2 ⟨ha, hb, h⟩
theorem Srt.left {a b : List α} (h : Srt key (a ++ b)) : Srt key a := (List.pairwise_append.1 h).1
theorem Srt.right {a b : List α} (h : Srt key (a ++ b)) : Srt key b := (List.pairwise_append.1 h).2.1
theorem Srt.between {a b : List α} (h : Srt key (a ++ b)) : ∀ x ∈ a, ∀ y ∈ b, (key y).less (key x) = false := (List.pairwise_append.1 h).2.2
theorem Srt.nil : Srt key ([] : List α) := List.Pairwise.nil
theorem Srt.one (x : α) : Srt key [x] := List.pairwise_singleton _ _

/-- One element into a sorted list, ahead of those that aren't less. -/
theorem put_first {x : α} {a b : List α} (h : Srt key (a ++ b)) (h1 : ∀ A y, a = A ++ [y] → (key y).less (key x) = true) (h2 : ∀ y B, b = y :: B → (key y).less (key x) = false) :
    IsSrt key (x :: (a ++ b)) (a ++ x :: b) := by
  have la : ∀ y ∈ a, (key y).less (key x) = true := fun y hy => by
    rcases List.eq_nil_or_concat a with rfl | ⟨A, z, rfl⟩
    · cases hy
    · have hz := h1 A z (by rw [List.concat_eq_append])
      rw [List.concat_eq_append] at hy h
      rcases List.mem_append.1 hy with e | e
      · have := h.left.between y e z (List.mem_cons_self ..)
        rw [K.less_iff] at hz ⊢
        rw [K.less_not] at this
        omega
      · rw [List.mem_singleton.1 e]; exact hz
  have lb : ∀ y ∈ b, (key y).less (key x) = false := fun y hy => by
    match b, hy with
    | z :: B, hy =>
      have hz := h2 z B rfl
      rcases List.mem_cons.1 hy with e | e
      · rw [e]; exact hz
      · exact K.le_trans hz ((List.pairwise_cons.1 h.right).1 y e)
  refine ⟨?_, ?_⟩
  · refine List.pairwise_append.2 ⟨h.left, List.pairwise_cons.2 ⟨lb, h.right⟩, fun y hy z hz => ?_⟩
    rcases List.mem_cons.1 hz with e | e
    · rw [e]; exact K.less_asymm (la y hy)
    · exact h.between y hy z e
  · have : Fil key ([x] ++ a) (a ++ [x]) := Fil.turn fun u hu y hy => by
      rw [List.mem_singleton.1 hu]
      intro e
      have := la y hy
      rw [e, K.less_irrefl] at this
      cases this
    have := this.app (Fil.refl b)
    simpa using this
/-- One element into a sorted list, behind those that aren't greater. -/
theorem put_last {x : α} {a b : List α} (h : Srt key (a ++ b)) (h1 : ∀ A y, a = A ++ [y] → (key x).less (key y) = false) (h2 : ∀ y B, b = y :: B → (key x).less (key y) = true) :
    IsSrt key ((a ++ b) ++ [x]) (a ++ x :: b) := by
  have la : ∀ y ∈ a, (key x).less (key y) = false := fun y hy => by
    rcases List.eq_nil_or_concat a with rfl | ⟨A, z, rfl⟩
    · cases hy
    · have hz := h1 A z (by rw [List.concat_eq_append])
      rw [List.concat_eq_append] at hy h
      rcases List.mem_append.1 hy with e | e
      · exact K.le_trans (h.left.between y e z (List.mem_cons_self ..)) hz
      · rw [List.mem_singleton.1 e]; exact hz
  have lb : ∀ y ∈ b, (key x).less (key y) = true := fun y hy => by
    match b, hy with
    | z :: B, hy =>
      have hz := h2 z B rfl
      rcases List.mem_cons.1 hy with e | e
      · rw [e]; exact hz
      · have := (List.pairwise_cons.1 h.right).1 y e
        rw [K.less_iff] at hz ⊢
        rw [K.less_not] at this
        omega
  refine ⟨?_, ?_⟩
  · refine List.pairwise_append.2 ⟨h.left, List.pairwise_cons.2 ⟨fun y hy => K.less_asymm (lb y hy), h.right⟩, fun y hy z hz => ?_⟩
    rcases List.mem_cons.1 hz with e | e
    · rw [e]; exact la y hy
    · exact h.between y hy z e
  · have : Fil key (b ++ [x]) ([x] ++ b) := Fil.turn fun y hy u hu => by
      rw [List.mem_singleton.1 hu]
      intro e
      have := lb y hy
      rw [e, K.less_irrefl] at this
      cases this
    have := (Fil.refl a).app this
    simpa using this

/-- Two sorted lists, each cut in two, the inner parts turned about: merged part by part. -/
theorem merge_parts {a1 a2 b1 b2 m1 m2 : List α} (ha : Srt key (a1 ++ a2)) (hb : Srt key (b1 ++ b2))
    (h1 : ∀ A x y B, a1 = A ++ [x] → b2 = y :: B → (key y).less (key x) = false) (h2 : ∀ A x y B, b1 = A ++ [x] → a2 = y :: B → (key x).less (key y) = true)
    (hm1 : IsSrt key (a1 ++ b1) m1) (hm2 : IsSrt key (a2 ++ b2) m2) : IsSrt key ((a1 ++ a2) ++ (b1 ++ b2)) (m1 ++ m2) := by
  have l1 : ∀ x ∈ a1, ∀ y ∈ b2, (key y).less (key x) = false := fun x hx y hy => by
    rcases List.eq_nil_or_concat a1 with rfl | ⟨A, z, rfl⟩
    · cases hx
    · rw [List.concat_eq_append] at hx ha
      match b2, hy with
      | u :: B, hy =>
        have hzu := h1 A z u B (by rw [List.concat_eq_append]) rfl
        have hxz : (key z).less (key x) = false := by
          rcases List.mem_append.1 hx with e | e
          · exact ha.left.between x e z (List.mem_cons_self ..)
          · rw [List.mem_singleton.1 e]; exact K.less_irrefl _
        have huy : (key y).less (key u) = false := by
          rcases List.mem_cons.1 hy with e | e
          · rw [e]; exact K.less_irrefl _
          · exact (List.pairwise_cons.1 hb.right).1 y e
        exact K.le_trans (K.le_trans hxz hzu) huy
  have l2 : ∀ x ∈ b1, ∀ y ∈ a2, (key x).less (key y) = true := fun x hx y hy => by
    rcases List.eq_nil_or_concat b1 with rfl | ⟨A, z, rfl⟩
    · cases hx
    · rw [List.concat_eq_append] at hx hb
      match a2, hy with
      | u :: B, hy =>
        have hzu := h2 A z u B (by rw [List.concat_eq_append]) rfl
        have hxz : (key z).less (key x) = false := by
          rcases List.mem_append.1 hx with e | e
          · exact hb.left.between x e z (List.mem_cons_self ..)
          · rw [List.mem_singleton.1 e]; exact K.less_irrefl _
        have huy : (key y).less (key u) = false := by
          rcases List.mem_cons.1 hy with e | e
          · rw [e]; exact K.less_irrefl _
          · exact (List.pairwise_cons.1 ha.right).1 y e
        rw [K.less_iff] at hzu ⊢
        rw [K.less_not] at hxz huy
        omega
  refine ⟨Srt.app hm1.srt hm2.srt fun x hx y hy => ?_, ?_⟩
  · rcases List.mem_append.1 ((hm1.fil.mem x).1 hx) with ex | ex <;> rcases List.mem_append.1 ((hm2.fil.mem y).1 hy) with ey | ey
    · exact ha.between x ex y ey
    · exact l1 x ex y ey
    · exact K.less_asymm (l2 x ex y ey)
    · exact hb.between x ex y ey
  · have ht : Fil key (a2 ++ b1) (b1 ++ a2) := Fil.turn fun x hx y hy e => by
      have := l2 y hy x hx
      rw [e, K.less_irrefl] at this
      cases this
    have h3 : Fil key ((a1 ++ a2) ++ (b1 ++ b2)) ((a1 ++ b1) ++ (a2 ++ b2)) := by
      have := ((Fil.refl a1).app ht).app (Fil.refl b2)
      simpa using this
    exact h3.trans (hm1.fil.app hm2.fil)

/-- Sorted runs of n each, one behind the other, the last one shorter. -/
inductive Runs (key : α → K) (n : Nat) : List α → Prop
  | last (b : List α) : Srt key b → b.length ≤ n → Runs key n b
  | cons (b r : List α) : Srt key b → b.length = n → Runs key n r → Runs key n (b ++ r)
/-- What stands ahead of runs. -/
def Done (key : α → K) (n : Nat) (d : List α) : Prop := ∀ r, Runs key n r → Runs key n (d ++ r)
theorem Done.nil (n : Nat) : Done key n ([] : List α) := fun _ h => h
theorem Done.snoc {n : Nat} {d b : List α} (h : Done key n d) (hb : Srt key b) (hl : b.length = n) : Done key n (d ++ b) := fun r hr => by
  rw [List.append_assoc]
  exact h _ (.cons b r hb hl hr)
theorem Runs.short {n : Nat} {r : List α} (h : Runs key n r) (hl : r.length ≤ n) : Srt key r := by
  cases h with
  | last _ hs _ => exact hs
  | cons b r' hb hbl _ =>
    have : r' = [] := List.eq_nil_of_length_eq_zero (by rw [List.length_append] at hl; omega)
    subst this
    rw [List.append_nil]; exact hb
theorem Runs.cut {n : Nat} {r : List α} (h : Runs key n r) (hl : n < r.length) : ∃ b r', r = b ++ r' ∧ Srt key b ∧ b.length = n ∧ Runs key n r' := by
  cases h with
  | last _ _ hl' => omega
  | cons b r' hb hbl hr => exact ⟨b, r', rfl, hb, hbl, hr⟩
theorem Runs.two {n : Nat} {r : List α} (h : Runs key n r) (hn : 0 < n) (hl : 2 * n ≤ r.length) : ∃ b c r', r = b ++ (c ++ r') ∧ Srt key b ∧ b.length = n ∧ Srt key c ∧ c.length = n ∧ Runs key n r' := by
  obtain ⟨b, r1, rfl, hb, hbl, hr⟩ := h.cut (by omega)
  rw [List.length_append] at hl
  by_cases he : r1.length = n
  · exact ⟨b, r1, [], by simp, hb, hbl, hr.short (by omega), he, .last _ Srt.nil (by simp)⟩
  · obtain ⟨c, r2, rfl, hc, hcl, hr2⟩ := hr.cut (by omega)
    exact ⟨b, c, r2, rfl, hb, hbl, hc, hcl, hr2⟩
end

/-! ### Rows as lists -/
section
variable {α : Type} [Inhabited α]
theorem list_at (X Z : List α) (x : α) : (X ++ x :: Z).toArray[X.length]! = x := by simp
theorem swp_list (X Y Z : List α) (x y : α) (i j : Nat) (hi : X.length = i) (hj : X.length + 1 + Y.length = j) :
    swp (X ++ x :: (Y ++ y :: Z)).toArray i j = (X ++ y :: (Y ++ x :: Z)).toArray := by
  subst hi hj
  have e1 : (X ++ x :: (Y ++ y :: Z)).toArray[X.length]! = x := list_at _ _ _
  have e2 : (X ++ x :: (Y ++ y :: Z)).toArray[X.length + 1 + Y.length]! = y := by
    have := list_at (X ++ x :: Y) Z y
    rw [List.append_assoc, List.length_append, List.length_cons] at this
    rw [show X.length + 1 + Y.length = X.length + (Y.length + 1) by omega]
    exact this
  unfold swp
  rw [e1, e2]
  simp only [List.setIfInBounds_toArray]
  congr 1
  rw [List.set_append_right _ _ (Nat.le_refl _), Nat.sub_self, List.set_cons_zero]
  rw [List.set_append_right _ _ (by omega), show X.length + 1 + Y.length - X.length = Y.length + 1 by omega, List.set_cons_succ, List.set_append_right _ _ (Nat.le_refl _), Nat.sub_self, List.set_cons_zero]
theorem swp_comm (d : Array α) (i j : Nat) (hi : i < d.size) (hj : j < d.size) : swp d i j = swp d j i := by
  refine Array.ext (by simp [size_swp]) fun k h1 h2 => ?_
  have e1 := swp_get d hi hj k
  have e2 := swp_get d hj hi k
  rw [getElem!_pos (swp d i j) k h1] at e1
  rw [getElem!_pos (swp d j i) k h2] at e2
  rw [e1, e2]
  by_cases a : k = j <;> by_cases b : k = i <;> simp_all
end
end Go.Proofs.Ytfocjcdfpnbkjaa

/- The stable sort's family, over a program that is a variable: swapRange. -/
set_option linter.unusedVariables false
set_option linter.unusedSimpArgs false
namespace Go.Proofs.Ytfocjcdfpnbkjaa
open Go.Shelf Go.RowKit Go.Lib Go.Sort

/-- What the family is told of the program: three bodies, their types, an element of k cells. -/
structure Fam (P : Program) (k : Nat) : Prop where
  mixed : P.follows .mixedOrders = true
  fm : P.funcs[149]? = some Try.f149
  fr : P.funcs[150]? = some Try.f150
  fs : P.funcs[151]? = some Try.f151
  t0 : P.underlying 0 = some (TypeDesc.tuple #[])
  a0 : ∀ w, (isAgg 0).run P w = .ok false w
  z0 : ∀ w, (Go.sizeOf 0).run P w = .ok 1 w
  v0 : ∀ w, (zeroValue 0).run P w = .ok (Value.tuple #[]) w
  t3 : P.underlying 3 = some (TypeDesc.int IntKind.i64)
  a3 : ∀ w, (isAgg 3).run P w = .ok false w
  z3 : ∀ w, (Go.sizeOf 3).run P w = .ok 1 w
  v3 : ∀ w, (zeroValue 3).run P w = .ok (Value.int IntKind.i64 0) w
  t4 : P.underlying 4 = some (TypeDesc.bool)
  a4 : ∀ w, (isAgg 4).run P w = .ok false w
  z4 : ∀ w, (Go.sizeOf 4).run P w = .ok 1 w
  v4 : ∀ w, (zeroValue 4).run P w = .ok (Value.bool false) w
  t40 : P.underlying 29 = some (TypeDesc.slice 47)
  a40 : ∀ w, (isAgg 29).run P w = .ok false w
  z40 : ∀ w, (Go.sizeOf 29).run P w = .ok 1 w
  v40 : ∀ w, (zeroValue 29).run P w = .ok (Value.slice none 0 0) w
  t64 : P.underlying 210 = some (TypeDesc.func #[47, 47] #[3] false)
  a64 : ∀ w, (isAgg 210).run P w = .ok false w
  z64 : ∀ w, (Go.sizeOf 210).run P w = .ok 1 w
  v64 : ∀ w, (zeroValue 210).run P w = .ok (Value.nilFunc) w
  t71 : P.underlying 148 = some (TypeDesc.int IntKind.u64)
  a71 : ∀ w, (isAgg 148).run P w = .ok false w
  z71 : ∀ w, (Go.sizeOf 148).run P w = .ok 1 w
  v71 : ∀ w, (zeroValue 148).run P w = .ok (Value.int IntKind.u64 0) w
  aE : ∀ w, (isAgg 47).run P w = .ok true w
  zE : ∀ w, (Go.sizeOf 47).run P w = .ok k w

theorem fam : Fam Try.prog 6 where
  mixed := by kernel_rfl
  fm := Try.func149
  fr := Try.func150
  fs := Try.func151
  t0 := Try.underlying0
  a0 := Try.isAgg0
  z0 := Try.sizeOf0
  v0 := Try.zeroValue0
  t3 := Try.underlying3
  a3 := Try.isAgg3
  z3 := Try.sizeOf3
  v3 := Try.zeroValue3
  t4 := Try.underlying4
  a4 := Try.isAgg4
  z4 := Try.sizeOf4
  v4 := Try.zeroValue4
  t40 := Try.underlying29
  a40 := Try.isAgg29
  z40 := Try.sizeOf29
  v40 := Try.zeroValue29
  t64 := Try.underlying210
  a64 := Try.isAgg210
  z64 := Try.sizeOf210
  v64 := Try.zeroValue210
  t71 := Try.underlying148
  a71 := Try.isAgg148
  z71 := Try.sizeOf148
  v71 := Try.zeroValue148
  aE := Try.isAgg47
  zE := Try.sizeOf47

variable {P : Program} {α : Type} [Inhabited α]

set_option maxHeartbeats 4000000 in
set_option maxRecDepth 1000000 in
theorem swapRange_any (k : Nat) (F : Fam P k) (enc : α → List Value) (g : Nat) (cb : Array Value) (blk off len cap a b n : Nat) (d0 : Array α) (w0 w : World) (X A Y B Z : List α)
    (R : RowK enc k w0 blk off d0) (hs : d0.size = len) (S : SWK enc k w0 blk off (X ++ (A ++ (Y ++ (B ++ Z)))).toArray w)
    (hL : (X ++ (A ++ (Y ++ (B ++ Z)))).length = len) (hX : X.length = a) (hA : A.length = n) (hY : a + n + Y.length = b) (hB : B.length = n) (hsz : len < 4611686018427387904) :
    Calls P 151 #[.slice (some ⟨blk, off, none⟩) len cap, .int .i64 a, .int .i64 b, .int .i64 n, .func (.func g) #[] cb] w fun e w' => e = .returned (.tuple #[]) ∧ SWK enc k w0 blk off (X ++ (B ++ (Y ++ (A ++ Z)))).toArray w' := by
  have mixed := F.mixed; have t0 := F.t0; have a0 := F.a0; have z0 := F.z0; have v0 := F.v0; have t3 := F.t3; have a3 := F.a3; have z3 := F.z3; have v3 := F.v3; have t4 := F.t4; have a4 := F.a4; have z4 := F.z4; have v4 := F.v4; have t40 := F.t40; have a40 := F.a40; have z40 := F.z40; have v40 := F.v40; have t64 := F.t64; have a64 := F.a64; have z64 := F.z64; have v64 := F.v64; have aE := F.aE; have zE := F.zE
  have FG := F.fs
  clear F
  have S0 : Aside (SWK enc k w0 blk off (X ++ (A ++ (Y ++ (B ++ Z)))).toArray w) := S
  have hbb : b + n ≤ len := by simp only [List.length_append] at hL; omega
  have hab : a + n ≤ b := by omega
  have HX := Lib.hid hX
  have HA := Lib.hid hA
  have HY := Lib.hid hY
  have HB := Lib.hid hB
  have HL := Lib.hid hL
  have HS := Lib.hid hs
  clear S hX hA hY hB hL hs
  go_enter FG, Try.ntmps151
  go_wp2
  go_loopg [10] n (fun kx s10 wr => ∃ (i : Nat) (A1 A2 B1 B2 : List α), s10 = .int .i64 i ∧ i ≤ n ∧ n - i ≤ kx ∧ Hid (A = A1 ++ A2 ∧ B = B1 ++ B2 ∧ A1.length = i ∧ B1.length = i) ∧
    Aside (SWK enc k w0 blk off (X ++ ((B1 ++ A2) ++ (Y ++ ((A1 ++ B2) ++ Z)))).toArray wr))
  case atStart => exact ⟨0, [], A, [], B, rfl, Nat.zero_le _, by omega, Lib.hid ⟨rfl, rfl, rfl, rfl⟩, S0⟩
  case round =>
    clear S0
    obtain ⟨i, A1, A2, B1, B2, rfl, hi, hkx, HP, S1⟩ := hrel
    by_cases hlt : i < n
    · obtain ⟨x, A3, hA2⟩ : ∃ x A3, A2 = x :: A3 := by
        match A2 with
        | x :: A3 => exact ⟨x, A3, rfl⟩
        | [] => have h1 := HP.out.1; have h2 := HP.out.2.2.1; have h3 := HA.out; rw [h1, List.append_nil] at h3; omega
      obtain ⟨y, B3, hB2⟩ : ∃ y B3, B2 = y :: B3 := by
        match B2 with
        | y :: B3 => exact ⟨y, B3, rfl⟩
        | [] => have h1 := HP.out.2.1; have h2 := HP.out.2.2.2; have h3 := HB.out; rw [h1, List.append_nil] at h3; omega
      subst hA2 hB2
      obtain ⟨dk, hdk⟩ : ∃ dk, dk = (X ++ ((B1 ++ x :: A3) ++ (Y ++ ((A1 ++ y :: B3) ++ Z)))).toArray := ⟨_, rfl⟩
      have hds : dk.size = len := by
        rw [hdk, List.size_toArray, ← HL.out, HP.out.1, HP.out.2.1]
        simp only [List.length_append, List.length_cons]
        have := HP.out.2.2.1
        have := HP.out.2.2.2
        omega
      have e1 : (X ++ ((B1 ++ x :: A3) ++ (Y ++ ((A1 ++ y :: B3) ++ Z)))) = (X ++ B1) ++ x :: ((A3 ++ (Y ++ A1)) ++ y :: (B3 ++ Z)) := by simp
      have hl3 : A3.length + i + 1 = n := by
        have h1 := HP.out.1; have h2 := HP.out.2.2.1; have h3 := HA.out; rw [h1, List.length_append, List.length_cons] at h3; omega
      have hsw : Hid (swp dk (a + i) (b + i) = (X ++ (((B1 ++ [y]) ++ A3) ++ (Y ++ (((A1 ++ [x]) ++ B3) ++ Z)))).toArray) := by
        refine Lib.hid ?_
        rw [hdk, e1, swp_list (X ++ B1) (A3 ++ (Y ++ A1)) (B3 ++ Z) x y (a + i) (b + i) (by rw [List.length_append, HX.out, HP.out.2.2.2]) (by
          have := HX.out; have := HY.out; have := HP.out.2.2.1; have := HP.out.2.2.2
          simp only [List.length_append]; omega)]
        congr 1
        simp
      have HDK : Hid _ := Lib.hid hdk
      have S1' : Aside (SWK enc k w0 blk off dk wr) := by rw [hdk]; exact S1
      clear S1 hdk e1
      go_wp2_with fail
      have ea : ((a : Int) + (i : Int)).toNat = a + i := by omega
      have pa : (0 : Int) ≤ (a : Int) + (i : Int) := by omega
      have ba : (a : Int) + (i : Int) < (len : Int) := by omega
      have ra : IntKind.i64.wrap ((a : Int) + (i : Int)) = (a : Int) + (i : Int) := by rw [IntKind.wrap_i64]; omega
      have ec : ((b : Int) + (i : Int)).toNat = b + i := by omega
      have pc : (0 : Int) ≤ (b : Int) + (i : Int) := by omega
      have bc : (b : Int) + (i : Int) < (len : Int) := by omega
      have rc : IntKind.i64.wrap ((b : Int) + (i : Int)) = (b : Int) + (i : Int) := by rw [IntKind.wrap_i64]; omega
      have S2 : Aside (SWK enc k w0 blk off (swp dk (a + i) (b + i)) ((wr.drew.setCells blk (off + (a + i) * k) (enc dk[b + i]!)).setCells blk (off + (b + i) * k) (enc dk[a + i]!))) := S1'.out.swapped R (a + i) (b + i) (by omega) (by omega)
      have hds2 : dk.size = d0.size := by rw [hds, HS.out]
      have l1 := S1'.out.ld1 R hds2 P (a + i) (by omega)
      have l2 := S1'.out.ld1 R hds2 P (b + i) (by omega)
      have s1 := S1'.out.st1 R hds2 P (a + i) (by omega) dk[b + i]!
      have s2 := S1'.out.st2 R hds2 P (a + i) (b + i) (by omega) (by omega) dk[b + i]! dk[a + i]!
      have n1 : (enc dk[a + i]!).length = k := R.hk _
      have n2 : (enc dk[b + i]!).length = k := R.hk _
      generalize enc dk[a + i]! = cI at S2 l1 s2 n1
      generalize enc dk[b + i]! = cJ at S2 l2 s1 s2 n2
      have HDS := Lib.hid hds
      clear S1' hds hds2
      go_wp2_with fail
      go_big_region_o
      clear l1 l2 s1 s2
      generalize (wr.drew.setCells blk (off + (a + i) * k) cJ).setCells blk (off + (b + i) * k) cI = w2 at S2 ⊢
      go_wp2
      go_roundg (n - (i + 1))
      case measure => omega
      case rel =>
        refine ⟨i + 1, A1 ++ [x], A3, B1 ++ [y], B3, by go_num, by omega, Nat.le_refl _, Lib.hid ⟨by rw [HP.out.1]; simp, by rw [HP.out.2.1]; simp, by rw [List.length_append, HP.out.2.2.1]; rfl, by rw [List.length_append, HP.out.2.2.2]; rfl⟩, ?_⟩
        rw [hsw.out] at S2
        exact S2
    · go_wp2
      go_end0
      refine ⟨rfl, ?_⟩
      have hin : i = n := by omega
      have h2 : A2 = [] := List.eq_nil_of_length_eq_zero (by have h1 := HP.out.1; have h2 := HP.out.2.2.1; have h3 := HA.out; rw [h1, List.length_append] at h3; omega)
      have h3 : B2 = [] := List.eq_nil_of_length_eq_zero (by have h1 := HP.out.2.1; have h2 := HP.out.2.2.2; have h3 := HB.out; rw [h1, List.length_append] at h3; omega)
      have S3 := S1.out
      have e1 := HP.out.1
      have e2 := HP.out.2.1
      rw [h2, List.append_nil] at e1
      rw [h3, List.append_nil] at e2
      rw [h2, h3, List.append_nil, List.append_nil] at S3
      rw [e1, e2]
      exact S3
end Go.Proofs.Ytfocjcdfpnbkjaa

/- The library's insertion sort, by the library's own contract: what it leaves is sorted, and what has one key stands as it stood. -/
set_option linter.unusedVariables false
set_option linter.unusedSimpArgs false
namespace Go.Proofs.Ytfocjcdfpnbkjaa
open Go.Shelf Go.RowKit Go.Lib Go.Sort

/-- The numbers of the insertion sort's body in this program. -/
def insRen : Go.Shelf.Ren := ⟨fun | 20 => 148 | n => n, fun | 0 => 0 | 3 => 3 | 4 => 4 | 22 => 29 | 24 => 47 | 25 => 210 | n => n, fun n => n⟩
theorem insLays : SlLaysF0.n20 Try.prog insRen := {
  mixed := by kernel_rfl
  f20 := ⟨Try.f148.name, by decide +kernel, by kernel_rfl⟩
  t0 := Try.underlying0
  a0 := Try.isAgg0
  z0 := Try.sizeOf0
  v0 := Try.zeroValue0
  t3 := Try.underlying3
  a3 := Try.isAgg3
  z3 := Try.sizeOf3
  v3 := Try.zeroValue3
  t4 := Try.underlying4
  a4 := Try.isAgg4
  z4 := Try.sizeOf4
  v4 := Try.zeroValue4
  t22 := Try.underlying29
  a22 := Try.isAgg29
  z22 := Try.sizeOf29
  v22 := Try.zeroValue29
  t25 := Try.underlying210
  a25 := Try.isAgg210
  z25 := Try.sizeOf210
  v25 := Try.zeroValue210 }

section
variable {α : Type} [Inhabited α] {key : α → K} {lt : α → α → Bool}
/-- An exchange of two neighbours, the later one less: those of each key stand as they stood. -/
theorem fil_swp (hlt : ∀ x y, lt x y = (key x).less (key y)) (d : Array α) (j : Nat) (hj : j + 1 < d.size) (h : lt d[j + 1]! d[j]! = true) : Fil key d.toList (swp d (j + 1) j).toList := by
  obtain ⟨l⟩ := d
  have hj' : j + 1 < l.length := by simpa using hj
  have e : l = l.take j ++ l[j] :: ([] ++ l[j + 1] :: l.drop (j + 2)) := by
    conv => lhs; rw [← List.take_append_drop j l, List.drop_eq_getElem_cons (by omega), List.drop_eq_getElem_cons (by omega)]
    rfl
  have h0 : (⟨l⟩ : Array α)[j]! = l[j] := by rw [getElem!_pos _ j (by simp; omega)]; rfl
  have h1 : (⟨l⟩ : Array α)[j + 1]! = l[j + 1] := by rw [getElem!_pos _ (j + 1) (by simpa using hj)]; rfl
  rw [h0, h1, hlt] at h
  rw [swp_comm _ _ _ hj (by simp; omega)]
  have hs := swp_list (l.take j) [] (l.drop (j + 2)) l[j] l[j + 1] j (j + 1) (by rw [List.length_take]; omega) (by rw [List.length_take]; simp; omega)
  have e2 : (⟨l⟩ : Array α) = (l.take j ++ l[j] :: ([] ++ l[j + 1] :: l.drop (j + 2))).toArray := by rw [← e]
  rw [e2, hs]
  have ht : Fil key ([l[j]] ++ [l[j + 1]]) ([l[j + 1]] ++ [l[j]]) := Fil.turn fun x hx y hy he => by
    rw [List.mem_singleton.1 hx, List.mem_singleton.1 hy] at he
    rw [he, K.less_irrefl] at h
    cases h
  have := ((Fil.refl (l.take j)).app ht).app (Fil.refl (l.drop (j + 2)))
  simpa using this
theorem fil_inner (hlt : ∀ x y, lt x y = (key x).less (key y)) (a : Nat) : ∀ (j : Nat) (d : Array α), j < d.size → Fil key d.toList (insInner lt a j d).toList
  | 0, d, _ => by rw [insInner]; exact Fil.refl _
  | j + 1, d, hj => by
    rw [insInner]
    by_cases hc : (j + 1 > a && lt d[j + 1]! d[j]!) = true
    · rw [if_pos hc]
      rw [Bool.and_eq_true] at hc
      exact (fil_swp hlt d j hj hc.2).trans (fil_inner hlt a j _ (by rw [size_swp]; omega))
    · rw [if_neg hc]; exact Fil.refl _
theorem size_inner (a : Nat) : ∀ (j : Nat) (d : Array α), (insInner lt a j d).size = d.size
  | 0, d => by rw [insInner]
  | j + 1, d => by
    rw [insInner]
    split
    · rw [size_inner a j, size_swp]
    · rfl
theorem fil_outer (hlt : ∀ x y, lt x y = (key x).less (key y)) (a b : Nat) : ∀ (n i : Nat) (d : Array α), b - i ≤ n → b ≤ d.size → Fil key d.toList (insOuter lt a b i d).toList := by
  intro n
  induction n with
  | zero => intro i d hn _; rw [insOuter, if_neg (by omega)]; exact Fil.refl _
  | succ n ih =>
    intro i d hn hb
    rw [insOuter]
    by_cases h : i < b
    · rw [if_pos h]
      exact (fil_inner hlt a i d (by omega)).trans (ih (i + 1) _ (by omega) (by rw [size_inner]; exact hb))
    · rw [if_neg h]; exact Fil.refl _

omit [Inhabited α] in
theorem swo_key (hlt : ∀ x y, lt x y = (key x).less (key y)) : SWO lt where
  irrefl x := by rw [hlt]; exact K.less_irrefl _
  trans x y z h1 h2 := by rw [hlt] at *; exact K.less_trans h1 h2
  ntrans x y z h1 h2 := by rw [hlt] at *; exact K.le_trans h2 h1

/-- The insertion sort of a part: that part sorted, all else as it was. -/
theorem ins_list (hlt : ∀ x y, lt x y = (key x).less (key y)) (X S Z : List α) (a b : Nat) (hX : X.length = a) (hS : a + S.length = b) :
    ∃ M, IsSrt key S M ∧ insertionSort lt (X ++ (S ++ Z)).toArray a b = (X ++ (M ++ Z)).toArray := by
  obtain ⟨d, hd⟩ : ∃ d, d = (X ++ (S ++ Z)).toArray := ⟨_, rfl⟩
  have hsz : d.size = a + (S.length + Z.length) := by rw [hd, List.size_toArray, List.length_append, List.length_append, hX]
  obtain ⟨⟨h1, h2, _⟩, h3⟩ := insertionSort_holds (lt := lt) (swo_key hlt) d a b (by omega) (by omega)
  have h4 : Fil key d.toList (insertionSort lt d a b).toList := fil_outer hlt a b _ (a + 1) d (Nat.le_refl _) (by omega)
  rw [← hd]
  obtain ⟨l, hl⟩ : ∃ l, (insertionSort lt d a b).toList = l := ⟨_, rfl⟩
  have hll : l.length = a + (S.length + Z.length) := by rw [← hl, Array.length_toList, h1, hsz]
  have hgetx : ∀ i (h : i < l.length), (insertionSort lt d a b)[i]! = l[i] := fun i h => by
    have hi : i < (insertionSort lt d a b).size := by rw [h1, hsz]; omega
    rw [getElem!_pos _ i hi]
    subst hl
    rfl
  have hdg : ∀ i (h : i < (X ++ (S ++ Z)).length), d[i]! = (X ++ (S ++ Z))[i] := fun i h => by
    rw [hd, getElem!_pos _ i (by simpa using h)]
    rfl
  have hfull : (X ++ (S ++ Z)).length = a + (S.length + Z.length) := by rw [List.length_append, List.length_append, hX]
  have eX : l.take a = X := by
    refine List.ext_getElem (by rw [List.length_take]; omega) fun i hi1 hi2 => ?_
    rw [List.getElem_take, ← hgetx i (by omega), h2 i (.inl (by omega)), hdg i (by omega), List.getElem_append_left (by omega)]
  have eZ : l.drop b = Z := by
    refine List.ext_getElem (by rw [List.length_drop]; omega) fun i hi1 hi2 => ?_
    rw [List.getElem_drop, ← hgetx (b + i) (by rw [List.length_drop] at hi1; omega), h2 (b + i) (.inr (by omega)), hdg (b + i) (by omega), List.getElem_append_right (by omega), List.getElem_append_right (by omega)]
    congr 1
    omega
  have el : l = X ++ ((l.drop a).take (b - a) ++ Z) := by
    conv => lhs; rw [← List.take_append_drop a l, eX]
    congr 1
    conv => lhs; rw [← List.take_append_drop (b - a) (l.drop a), List.drop_drop, show a + (b - a) = b by omega, eZ]
  refine ⟨(l.drop a).take (b - a), ⟨?_, ?_⟩, ?_⟩
  · refine List.pairwise_iff_getElem.2 fun i j hi hj hij => ?_
    rw [List.length_take, List.length_drop] at hi hj
    rw [List.getElem_take, List.getElem_take, List.getElem_drop, List.getElem_drop, ← hlt, ← hgetx (a + i) (by omega), ← hgetx (a + j) (by omega)]
    exact h3 (a + i) (a + j) (by omega) (by omega) (by omega)
  · intro c
    have := h4 c
    rw [hl, hd, el] at this
    simp only [List.filter_append] at this
    exact List.append_cancel_right (List.append_cancel_left this)
  · rw [← el, ← hl]
end

theorem hcfM (x y : Mg) : kcmp x.key y.key < 0 ↔ x.key.less y.key = true := kcmp_neg _ _
theorem egM (args : Array Value) (w : World) : (callFunc 135 args).run Try.prog w = .ok (.enter 135 args) w := enters_of Try.func135 (by kernel_rfl) rfl args w

theorem ins_any (blk off len cap a b : Nat) (d0 : Array Mg) (w0 w : World) (X S Z : List Mg) (R : RowK encG 6 w0 blk off d0) (hs : d0.size = len) (hS : SWK encG 6 w0 blk off (X ++ (S ++ Z)).toArray w)
    (hL : (X ++ (S ++ Z)).length = len) (hX : X.length = a) (hb : a + S.length = b) (hsz : len < 4611686018427387904) :
    Calls Try.prog 148 #[.slice (some ⟨blk, off, none⟩) len cap, .int .i64 a, .int .i64 b, .func (.func 135) #[] #[]] w fun e w' => e = .returned (.tuple #[]) ∧ ∃ M, IsSrt Mg.key S M ∧ SWK encG 6 w0 blk off (X ++ (M ++ Z)).toArray w' := by
  have hd : (X ++ (S ++ Z)).toArray.size = len := by rw [List.size_toArray]; exact hL
  have hH := hS.holds R.hblk R.hH (by rw [hd, hs])
  have h := AnyQ.insertionSortCmpFunc insLays 6 Try.isAgg47 Try.sizeOf47 encG encG_length encG_one (fun x y => kcmp x.key y.key) 135 #[] blk off cap a b (X ++ (S ++ Z)).toArray w egM
    (cmpLays blk off _ w) hH (hS.lt R.hblk) (by omega) (by rw [hd]; simp only [List.length_append] at hL; omega) (by rw [hd]; exact hsz)
  rw [hd] at h
  refine Calls.mono h fun e w' ⟨he, n, os, hw⟩ => ⟨he, ?_⟩
  obtain ⟨M, hM, hi⟩ := ins_list (key := Mg.key) (lt := ltOf fun x y => kcmp x.key y.key) (fun x y => by
    show decide (kcmp x.key y.key < 0) = _
    cases hq : x.key.less y.key with
    | true => exact decide_eq_true ((kcmp_neg _ _).2 hq)
    | false => exact decide_eq_false fun hc => by rw [(kcmp_neg _ _).1 hc] at hq; cases hq) X S Z a b hX hb
  refine ⟨M, hM, ?_⟩
  rw [hw, hi]
  refine hS.on R.hblk n _ os ?_
  rw [List.size_toArray, List.size_toArray]
  simp only [List.length_append]
  rw [hM.fil.length]
end Go.Proofs.Ytfocjcdfpnbkjaa

/- A slice whose elements take k cells each; two cells of the call's own; the greatest key of a list. -/
set_option linter.unusedVariables false
set_option linter.unusedSimpArgs false
namespace Go.Proofs.Ytfocjcdfpnbkjaa
open Go.RowKit Go.Sort

/-- A key's two cells. -/
def encK12 (a : K) : List Value := [.int .u64 a.n, .int .i64 a.p]

/-- Two cells of one block, neither frozen. -/
structure Two (w : World) (g : Nat) (a b : Value) : Prop where
  c0 : w.cell? ⟨g, 0, none⟩ = some a
  c1 : w.cell? ⟨g, 1, none⟩ = some b
  f0 : w.frozen? ⟨g, 0, none⟩ = false
  f1 : w.frozen? ⟨g, 1, none⟩ = false
theorem Two.keep {w w' : World} {g : Nat} {a b : Value} (h : Two w g a b) (hc : ∀ i, w'.cell? ⟨g, i, none⟩ = w.cell? ⟨g, i, none⟩) (hf : ∀ i, w'.frozen? ⟨g, i, none⟩ = w.frozen? ⟨g, i, none⟩) : Two w' g a b :=
  ⟨(hc 0).trans h.c0, (hc 1).trans h.c1, (hf 0).trans h.f0, (hf 1).trans h.f1⟩
theorem Two.below {w w' : World} {g : Nat} {a b : Value} (h : Two w g a b) {B : Nat} (hb : Below B w w') (hg : g < B) : Two w' g a b :=
  h.keep (fun i => hb.cell (p := ⟨g, i, none⟩) hg) (fun i => hb.frozen (p := ⟨g, i, none⟩) hg)
theorem Two.lt {w : World} {g : Nat} {a b : Value} (h : Two w g a b) : g < w.heap.size := World.block_lt_of_cell? (a := ⟨g, 0, none⟩) _ h.c0
theorem Two.alloc {w : World} {g : Nat} {a b : Value} (h : Two w g a b) (o : Obj) : Two (w.alloc o) g a b :=
  h.below ((Below.refl w.heap.size w).alloc (Nat.le_refl _) o) h.lt

theorem lastK_next (l : List K) (k : Nat) (x : K) (hx : l[k]? = some x) : lastK (l.take (k + 1)) = if k = 0 then x else if (lastK (l.take k)).less x then x else lastK (l.take k) := by
  obtain ⟨hlt, rfl⟩ := List.getElem?_eq_some_iff.1 hx
  rw [List.take_succ_eq_append_getElem hlt]
  by_cases h0 : k = 0
  · subst h0; rw [if_pos rfl]; rfl
  · rw [if_neg h0, lastK_snoc]
    intro e
    have := congrArg List.length e
    rw [List.length_take, List.length_nil] at this
    omega
theorem Two.set {w : World} {g : Nat} {a b : Value} (h : Two w g a b) (u v : Value) : Two ((w.setCell ⟨g, 0, none⟩ u).setCell ⟨g, 1, none⟩ v) g u v := by
  obtain ⟨c0, c1, f0, f1⟩ := h
  refine ⟨?_, ?_, by rw [World.frozen?_setCell, World.frozen?_setCell]; exact f0, by rw [World.frozen?_setCell, World.frozen?_setCell]; exact f1⟩
  · rw [World.cell?_setCell_other _ _ _ _ (by intro e; injection e; omega)]
    exact World.cell?_setCell_same' _ _ _ (by rw [c0]; rfl)
  · refine World.cell?_setCell_same' _ _ _ ?_
    rw [World.cell?_setCell_other _ _ _ _ (by intro e; injection e; omega), c1]; rfl
theorem Two.far {w : World} {g : Nat} {a b : Value} (h : Two w g a b) {p : Addr} (hp : p.block ≠ g) (u : Value) : Two (w.setCell p u) g a b :=
  h.keep (fun i => World.cell?_setCell_other _ _ _ _ (by intro e; apply hp; rw [e])) (fun i => World.frozen?_setCell ..)

set_option maxHeartbeats 1000000 in
theorem greatK_any (ao : Option Addr) (len cap : Nat) (l : List K) (w : World) (h : Lst encK12 2 w ao len l) (hl : len ≤ 1099511627776) :
    Calls Try.prog 128 #[.slice ao len cap, .func (.func 30) #[] #[]] w fun e w' => e = .returned (.agg #[.int .u64 (lastK l).n, .int .i64 (lastK l).p]) ∧ Below w.heap.size w w' := by
  have HL := Lib.hid h.size
  have HS := Lib.hid h
  clear h
  go_enter Try.func128, Try.ntmps128
  go_wp2
  go_loopw [10] (fun si wr => ∃ k : Nat, k ≤ len ∧ si = .int .i64 k ∧ Two wr w.heap.size (.int .u64 0) (.int .i64 0) ∧ Two wr (w.heap.size + 1) (.int .u64 (lastK (l.take k)).n) (.int .i64 (lastK (l.take k)).p) ∧ Below w.heap.size w wr)
    (fun si _ => len - (intOf si).toNat)
  case atStart =>
    refine ⟨0, Nat.zero_le _, rfl, ⟨?_, ?_, ?_, ?_⟩, ⟨?_, ?_, ?_, ?_⟩, ((Below.refl _ _).alloc (Nat.le_refl _) _).alloc (by simp) _⟩
    all_goals simp [lastK]
  case round =>
    obtain ⟨k, hk, rfl, R, M, hB⟩ := hrel
    have hgR := R.lt
    have hgM := M.lt
    have HB := Lib.hid hB
    have HR := Lib.hid R
    have HM := Lib.hid M
    by_cases hlt : k < len
    · obtain ⟨b, o, rfl, hr⟩ := HS.out.src (by omega)
      have hlt' : k < l.length := by rw [HL.out]; exact hlt
      obtain ⟨x, hx⟩ : ∃ x, l[k]? = some x := ⟨_, List.getElem?_eq_getElem hlt'⟩
      have e0 : w.cell? ⟨b, o + k * 2, none⟩ = some (.int .u64 x.n) := hr k x hx 0 _ rfl
      have e1 : w.cell? ⟨b, o + k * 2 + 1, none⟩ = some (.int .i64 x.p) := hr k x hx 1 _ rfl
      have c0 := cell_later hB e0
      have c1 := cell_later hB e1
      have HN := Lib.hid (lastK_next l k x hx)
      have m0 := M.c0
      have m1 := M.c1
      have g0 := M.f0
      have g1 := M.f1
      clear e0 e1 hr hx hB R M hlt'
      generalize lastK (l.take k) = m at *
      obtain ⟨xn, xp⟩ := x
      obtain ⟨mn, mp⟩ := m
      simp only at c0 c1 m0 m1
      by_cases hk0 : k = 0
      · have hd : ((k : Int) == 0) = true := by simp; omega
        have HE := Lib.hid (HN.out.trans (if_pos hk0))
        clear HN hk0
        go_wp2
        go_roundw
        case rel =>
          refine ⟨k + 1, by omega, by go_num, ?_, ?_, ?_⟩
          · exact ((HR.out.far (by simp) _).far (by simp) _).alloc _
          · rw [HE.out]; exact (HM.out.set _ _).alloc _
          · exact ((HB.out.setCell (by simp) _).setCell (by simp) _).alloc (by simp; exact HB.out.size) _
        case measure => simp [intOf]; omega
      · have hd : ((k : Int) == 0) = false := by simp; omega
        have HE := Lib.hid (HN.out.trans (if_neg hk0))
        clear HN hk0
        have hc : ∀ W, Calls Try.prog 30 #[.agg #[.int .u64 xn, .int .i64 xp], .agg #[.int .u64 mn, .int .i64 mp]] W fun e w' => e = .returned (.int .i64 (kcmp ⟨xn, xp⟩ ⟨mn, mp⟩)) ∧ Grw W w' := compare_any ⟨xn, xp⟩ ⟨mn, mp⟩
        have hp := kcmp_pos ⟨xn, xp⟩ ⟨mn, mp⟩
        generalize kcmp ⟨xn, xp⟩ ⟨mn, mp⟩ = r at hc hp
        by_cases hr : 0 < r
        · have HF := Lib.hid (HE.out.trans (if_pos (hp.1 hr)))
          clear hp HE
          go_wp2_with fail
          refine (hc _).mono ?_
          rintro e w2 ⟨rfl, hG⟩
          have hG2 := hG.below
          have x0 : w2.cell? ⟨wr.heap.size, 0, none⟩ = some (.int .u64 xn) := cell_later hG2 (by simp)
          have x1 : w2.cell? ⟨wr.heap.size, 1, none⟩ = some (.int .i64 xp) := cell_later hG2 (by simp)
          have M2 := (HM.out.alloc (.cells #[.int .u64 xn, .int .i64 xp] 39)).below hG2 (by simp; omega)
          have HM2 := Lib.hid M2
          have HR2 := Lib.hid ((HR.out.alloc (.cells #[.int .u64 xn, .int .i64 xp] 39)).below hG2 (by simp; omega))
          have HB2 := Lib.hid ((HB.out.alloc HB.out.size (.cells #[.int .u64 xn, .int .i64 xp] 39)).trans (hG2.mono (by have := HB.out.size; simp; omega)))
          obtain ⟨n0, n1, h0, h1⟩ := M2
          clear hG hG2
          go_wp2
          go_roundw
          case rel =>
            refine ⟨k + 1, by omega, by go_num, ?_, ?_, ?_⟩
            · exact (HR2.out.far (by simp) _).far (by simp) _
            · rw [HF.out]; exact HM2.out.set _ _
            · exact (HB2.out.setCell (by simp) _).setCell (by simp) _
          case measure => simp [intOf]; omega
        · have HF := Lib.hid (HE.out.trans (if_neg (fun e => hr (hp.2 e))))
          clear hp HE
          go_wp2_with fail
          refine (hc _).mono ?_
          rintro e w2 ⟨rfl, hG⟩
          have hG2 := hG.below
          have HM2 := Lib.hid ((HM.out.alloc (.cells #[.int .u64 xn, .int .i64 xp] 39)).below hG2 (by simp; omega))
          have HR2 := Lib.hid ((HR.out.alloc (.cells #[.int .u64 xn, .int .i64 xp] 39)).below hG2 (by simp; omega))
          have HB2 := Lib.hid ((HB.out.alloc HB.out.size (.cells #[.int .u64 xn, .int .i64 xp] 39)).trans (hG2.mono (by have := HB.out.size; simp; omega)))
          clear hG hG2
          go_wp2
          go_roundw
          case rel => exact ⟨k + 1, by omega, by go_num, HR2.out, by rw [HF.out]; exact HM2.out, HB2.out⟩
          case measure => simp [intOf]; omega
    · have HK := Lib.hid (show l.take k = l from List.take_of_length_le (by rw [HL.out]; omega))
      obtain ⟨r0, r1, q0, q1⟩ := R
      obtain ⟨m0, m1, g0, g1⟩ := M
      rw [HK.out] at m0 m1
      obtain ⟨z, hz⟩ : ∃ z, z = lastK l := ⟨_, rfl⟩
      rw [← hz] at m0 m1
      obtain ⟨zn, zp⟩ := z
      have HZ := Lib.hid hz
      clear hz
      simp only at m0 m1
      go_wp2
      have T := Two.set HR.out (.int .u64 zn) (.int .i64 zp)
      obtain ⟨t0, t1, _, _⟩ := T
      exact bodyPost_ret (v := .agg #[.int .u64 zn, .int .i64 zp]) (by simp [results, Try.results128, go_sem, t0, t1]) rfl ⟨by rw [← HZ.out], (HB.out.setCell (by simp) _).setCell (by simp) _⟩

set_option maxHeartbeats 1000000 in
theorem last_any (ao : Option Addr) (len cap : Nat) (l : List K) (w : World) (h : Lst encK12 2 w ao len l) (hl : len ≤ 1099511627776) :
    Calls Try.prog 95 #[.slice ao len cap] w fun e w' => e = .returned (.agg #[.int .u64 (lastK l).n, .int .i64 (lastK l).p]) ∧ Below w.heap.size w w' := by
  have HH := Lib.hid h
  clear h
  go_enter Try.func95, Try.ntmps95
  go_wp2_with fail
  refine (greatK_any _ _ _ l _ (HH.out.below ((Below.refl _ _).alloc (Nat.le_refl _) _)) hl).mono ?_
  rintro e w2 ⟨rfl, hB⟩
  have R : Two w2 w.heap.size (.int .u64 0) (.int .i64 0) := ⟨(hB.cell (p := ⟨w.heap.size, 0, none⟩) (by simp)).trans (by simp), (hB.cell (p := ⟨w.heap.size, 1, none⟩) (by simp)).trans (by simp), (hB.frozen (p := ⟨w.heap.size, 0, none⟩) (by simp)).trans (by simp), (hB.frozen (p := ⟨w.heap.size, 1, none⟩) (by simp)).trans (by simp)⟩
  have HR := Lib.hid R
  have HB := Lib.hid (((Below.refl w.heap.size w).alloc (Nat.le_refl _) (.cells #[.int .u64 0, .int .i64 0] 39)).trans (hB.mono (by simp)))
  obtain ⟨r0, r1, q0, q1⟩ := R
  clear hB
  obtain ⟨z, hz⟩ : ∃ z, z = lastK l := ⟨_, rfl⟩
  rw [← hz]
  obtain ⟨zn, zp⟩ := z
  have HZ := Lib.hid hz
  clear hz
  go_wp2
  obtain ⟨t0, t1, _, _⟩ := Two.set HR.out (.int .u64 zn) (.int .i64 zp)
  exact bodyPost_ret (v := .agg #[.int .u64 zn, .int .i64 zp]) (by simp [results, Try.results95, go_sem, t0, t1]) rfl ⟨by rw [← HZ.out], (HB.out.setCell (by simp) _).setCell (by simp) _⟩

end Go.Proofs.Ytfocjcdfpnbkjaa

/- Sort: the library's Clone by its own contract, SortStableFunc over what is told of the stable sort, the program's Sort; the stable sort of few. -/
set_option linter.unusedVariables false
set_option linter.unusedSimpArgs false
namespace Go.Proofs.Ytfocjcdfpnbkjaa
open Go.Shelf Go.RowKit Go.Lib Go.Sort

/-- What the stable sort does with rows of some length. -/
def StableAt (len : Nat) : Prop := ∀ (blk off cap : Nat) (d0 : Array Mg) (w0 w : World) (L : List Mg), RowK encG 6 w0 blk off d0 → d0.size = len → SWK encG 6 w0 blk off L.toArray w → L.length = len →
  Calls Try.prog 143 #[.slice (some ⟨blk, off, none⟩) len cap, .int .i64 len, .func (.func 135) #[] #[]] w fun e w' => e = .returned (.tuple #[]) ∧ ∃ M, IsSrt Mg.key L M ∧ SWK encG 6 w0 blk off M.toArray w'

set_option maxHeartbeats 2000000 in
theorem stable_few (len : Nat) (hl : len < 20) : StableAt len := by
  intro blk off cap d0 w0 w L R hs S hL
  have HR := Lib.hid R
  have hz : ¬ (20 : Int) ≤ (len : Int) := by omega
  have hz2 : ¬ (20 : Int) < (len : Int) := by omega
  have S0 : Aside (SWK encG 6 w0 blk off ([] ++ (L ++ [])).toArray w) := by rw [List.nil_append, List.append_nil]; exact S
  have HS := Lib.hid hs
  have HL := Lib.hid hL
  clear S R hs hL
  go_enter Try.func143, Try.ntmps143
  go_wp2_with fail
  go_loopg [7, 8] 0 (fun kx s7 s8 wr => s7 = .int .i64 0 ∧ s8 = .int .i64 20 ∧ Aside (SWK encG 6 w0 blk off ([] ++ (L ++ [])).toArray wr))
  case atStart => exact ⟨rfl, rfl, S0⟩
  case round =>
    clear S0
    obtain ⟨rfl, rfl, S1⟩ := hrel
    go_wp2_with fail
    refine (ins_any blk off len cap 0 len d0 w0 _ [] L [] HR.out HS.out S1.out (by simpa using HL.out) rfl (by simpa using HL.out) (by omega)).mono ?_
    rintro e w1 ⟨rfl, M, hM, S2⟩
    have HM := Lib.hid hM
    have S3 : Aside (SWK encG 6 w0 blk off M.toArray w1) := by
      have := S2
      rw [List.nil_append, List.append_nil] at this
      exact this
    clear S1 S2 hM
    go_wp2_with fail
    go_loopg [6, 7, 8, 9] 0 (fun kx s6 s7 s8 s9 wr => s6 = .int .i64 20 ∧ Aside (SWK encG 6 w0 blk off M.toArray wr))
    case atStart => exact ⟨rfl, S3⟩
    case round =>
      clear S3
      obtain ⟨rfl, S4⟩ := hrel
      go_wp2_with fail
      go_end0
      exact ⟨rfl, M, HM.out, S4.out⟩

/-! ### No message -/
set_option maxHeartbeats 1000000 in
theorem ins_none (ao : Option Addr) (cap : Nat) (w : World) :
    Calls Try.prog 148 #[.slice ao 0 cap, .int .i64 0, .int .i64 0, .func (.func 135) #[] #[]] w fun e w' => e = .returned (.tuple #[]) ∧ w = w' := by
  go_enter Try.func148, Try.ntmps148
  go_wp2_with fail
  go_loop [8] (fun s8 => s8 = .int .i64 1) (fun _ => 0)
  case atStart => rfl
  case round =>
    subst hrel
    go_wp2_with fail
    go_end0
    exact ⟨rfl, rfl⟩
set_option maxHeartbeats 1000000 in
theorem stable_none (ao : Option Addr) (cap : Nat) (w : World) :
    Calls Try.prog 143 #[.slice ao 0 cap, .int .i64 0, .func (.func 135) #[] #[]] w fun e w' => e = .returned (.tuple #[]) ∧ w = w' := by
  go_enter Try.func143, Try.ntmps143
  go_wp2_with fail
  go_loop [7, 8] (fun s7 s8 => s7 = .int .i64 0 ∧ s8 = .int .i64 20) (fun _ _ => 0)
  case atStart => exact ⟨rfl, rfl⟩
  case round =>
    obtain ⟨rfl, rfl⟩ := hrel
    go_wp2_with fail
    refine (ins_none _ _ _).mono ?_
    rintro e w1 ⟨rfl, rfl⟩
    go_wp2_with fail
    go_loop [6, 7, 8, 9] (fun s6 s7 s8 s9 => s6 = .int .i64 20) (fun _ _ _ _ => 0)
    case atStart => rfl
    case round =>
      subst hrel
      go_wp2_with fail
      go_end0
      exact ⟨rfl, rfl⟩

/-! ### SortStableFunc -/
theorem sortStable_any (len : Nat) (hst : StableAt len) (blk off cap : Nat) (d0 : Array Mg) (w0 w : World) (L : List Mg) (R : RowK encG 6 w0 blk off d0) (hs : d0.size = len) (S : SWK encG 6 w0 blk off L.toArray w) (hL : L.length = len) :
    Calls Try.prog 134 #[.slice (some ⟨blk, off, none⟩) len cap, .func (.func 135) #[] #[]] w fun e w' => e = .returned (.tuple #[]) ∧ ∃ M, IsSrt Mg.key L M ∧ SWK encG 6 w0 blk off M.toArray w' := by
  have h := Lib.hid (hst blk off cap d0 w0 w L R hs S hL)
  clear R hs S hL hst
  go_enter Try.func134, Try.ntmps134
  go_wp2_with fail
  refine h.out.mono ?_
  rintro e w1 ⟨rfl, M, hM, S2⟩
  have HM := Lib.hid (And.intro hM S2)
  clear hM S2
  go_wp2_with fail
  go_end0
  exact ⟨rfl, M, HM.out.1, HM.out.2⟩
theorem sortStable_none (ao : Option Addr) (cap : Nat) (w : World) :
    Calls Try.prog 134 #[.slice ao 0 cap, .func (.func 135) #[] #[]] w fun e w' => e = .returned (.tuple #[]) ∧ w = w' := by
  go_enter Try.func134, Try.ntmps134
  go_wp2_with fail
  refine (stable_none _ _ _).mono ?_
  rintro e w1 ⟨rfl, rfl⟩
  go_wp2_with fail
  go_end0
  exact ⟨rfl, rfl⟩

/-! ### Clone -/
def cloneRen : Go.Shelf.Ren := ⟨fun | 41 => 133 | n => n, fun | 4 => 4 | 22 => 29 | 23 => 47 | n => n, fun n => n⟩
theorem cloneLays : SlLaysE0.n41 Try.prog cloneRen := {
  mixed := by kernel_rfl
  f41 := ⟨Try.f133.name, by decide +kernel, by kernel_rfl⟩
  t4 := Try.underlying4
  a4 := Try.isAgg4
  z4 := Try.sizeOf4
  v4 := Try.zeroValue4
  t22 := Try.underlying29
  a22 := Try.isAgg29
  z22 := Try.sizeOf29
  v22 := Try.zeroValue29 }
def zeroM : Value := .agg #[.int .i64 0, .int .u32 0, .int .u64 0, .int .i64 0, .slice none 0 0, .string ByteArray.empty]
theorem infoM : (Try.prog.info? 47).map (fun i => (i.zero, i.size, i.bytes)) = some (some zeroM, 6, 72) := by kernel_rfl

section
variable {α : Type}
/-- A row of the call's own: as the sort holds it. -/
theorem own_holdsK [Inhabited α] {enc : α → List Value} {k : Nat} {w : World} {base g n cap : Nat} {t : TypeId} {l : List α} (hk : ∀ x, (enc x).length = k) (hl : l.length = n) (h : w.ownsRow base t k (.slice (some ⟨g, 0, none⟩) n cap) n (flat enc l)) : HoldsK enc k w g 0 l.toArray := by
  intro j hj
  rw [size_flatK, List.size_toArray, hl] at hj
  have hj2 : j < (flat enc l).length := by rw [flat_length enc k hk, hl]; exact hj
  obtain ⟨i, x, c, hx, hc, hck, hji⟩ := flat_split enc k hk l j _ (List.getElem?_eq_getElem hj2)
  have hil := (List.getElem?_eq_some_iff.1 hx).1
  have k0 : 0 < k := by omega
  have hd : j / k = i := by rw [hji, Nat.mul_comm, Nat.mul_add_div k0, Nat.div_eq_of_lt hck, Nat.add_zero]
  have hm : j % k = c := by rw [hji, Nat.mul_comm, Nat.mul_add_mod, Nat.mod_eq_of_lt hck]
  have hv : (flatK enc k l.toArray)[j]! = (flat enc l)[j] := by
    rw [get_flatK enc k l.toArray j (by rw [List.size_toArray, hl]; exact hj), hd, hm]
    have e1 : l.toArray[i]! = x := by
      rw [getElem!_pos l.toArray i (by simpa using hil)]
      exact (List.getElem?_eq_some_iff.1 hx).2
    obtain ⟨hcl, hce⟩ := List.getElem?_eq_some_iff.1 hc
    rw [e1, getElem!_pos (enc x) c hcl, hce]
  rw [Nat.zero_add, hv]
  refine ⟨?_, ?_⟩
  · rw [h.cellAt j hj]
    exact List.getElem?_eq_getElem hj2
  · rcases h.2 with ⟨h', _⟩ | ⟨g', cap', cur, h', _, hg, _⟩
    · cases h'
    · have : g' = g := by injection h' with h1; injection h1 with h2; injection h2 with h3; exact h3.symm
      subst this
      simp [World.frozen?, hg]
end

theorem clone_any (b o len cap : Nat) (l : List Mg) (w : World) (hl : l.length = len) (hr : RowAt encG 6 w b o l) (hn : len ≤ 1048576) :
    Calls Try.prog 133 #[.slice (some ⟨b, o, none⟩) len cap] w fun e w' => ∃ g c, e = .returned (.slice (some ⟨g, 0, none⟩) len c) ∧ w.heap.size ≤ g ∧ g < w'.heap.size ∧ HoldsK encG 6 w' g 0 l.toArray ∧ Below w.heap.size w w' := by
  obtain ⟨i0, hi, hz0, hz1, hz2⟩ := info_parts infoM
  have hfl := flat_length encG 6 encG_length l
  have h := AnyE.slices_Clone cloneLays i0 zeroM 6 72 hi hz0 hz1 hz2 rfl (by decide) Try.sizeOf47 b o len cap (flat encG l) w (by rw [hfl, hl]) (by unfold maxLen; omega) (by omega)
    (fun j u hu => hr.flat encG_length j u hu) (fun u hu => by
      unfold flat at hu
      obtain ⟨c, hc, huc⟩ := List.mem_flatten.1 hu
      obtain ⟨m, _, rfl⟩ := List.mem_map.1 hc
      exact encG_one m u huc)
  refine Calls.mono h fun e w' ⟨v', he, hown, hne, hB⟩ => ?_
  rcases hown.2 with ⟨h', _⟩ | ⟨g, c, cur, rfl, hb, hg, _⟩
  · exact absurd h' hne
  · exact ⟨g, c, he, hb, (Array.getElem?_eq_some_iff.1 hg).1, own_holdsK encG_length hl hown, hB⟩
theorem clone_nil (w : World) : Calls Try.prog 133 #[.slice none 0 0] w fun e w' => e = .returned (.slice none 0 0) ∧ w' = w := AnyE.slices_Clone_nil cloneLays 0 0 w

/-! ### Sort -/
/-- What the sort leaves of a world: all below its row. -/
theorem SWK.below_ {α : Type} {enc : α → List Value} {k : Nat} {w0 W : World} {blk off : Nat} {dk : Array α} [Inhabited α] (h : SWK enc k w0 blk off dk W) (hblk : blk < w0.heap.size) : Below blk w0 W := by
  obtain ⟨n, os, rfl⟩ := h
  refine ⟨rfl, rfl, rfl, ?_, fun j hj => ?_⟩
  · unfold sortWorldK
    rw [size_grow, size_putRowK]
    show w0.heap.size ≤ w0.heap.size + _
    omega
  · show ((w0.heap.modify blk _) ++ os)[j]? = _
    rw [Array.getElem?_append_left (by rw [Array.size_modify]; omega), Array.getElem?_modify, if_neg (by omega)]
/-- A row as the sort holds it, read as a slice. -/
theorem lst_of_holds {α : Type} [Inhabited α] {enc : α → List Value} {k : Nat} {w : World} {g n : Nat} {l : List α} (hk : ∀ x, (enc x).length = k) (hl : l.length = n) (h : HoldsK enc k w g 0 l.toArray) : Lst enc k w (some ⟨g, 0, none⟩) n l := by
  refine ⟨hl, fun _ => ⟨g, 0, rfl, fun i x hx c v hv => ?_⟩⟩
  obtain ⟨hil, hxe⟩ := List.getElem?_eq_some_iff.1 hx
  have e1 : l.toArray[i]! = x := by rw [getElem!_pos l.toArray i (by simpa using hil)]; exact hxe
  have := HoldsK.cells h hk (i := i) (by simpa using hil) c v (by rw [e1]; exact hv)
  rw [Addr.add_lit] at this
  exact this

set_option maxHeartbeats 1000000 in
theorem clone_zero (ad : Addr) (cap : Nat) (w : World) : Calls Try.prog 133 #[.slice (some ad) 0 cap] w fun e w' => ∃ g c, e = .returned (.slice (some ⟨g, 0, none⟩) 0 c) ∧ Below w.heap.size w w' := by
  obtain ⟨i0, hi, hz0, hz1, hz2⟩ := info_parts infoM
  have q22 : ∀ (w : World) (a : Option Addr) (n c n' c' : Nat), (binOp .eql 29 (.slice a n c) (.slice none n' c')).run Try.prog w = .ok (.bool a.isNone) w := fun w a n c n' c' => Lib.run_eql_slice_nil w _ _ a n c n' c' Try.underlying29
  go_enter Try.func133, Try.ntmps133
  go_wp2_with (at_builtin; refine wpList_append_own _ rfl _ _ 29 rfl w.heap.size 47 i0 zeroM 6 72 Try.underlying29 hi hz0 hz1 hz2 rfl (by decide) _ _ _ rfl (World.ownsRow_made w #[] 0 (Nat.le_refl _) (Nat.zero_le _) (by simp)) ad 0 cap [] rfl rfl (fun j u hj => by simp at hj) (fun u hu => by cases hu) (Nat.zero_le _) (Nat.zero_le _) (by simp) ?_)
  intro v' w1 hown hgrow hnil
  go_wp2
  go_ret
  rcases hown.2 with ⟨h', _⟩ | ⟨g, c, cur, rfl, hb, hg, _⟩
  · exact absurd h' hnil
  · exact ⟨g, c, rfl, ((Below.refl _ w).alloc (Nat.le_refl _) _).grown hgrow (by simp) (by intro k hk; simp [Value.ownBlock] at hk; omega)⟩

/-- What Sort answers: a slice that is sorted, what has one key as it stood. -/
def Sorted (w : World) (len : Nat) (l : List Mg) (e : Ending) (w' : World) : Prop := ∃ ao c M, e = .returned (.slice ao len c) ∧ (ao = none → c = 0) ∧ IsSrt Mg.key l M ∧ Lst encG 6 w' ao len M ∧ Below w.heap.size w w'

set_option maxHeartbeats 1000000 in
theorem sort_any (len : Nat) (hst : StableAt len) (ao : Option Addr) (cap : Nat) (l : List Mg) (w : World) (h : Lst encG 6 w ao len l) (hc : ao = none → cap = 0) (hn : len ≤ 1048576) :
    Calls Try.prog 105 #[.slice ao len cap] w (Sorted w len l) := by
  by_cases h0 : len = 0
  · subst h0
    obtain rfl : l = [] := List.eq_nil_of_length_eq_zero h.size
    rcases ao with _ | ad
    · obtain rfl := hc rfl
      clear h hc hst
      go_enter Try.func105, Try.ntmps105
      go_wp2_with fail
      refine (clone_nil _).mono ?_
      rintro e w' ⟨rfl, rfl⟩
      go_wp2_with fail
      refine (sortStable_none _ _ _).mono ?_
      rintro e w' ⟨rfl, rfl⟩
      go_wp2_with fail
      go_ret
      exact ⟨none, 0, [], rfl, fun _ => rfl, IsSrt.same Srt.nil, ⟨rfl, fun h => by omega⟩, Below.refl _ _⟩
    · clear h hc hst
      go_enter Try.func105, Try.ntmps105
      go_wp2_with fail
      refine (clone_zero _ _ _).mono ?_
      rintro e w' ⟨g, c, rfl, hB⟩
      go_wp2_with fail
      refine (sortStable_none _ _ _).mono ?_
      rintro e w' ⟨rfl, rfl⟩
      go_wp2_with fail
      go_ret
      exact ⟨some ⟨g, 0, none⟩, c, [], rfl, (fun h => by cases h), IsSrt.same Srt.nil, ⟨rfl, fun h => by omega⟩, hB⟩
  · obtain ⟨b, o, rfl, hr⟩ := h.src (by omega)
    have HL := Lib.hid h.size
    have HC := Lib.hid (clone_any b o len cap l w h.size hr hn)
    have HT := Lib.hid hst
    clear h hc hst hr
    go_enter Try.func105, Try.ntmps105
    go_wp2_with fail
    refine HC.out.mono ?_
    rintro e w1 ⟨g, c, rfl, hg1, hg2, hH, hB⟩
    have HG := Lib.hid (And.intro hg1 (And.intro hg2 (And.intro hH hB)))
    clear hg1 hg2 hH hB
    go_wp2_with fail
    refine (sortStable_any len HT.out g 0 c l.toArray w1 w1 l ⟨encG_length, encG_one, HG.out.2.2.1, HG.out.2.1⟩ (by rw [List.size_toArray, HL.out]) (SWK.start HG.out.2.2.1) HL.out).mono ?_
    rintro e w2 ⟨rfl, M, hM, S⟩
    have HM := Lib.hid (And.intro hM S)
    clear hM S
    go_wp2_with fail
    go_ret
    have hml : M.length = len := by rw [HM.out.1.fil.length, HL.out]
    refine ⟨some ⟨g, 0, none⟩, c, M, rfl, (fun h => by cases h), HM.out.1, lst_of_holds encG_length hml (HM.out.2.holds HG.out.2.1 HG.out.2.2.1 (by rw [List.size_toArray, List.size_toArray, hml, HL.out])), ?_⟩
    exact HG.out.2.2.2.trans ((SWK.below_ HM.out.2 HG.out.2.1).mono HG.out.1)
end Go.Proofs.Ytfocjcdfpnbkjaa
