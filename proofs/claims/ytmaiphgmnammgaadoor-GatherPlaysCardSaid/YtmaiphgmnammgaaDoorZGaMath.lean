/- Attempts: plain facts: who told, who is ready, who is waited for. -/
import Derived.Test.YtmaiphgmnammgaaDoorZPlOwn
import Derived.Test.YtmaiphgmnammgaaDoorZGaMap
import Derived.Test.YtmaiphgmnammgaaDoorZPops
set_option linter.unusedVariables false
set_option linter.unusedSimpArgs false
namespace Go.Proofs.YtmaiphgmnammgaaDoor
open Go.RowKit Go.Sort

/-- An attempt: its name, its members, who is ready, the exchanges, and how many they are. -/
structure Gt where
  e : Int
  r : Int
  M : Nat
  Y : Nat
  H : Int → Option Xg
  n : Nat
/-- Who told. -/
def told (H : Int → Option Xg) : Nat → Bool := fun p => (H (p : Int)).isSome
structure GtOk (S : Gt) : Prop where
  m : S.M < 18446744073709551616
  y : S.Y < 18446744073709551616
  key : ∀ k x, S.H k = some x → 0 ≤ k ∧ k < 64 ∧ S.M.testBit k.toNat = true ∧ x.w = k
  num : S.n = cnt (told S.H)
  sub : ∀ p, p < 64 → S.Y.testBit p = true → S.M.testBit p = true
  all : S.Y ≠ 0 → S.n = card S.M
def newG (e r : Int) (M : Nat) : Gt := ⟨e, r, M, 0, fun _ => none, 0⟩
theorem GtOk.new (e r : Int) (M : Nat) (hM : M < 18446744073709551616) : GtOk (newG e r M) :=
  ⟨hM, (by decide : (0 : Nat) < 18446744073709551616), (fun k x h => by cases h), (by
    show 0 = cnt (told fun _ => none)
    rw [← cnt_none]; rfl), (fun p hp h => by
    have h2 : (0 : Nat).testBit p = true := h
    rw [Nat.zero_testBit] at h2; cases h2), fun h => absurd rfl h⟩
theorem cnt_pos1 (p : Nat) (hp : p < 64) : 0 < cnt (fun q => decide (q = p)) := by
  unfold cnt
  rw [List.countP_pos_iff]
  exact ⟨p, by rw [List.mem_range]; exact hp, by simp⟩
theorem cnt_one1 (p : Nat) (hp : p < 64) : cnt (fun q => decide (q = p)) = 1 := by
  have h1 := cnt_pos1 p hp
  have h2 := cnt_one (p : Int)
  have e : cnt (fun q => decide (q = p)) = cnt (fun q => decide ((q : Int) = (p : Int))) := cnt_ext _ _ fun i hi => decide_eq_decide.2 (by omega)
  omega
section
variable {S : Gt}
theorem GtOk.in_ (h : GtOk S) (p : Nat) (hp : p < 64) (ht : told S.H p = true) : S.M.testBit p = true := by
  unfold told at ht
  obtain ⟨x, hx⟩ := Option.isSome_iff_exists.1 ht
  have := (h.key _ _ hx).2.2.1
  rwa [Int.toNat_natCast] at this
theorem GtOk.le (h : GtOk S) : S.n ≤ card S.M := by
  rw [h.num]
  have := cnt_lin (told S.H) (fun _ => false) S.M.testBit (fun _ => false) fun x hx => by
    cases ht : told S.H x with
    | false => simp
    | true => rw [h.in_ x hx ht]; exact Nat.le_refl _
  unfold card
  rw [cnt_none] at this
  omega
/-- All are there just when no member lacks. -/
theorem GtOk.full (h : GtOk S) : S.n = card S.M ↔ ∀ p, p < 64 → S.M.testBit p = true → told S.H p = true := by
  constructor
  · intro hn p hp hm
    cases ht : told S.H p with
    | true => rfl
    | false =>
      have h1 := cnt_lin (told S.H) (fun q => decide (q = p)) S.M.testBit (fun _ => false) fun x hx => by
        by_cases e : x = p
        · subst e; rw [ht, hm]; simp
        · rw [decide_eq_false e]
          cases ht' : told S.H x with
          | false => simp
          | true => rw [h.in_ x hx ht']; simp
      rw [cnt_none, cnt_one1 p hp, ← h.num, hn] at h1
      unfold card at h1
      omega
  · intro hall
    rw [h.num]
    unfold card
    exact cnt_ext _ _ fun p hp => by
      cases hm : S.M.testBit p with
      | true => exact hall p hp hm
      | false =>
        cases ht : told S.H p with
        | false => rfl
        | true => rw [h.in_ p hp ht] at hm; cases hm
end
/-- Told, done, who is waited for. -/
def toldG (S : Gt) : Bool := decide (S.n = card S.M)
def doneG (S : Gt) : Bool := decide (S.Y = S.M)
def lackG (S : Gt) : Nat := num fun p => S.M.testBit p && !told S.H p
def waitG (S : Gt) : Nat := if toldG S = true then but S.M S.Y else lackG S
theorem waitG_lt (S : Gt) : waitG S < 18446744073709551616 := by unfold waitG; split <;> exact num_lt _
theorem mem_lt {a : Nat} {z : Int} (h : mem a z = true) : 0 ≤ z ∧ z < 64 ∧ a.testBit z.toNat = true := by
  unfold mem at h
  simp only [Bool.and_eq_true, decide_eq_true_eq] at h
  exact ⟨h.1.1, h.1.2, h.2⟩
theorem mem_of {a : Nat} {z : Int} (h0 : 0 ≤ z) (h1 : z < 64) (h : a.testBit z.toNat = true) : mem a z = true := by
  unfold mem
  rw [decide_eq_true h0, decide_eq_true h1, h]; rfl
theorem wait_bit (S : Gt) (p : Nat) (hp : p < 64) : (waitG S).testBit p = (S.M.testBit p && if toldG S = true then !S.Y.testBit p else !told S.H p) := by
  unfold waitG
  split
  · unfold but; rw [num_bit, decide_eq_true hp]; rfl
  · unfold lackG; rw [num_bit, decide_eq_true hp]; rfl
/-- A member's exchange. -/
def freshG (S : Gt) (z : Int) : Bool := mem S.M z && (S.H z).isNone
def addG (S : Gt) (x : Xg) : Gt := if freshG S x.w = true then { S with H := setI S.H x.w (some x), n := S.n + 1 } else S
def addB (S : Gt) (x : Xg) : Bool := freshG S x.w && decide (S.n + 1 = card S.M)
def readyOk (S : Gt) (z : Int) : Bool := toldG S && mem (waitG S) z
def readyG (S : Gt) (z : Int) : Gt := if readyOk S z = true then { S with Y := any S.Y (onl z) } else S
def readyB (S : Gt) (z : Int) : Bool := readyOk S z && decide (any S.Y (onl z) = S.M)
theorem fresh_in {S : Gt} {z : Int} (h : freshG S z = true) : 0 ≤ z ∧ z < 64 ∧ S.M.testBit z.toNat = true ∧ S.H z = none := by
  unfold freshG at h
  simp only [Bool.and_eq_true] at h
  obtain ⟨h1, h2, h3⟩ := mem_lt h.1
  exact ⟨h1, h2, h3, by simpa using h.2⟩
theorem told_set {H : Int → Option Xg} {k : Nat} {x : Xg} (p : Nat) : told (setI H (k : Int) (some x)) p = (told H p || decide (p = k)) := by
  unfold told
  by_cases e : p = k
  · subst e; rw [setI_same, decide_eq_true rfl]; simp
  · rw [setI_other _ _ _ (by omega), decide_eq_false e]; simp
theorem cnt_set {H : Int → Option Xg} {k : Nat} (hk : k < 64) {x : Xg} (hn : H (k : Int) = none) : cnt (told (setI H (k : Int) (some x))) = cnt (told H) + 1 := by
  have ht : told H k = false := by unfold told; rw [hn]; rfl
  have h1 := cnt_lin (told (setI H (k : Int) (some x))) (fun _ => false) (told H) (fun q => decide (q = k)) fun p hp => by
    rw [told_set]
    by_cases e : p = k
    · subst e; rw [ht]; simp
    · rw [decide_eq_false e]; cases told H p <;> simp
  have h2 := cnt_lin (told H) (fun q => decide (q = k)) (told (setI H (k : Int) (some x))) (fun _ => false) fun p hp => by
    rw [told_set]
    by_cases e : p = k
    · subst e; rw [ht]; simp
    · rw [decide_eq_false e]; cases told H p <;> simp
  rw [cnt_none, cnt_one1 k hk] at h1 h2
  omega
theorem GtOk.fresh {S : Gt} (h : GtOk S) {z : Int} (hf : freshG S z = true) : S.n < card S.M ∧ S.Y = 0 := by
  obtain ⟨h0, h1, h2, h3⟩ := fresh_in hf
  have hne : S.n ≠ card S.M := fun e => by
    have := h.full.1 e z.toNat (by omega) h2
    unfold told at this
    rw [show ((z.toNat : Nat) : Int) = z by omega, h3] at this
    cases this
  have := h.le
  refine ⟨by omega, ?_⟩
  apply Classical.byContradiction
  intro hy
  exact hne (h.all hy)
theorem GtOk.add {S : Gt} (h : GtOk S) (x : Xg) : GtOk (addG S x) := by
  unfold addG
  split
  · rename_i hf
    obtain ⟨h0, h1, h2, h3⟩ := fresh_in hf
    obtain ⟨k, hk⟩ := Int.eq_ofNat_of_zero_le h0
    obtain ⟨hlt, hy⟩ := h.fresh hf
    refine ⟨h.m, h.y, fun j y hj => ?_, ?_, h.sub, fun hn => absurd hy hn⟩
    · by_cases e : j = x.w
      · subst e
        simp only [setI_same] at hj
        injection hj with hj
        subst hj
        exact ⟨h0, h1, h2, rfl⟩
      · simp only at hj
        rw [setI_other _ _ _ e] at hj
        exact h.key j y hj
    · show S.n + 1 = cnt (told (setI S.H x.w (some x)))
      rw [hk, cnt_set (by omega) (by rw [← hk]; exact h3), h.num]
  · exact h
theorem add_told {S : Gt} {x : Xg} : addB S x = (freshG S x.w && toldG (addG S x)) := by
  unfold addB addG
  cases hf : freshG S x.w with
  | false => rfl
  | true => rw [if_pos rfl]; rfl
theorem any_onl_bit (a : Nat) (z : Int) (i : Nat) (hi : i < 64) : (any a (onl z)).testBit i = (a.testBit i || decide ((i : Int) = z)) := by
  rw [any_bit _ _ _ hi, onl_bit _ _ hi]
theorem ready_in {S : Gt} {z : Int} (h : readyOk S z = true) : S.n = card S.M ∧ 0 ≤ z ∧ z < 64 ∧ S.M.testBit z.toNat = true ∧ S.Y.testBit z.toNat = false := by
  unfold readyOk at h
  simp only [Bool.and_eq_true] at h
  obtain ⟨ht, hm⟩ := h
  obtain ⟨h1, h2, h3⟩ := mem_lt hm
  rw [wait_bit S _ (by omega), if_pos ht] at h3
  simp only [Bool.and_eq_true, Bool.not_eq_true'] at h3
  exact ⟨of_decide_eq_true ht, h1, h2, h3.1, h3.2⟩
theorem GtOk.ready {S : Gt} (h : GtOk S) (z : Int) : GtOk (readyG S z) := by
  unfold readyG
  split
  · rename_i hr
    obtain ⟨h0, h1, h2, h3, h4⟩ := ready_in hr
    refine ⟨h.m, any_lt _ _, h.key, h.num, fun p hp hb => ?_, fun _ => h0⟩
    simp only at hb
    rw [any_onl_bit _ _ _ hp] at hb
    simp only [Bool.or_eq_true, decide_eq_true_eq] at hb
    rcases hb with hb | hb
    · exact h.sub p hp hb
    · show S.M.testBit p = true
      rw [show p = z.toNat by omega]; exact h3
  · exact h
theorem ready_done {S : Gt} {z : Int} : readyB S z = (readyOk S z && doneG (readyG S z)) := by
  unfold readyB readyG
  cases hf : readyOk S z with
  | false => rfl
  | true => rw [if_pos rfl]; rfl
/-- Done is told. -/
theorem GtOk.done {S : Gt} (h : GtOk S) (hd : S.Y = S.M) : S.n = card S.M := by
  by_cases h0 : S.Y = 0
  · rw [hd] at h0
    have := h.le
    rw [h0, card_zero] at this ⊢
    omega
  · exact h.all h0
/-- An exchange, but for where its counts lie. -/
def stripX (x : Xg) : Xg := { x with a := none, c := 0 }
theorem stripX_w {x y : Xg} (h : stripX x = stripX y) : x.w = y.w := by have := congrArg Xg.w h; exact this
end Go.Proofs.YtmaiphgmnammgaaDoor
