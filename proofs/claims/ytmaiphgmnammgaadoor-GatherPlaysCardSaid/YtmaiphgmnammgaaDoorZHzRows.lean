/- Rows of promises, anywhere in their block. -/
import Derived.Test.YtmaiphgmnammgaaDoorZSetMaths
import Derived.Test.YtmaiphgmnammgaaDoorZGrws
import Derived.ArgAppend
import Derived.OwnWalk
import Derived.Deep.MidRow
import Derived.Laws.AppendOwnNone
import Derived.Deep.DeepCutAuto
import Derived.Deep.RegionWith
import Derived.BigQuiet
import Derived.StillTailTactics
import Derived.Shelf.Abstract
import Derived.Lib.SliceRun
set_option linter.unusedVariables false
set_option linter.unusedSimpArgs false
namespace Go.Proofs.YtmaiphgmnammgaaDoor
open Go.RowKit Go.Sort

def encP (x : Pm) : List Value := [.int .i64 x.frm, .int .u64 (x.st : Int), .int .u32 (x.sn : Int)]
theorem encP_length (x : Pm) : (encP x).length = 3 := rfl
theorem encP_one (x : Pm) : ∀ u ∈ encP x, u.oneCell' = true := by
  intro u hu
  simp only [encP, List.mem_cons, List.not_mem_nil, or_false] at hu
  rcases hu with rfl | rfl | rfl <;> rfl
theorem flatP_one {l : List Pm} : ∀ u ∈ flat encP l, u.oneCell' = true := by
  intro u hu
  unfold flat at hu
  obtain ⟨c, hc, huc⟩ := List.mem_flatten.1 hu
  obtain ⟨m, _, rfl⟩ := List.mem_map.1 hc
  exact encP_one m u huc
def zeroP : Value := .agg #[.int .i64 0, .int .u64 0, .int .u32 0]
theorem add_lit13 (b o k : Nat) : (⟨b, o, none⟩ : Addr).add k = ⟨b, o + k, none⟩ := by cases k <;> simp [Addr.add]
theorem grown_set13 (w : World) (g j : Nat) (v : Value) : w.grownBy (w.setCell ⟨g, j, none⟩ v) (some g) :=
  ⟨rfl, rfl, rfl, by simp, fun k hk ho => heap_setCell_other w ⟨g, j, none⟩ k v (by intro e; apply ho; rw [e])⟩
/-- A slice. -/
structure ZSl where
  a : Option Addr
  n : Nat
  c : Nat
  deriving Inhabited
def ZSl.v (s : ZSl) : Value := .slice s.a s.n s.c
def zslNil : ZSl := ⟨none, 0, 0⟩
section
variable {w : World} {b off n cap : Nat} {X : List Pm}
theorem flat_dropZ (X : List Pm) (k j : Nat) (hk : k ≤ X.length) : (flat encP (X.drop k))[j]? = (flat encP X)[k * 3 + j]? := by
  have e : flat encP X = flat encP (X.take k) ++ flat encP (X.drop k) := by rw [← flat_append, List.take_append_drop]
  have hl : (flat encP (X.take k)).length = k * 3 := by rw [flat_length encP 3 encP_length, List.length_take, Nat.min_eq_left hk]
  rw [e, List.getElem?_append_right (by omega), hl, Nat.add_sub_cancel_left]
end

theorem flatP_one13 {l : List Pm} : ∀ u ∈ flat encP l, u.oneCell' = true := flatP_one
theorem grownCells13 (b : Nat) : ∀ (vs : List Value) (o : Nat) (w : World), w.grownBy (w.setCells b o vs) (some b)
  | [], o, w => World.grownBy.refl w _
  | v :: r, o, w => by
    have h1 := grown_set13 w b o v
    have h2 := grownCells13 b r (o + 1) (w.setCell ⟨b, o, none⟩ v)
    exact ⟨h2.os.trans h1.os, h2.tape.trans h1.tape, h2.output.trans h1.output, Nat.le_trans h1.size h2.size, fun i hi hn => (h2.block i (Nat.lt_of_lt_of_le hi h1.size) hn).trans (h1.block i hi hn)⟩
end Go.Proofs.YtmaiphgmnammgaaDoor

/- slices.IndexFunc, ContainsFunc, DeleteFunc at rows of promises: with a closure, and with the method value 'n.covers'. (Written by gen_hzfind.py.) -/
set_option linter.unusedVariables false
set_option linter.unusedSimpArgs false
namespace Go.Proofs.YtmaiphgmnammgaaDoor
open Go.RowKit Go.Sort Go.Shelf

/-- Where the first one stands that p says. -/
def IdxIs (p : Pm → Bool) (X : List Pm) (z : Int) : Prop := (z = -1 ∧ ∀ x ∈ X, p x = false) ∨ ∃ k x, z = ((k : Nat) : Int) ∧ X[k]? = some x ∧ p x = true ∧ ∀ j y, j < k → X[j]? = some y → p y = false
theorem IdxIs.none {p : Pm → Bool} {X : List Pm} {n : Nat} (hn : X.length = n) (h : ∀ j y, j < n → X[j]? = some y → p y = false) : IdxIs p X (-1) := .inl ⟨rfl, fun x hx => by
  obtain ⟨i, hi⟩ := List.getElem?_of_mem hx
  exact h i x (by have := (List.getElem?_eq_some_iff.1 hi).1; omega) hi⟩
theorem take_next {X : List Pm} {k : Nat} {x : Pm} (h : X[k]? = some x) : X.take (k + 1) = X.take k ++ [x] := by rw [List.take_add_one, h]; rfl
/-- What the row is while DeleteFunc goes through it: behind i and j. -/
structure Del (p : Pm → Bool) (X M : List Pm) (n i j : Nat) : Prop where
  len : M.length = n
  ij : i < j
  jn : j ≤ n
  lo : M.take i = (X.take j).filter fun x => !p x
  hi : M.drop j = X.drop j
theorem Del.start {p : Pm → Bool} {X : List Pm} {n k : Nat} {x : Pm} (hn : X.length = n) (hx : X[k]? = some x) (hp : p x = true) (h : ∀ j y, j < k → X[j]? = some y → p y = false) : Del p X X n k (k + 1) := by
  have hk := (List.getElem?_eq_some_iff.1 hx).1
  refine ⟨hn, Nat.lt_succ_self _, by omega, ?_, rfl⟩
  rw [take_next hx, List.filter_append]
  have e : (X.take k).filter (fun x => !p x) = X.take k := List.filter_eq_self.2 fun y hy => by
    obtain ⟨j, hj⟩ := List.getElem?_of_mem hy
    rw [List.getElem?_take] at hj
    split at hj
    · rw [h j y (by assumption) hj]; rfl
    · cases hj
  rw [e]
  simp [hp]
theorem Del.at_ {p : Pm → Bool} {X M : List Pm} {n i j : Nat} (h : Del p X M n i j) {x : Pm} (hx : X[j]? = some x) : M[j]? = some x := by
  have e1 : (M.drop j)[0]? = (X.drop j)[0]? := by rw [h.hi]
  rw [List.getElem?_drop, List.getElem?_drop, Nat.add_zero] at e1
  rw [e1]; exact hx
theorem Del.keep {p : Pm → Bool} {X M : List Pm} {n i j : Nat} (h : Del p X M n i j) {x : Pm} (hx : X[j]? = some x) (hp : p x = false) (hj : j < n) : Del p X (M.set i x) n (i + 1) (j + 1) := by
  have hij := h.ij
  have hl := h.len
  refine ⟨by rw [List.length_set]; exact hl, by omega, by omega, ?_, ?_⟩
  · have e : (M.set i x)[i]? = some x := by rw [List.getElem?_set, if_pos rfl, if_pos (by omega)]
    rw [take_next e, take_next hx, List.filter_append, ← h.lo, List.take_set_of_le (Nat.le_refl _)]
    simp [hp]
  · rw [List.drop_set_of_lt (by omega)]
    have := congrArg (List.drop 1) h.hi
    rw [List.drop_drop, List.drop_drop] at this
    exact this
theorem Del.skip {p : Pm → Bool} {X M : List Pm} {n i j : Nat} (h : Del p X M n i j) {x : Pm} (hx : X[j]? = some x) (hp : p x = true) (hj : j < n) : Del p X M n i (j + 1) := by
  refine ⟨h.len, Nat.lt_succ_of_lt h.ij, by omega, ?_, ?_⟩
  · rw [take_next hx, List.filter_append, ← h.lo]
    simp [hp]
  · have := congrArg (List.drop 1) h.hi
    rw [List.drop_drop, List.drop_drop] at this
    exact this
theorem Del.end_ {p : Pm → Bool} {X M : List Pm} {n i : Nat} (h : Del p X M n i n) (hn : X.length = n) : M.take i = X.filter (fun x => !p x) ∧ i = (X.filter fun x => !p x).length := by
  have e := h.lo
  rw [List.take_of_length_le (l := X) (by omega)] at e
  refine ⟨e, ?_⟩
  rw [← e, List.length_take, h.len]
  have := h.ij
  omega
theorem grownTr13 {w w1 w2 : World} {o : Option Nat} (h : w.grownBy w1 o) (k : w1.grownBy w2 o) : w.grownBy w2 o :=
  ⟨k.os.trans h.os, k.tape.trans h.tape, k.output.trans h.output, Nat.le_trans h.size k.size, fun i hi hn => (k.block i (Nat.lt_of_lt_of_le hi h.size) hn).trans (h.block i hi hn)⟩
theorem grownBelow13 {w w' : World} (h : Below w.heap.size w w') (o : Option Nat) : w.grownBy w' o := ⟨h.os, h.tape, h.output, h.size, fun k hk _ => h.block k hk⟩
theorem any_idx {p : Pm → Bool} {X : List Pm} {z : Int} (h : IdxIs p X z) : decide (0 ≤ z) = X.any p := by
  rcases h with ⟨rfl, ha⟩ | ⟨k, x, rfl, hx, hp, _⟩
  · have : X.any p = false := by rw [List.any_eq_false]; intro x hx; rw [ha x hx]; simp
    rw [this]; rfl
  · have : X.any p = true := List.any_eq_true.2 ⟨x, List.mem_of_getElem? hx, hp⟩
    rw [this]; simp
theorem IdxIs.nil {p : Pm → Bool} {z : Int} (h : IdxIs p [] z) : z = -1 := by
  rcases h with ⟨rfl, _⟩ | ⟨k, x, _, hx, _⟩
  · rfl
  · simp at hx

end Go.Proofs.YtmaiphgmnammgaaDoor
