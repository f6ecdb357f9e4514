/- Rows of promises, anywhere in their block. -/
import Derived.Test.YthgdiihibjnhoaaHzMath
import Derived.Test.YthgdiihibjnhoaaFlat
import Derived.ArgAppend
import Derived.OwnWalk
import Derived.Deep.MidRow
import Derived.Laws.AppendOwnNone
set_option linter.unusedVariables false
set_option linter.unusedSimpArgs false
namespace Go.Proofs.Ythgdiihibjnhoaa
open Go.RowKit Go.Sort

def encP (x : Pm) : List Value := [.int .i64 x.frm, .int .u64 (x.st : Int), .int .u32 (x.sn : Int)]
theorem encP_length (x : Pm) : (encP x).length = 3 := rfl
theorem encP_one (x : Pm) : ∀ u ∈ encP x, u.oneCell' = true := by
  intro u hu
  simp only [encP, List.mem_cons, List.not_mem_nil, or_false] at hu
  rcases hu with rfl | rfl | rfl <;> rfl
theorem flatP_one {l : List Pm} : ∀ u ∈ flat encP l, u.oneCell' = true := by
  intro u hu
  unfold flat at hu
  obtain ⟨c, hc, huc⟩ := List.mem_flatten.1 hu
  obtain ⟨m, _, rfl⟩ := List.mem_map.1 hc
  exact encP_one m u huc
def zeroP : Value := .agg #[.int .i64 0, .int .u64 0, .int .u32 0]
theorem add_lit13 (b o k : Nat) : (⟨b, o, none⟩ : Addr).add k = ⟨b, o + k, none⟩ := by cases k <;> simp [Addr.add]
theorem grown_set13 (w : World) (g j : Nat) (v : Value) : w.grownBy (w.setCell ⟨g, j, none⟩ v) (some g) :=
  ⟨rfl, rfl, rfl, by simp, fun k hk ho => heap_setCell_other w ⟨g, j, none⟩ k v (by intro e; apply ho; rw [e])⟩
/-- A slice. -/
structure ZSl where
  a : Option Addr
  n : Nat
  c : Nat
  deriving Inhabited
def ZSl.v (s : ZSl) : Value := .slice s.a s.n s.c
def zslNil : ZSl := ⟨none, 0, 0⟩
section
variable {w : World} {b off n cap : Nat} {X : List Pm}
theorem flat_dropZ (X : List Pm) (k j : Nat) (hk : k ≤ X.length) : (flat encP (X.drop k))[j]? = (flat encP X)[k * 3 + j]? := by
  have e : flat encP X = flat encP (X.take k) ++ flat encP (X.drop k) := by rw [← flat_append, List.take_append_drop]
  have hl : (flat encP (X.take k)).length = k * 3 := by rw [flat_length encP 3 encP_length, List.length_take, Nat.min_eq_left hk]
  rw [e, List.getElem?_append_right (by omega), hl, Nat.add_sub_cancel_left]
end

theorem flatP_one13 {l : List Pm} : ∀ u ∈ flat encP l, u.oneCell' = true := flatP_one
theorem grownCells13 (b : Nat) : ∀ (vs : List Value) (o : Nat) (w : World), w.grownBy (w.setCells b o vs) (some b)
  | [], o, w => World.grownBy.refl w _
  | v :: r, o, w => by
    have h1 := grown_set13 w b o v
    have h2 := grownCells13 b r (o + 1) (w.setCell ⟨b, o, none⟩ v)
    exact ⟨h2.os.trans h1.os, h2.tape.trans h1.tape, h2.output.trans h1.output, Nat.le_trans h1.size h2.size, fun i hi hn => (h2.block i (Nat.lt_of_lt_of_le hi h1.size) hn).trans (h1.block i hi hn)⟩
end Go.Proofs.Ythgdiihibjnhoaa
