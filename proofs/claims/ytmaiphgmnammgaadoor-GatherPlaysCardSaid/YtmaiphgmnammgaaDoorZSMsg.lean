/- Messages as values: their cells, their Deps; what Same, All and Few answer. (Copies of elder texts of mine over Flat, under names of their own.) -/
import Derived.Test.YtmaiphgmnammgaaDoorZGrws
import Derived.Deep.SlicePairs
set_option linter.unusedVariables false
set_option linter.unusedSimpArgs false
namespace Go.Proofs.YtmaiphgmnammgaaDoor
open Go.RowKit Go.Sort

/-- A message: its numbers, its Deps (where they lie, and what they are), its text. -/
structure Mg where
  f : Int
  q : Int
  s : Int
  v : Int
  a : Option Addr
  dl : Nat
  dc : Nat
  deps : List Int
  text : ByteArray
  deriving Inhabited
/-- Its six cells. -/
def encG (m : Mg) : List Value := [.int .i64 m.f, .int .u32 m.q, .int .u64 m.s, .int .i64 m.v, .slice m.a m.dl m.dc, .string m.text]
theorem encG_length (m : Mg) : (encG m).length = 6 := rfl
theorem encG_one (m : Mg) : ∀ v ∈ encG m, v.oneCell' = true := by
  intro v hv
  simp only [encG, List.mem_cons, List.not_mem_nil, or_false] at hv
  rcases hv with rfl | rfl | rfl | rfl | rfl | rfl <;> rfl

/-- A message's Deps lie where it says. -/
def DpIn (w : World) (m : Mg) : Prop := Lst (fun n : Int => [.int .u32 n]) 1 w m.a m.dl m.deps
theorem DpIn.below {w w' : World} {m : Mg} (h : DpIn w m) (hb : Below w.heap.size w w') : DpIn w' m := Lst.below h hb

/-- Are two messages the same? -/
def sameG (x y : Mg) : Bool := x.f == y.f && x.q == y.q && x.s == y.s && x.v == y.v && x.text.toList == y.text.toList && x.dl == y.dl && x.deps == y.deps
theorem sameG_refl (x : Mg) : sameG x x = true := by unfold sameG; simp

/-- What Same answers. -/
def ToldG (b : Bool) (w : World) (e : Ending) (w' : World) : Prop := e = .returned (.bool b) ∧ Grw w w'

/-- Element k of a slice of messages: its cells, in every world behind. -/
theorem Lst.atG {w : World} {ao : Option Addr} {len k : Nat} {l : List Mg} (h : Lst encG 6 w ao len l) (hk : k < len) : ∃ b o x, ao = some ⟨b, o, none⟩ ∧ l[k]? = some x ∧ b < w.heap.size ∧
    (∀ c v, (encG x)[c]? = some v → w.cell? ⟨b, o + k * 6 + c, none⟩ = some v) := by
  obtain ⟨b, o, e, hr⟩ := h.src (by omega)
  have hkl : k < l.length := by rw [h.size]; exact hk
  exact ⟨b, o, l[k], e, List.getElem?_eq_getElem hkl, World.block_lt_of_cell? _ _ (hr k _ (List.getElem?_eq_getElem hkl) 0 _ rfl), hr k _ (List.getElem?_eq_getElem hkl)⟩

theorem below_drewG {B : Nat} {a w : World} (h : Below B a w) (n : Nat) : Below B a (w.drewN n) := ⟨h.os, h.tape, h.output, h.size, h.block⟩

/-- What Few answers: if yes, the messages are at most 300, and their Deps few. -/
def FewSaidG (w : World) (len : Nat) (l : List Mg) (e : Ending) (w' : World) : Prop :=
  (e = .returned (.bool false) ∨ e = .returned (.bool true) ∧ len ≤ 300 ∧ ∀ m ∈ l, m.dl ≤ 20000) ∧ Below w.heap.size w w'

end Go.Proofs.YtmaiphgmnammgaaDoor
