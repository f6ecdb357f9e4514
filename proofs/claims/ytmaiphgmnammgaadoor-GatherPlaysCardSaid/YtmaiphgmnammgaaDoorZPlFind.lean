/- Plans: whose exchanges these are; where me's stands. -/
import Derived.Test.YtmaiphgmnammgaaDoorZPlJoin
import Derived.Test.YtmaiphgmnammgaaDoorZPops
set_option linter.unusedVariables false
set_option maxRecDepth 100000
set_option linter.unusedSimpArgs false
namespace Go.Proofs.YtmaiphgmnammgaaDoor
open Go.RowKit Go.Sort Go.Shelf

theorem xg_size : (Tryd.prog.info? 38).map (·.size) = some 6 := by kernel_rfl
theorem load_xgm {ops : Array Oper} {rest : List Oper} {o : Oper} {A : Act} {w : World} {Q : Exit → Act → World → Prop} (hgd : o.guard = none) (x : Operand) (ho : o.op = .load 38 x)
    (b q : Nat) (m : Xg) (hx : A.eval x = .pointer (some ⟨b, q, none⟩)) (hc : w.rangeAt b q (encXg m))
    (h : wpList Tryd.prog ops Q rest (A.put o.dst (.agg #[.int .i64 m.w, .int .u64 m.oe, .int .i64 m.op, .slice m.a m.n m.c, .int .u64 m.k.n, .int .i64 m.k.p])) w) : wpList Tryd.prog ops Q (o :: rest) A w :=
  wpList_load_mid hgd 38 x ho b q hx (encXg m) _ hc Tryd.underlying38 rfl xg_size h
/-- A slice of exchanges that came in. -/
structure XgL (w : World) (ao : Option Addr) (n : Nat) (l : List Xg) : Prop where
  at_ : Lst encXg 6 w ao n l
  in_ : ∀ x ∈ l, XgIn w x ∧ x.ok
theorem XgL.below {w w' : World} {ao : Option Addr} {n : Nat} {l : List Xg} (h : XgL w ao n l) (hb : Below w.heap.size w w') : XgL w' ao n l :=
  ⟨Lst.below h.at_ hb, fun x hx => ⟨(h.in_ x hx).1.below hb, (h.in_ x hx).2⟩⟩
theorem XgL.row {w : World} {ao : Option Addr} {n k : Nat} {l : List Xg} (h : XgL w ao n l) (hk : k < n) : ∃ b o x, ao = some ⟨b, o, none⟩ ∧ l[k]? = some x ∧ w.rangeAt b (o + k * 6) (encXg x) := by
  obtain ⟨b, o, e, hr⟩ := h.at_.src (by omega)
  have hl : k < l.length := by rw [h.at_.size]; exact hk
  exact ⟨b, o, l[k], e, List.getElem?_eq_getElem hl, fun j u hj => hr k _ (List.getElem?_eq_getElem hl) j u hj⟩
theorem csL_take {l : List Xg} {k : Nat} {x : Xg} (h : l[k]? = some x) : csL (l.take (k + 1)) = any (csL (l.take k)) (onl x.w) := by
  rw [List.take_add_one, h]; exact csL_snoc _ _
/-- Where me's stands. -/
def IdxX (l : List Xg) (me : Int) (z : Int) : Prop := (z = -1 ∧ ∀ x ∈ l, x.w ≠ me) ∨ ∃ (k : Nat) (x : Xg), z = (k : Int) ∧ l[k]? = some x ∧ x.w = me
end Go.Proofs.YtmaiphgmnammgaaDoor
