/- Plans: how far each one's messages go, once nothing more is given up (the loop by goto). -/
import Derived.Test.YtmaiphgmnammgaaDoorZPlLean
import Derived.Test.YtmaiphgmnammgaaDoorZSMaps
import Derived.WalkMore
import Derived.ScopeJumps
import Derived.Laws.StructEq
import Derived.Deep.MidRow
set_option linter.unusedVariables false
set_option maxRecDepth 100000
set_option linter.unusedSimpArgs false
namespace Go.Proofs.YtmaiphgmnammgaaDoor
open Go.RowKit Go.Sort Go.Shelf

theorem updW_self (f : Nat → Wh) (p : Nat) : updW f p (f p) = f := by
  funext q; unfold updW; split
  · subst_vars; rfl
  · rfl
theorem rowW_cut (f : Nat → Wh) (p : Nat) (hp : p < 64) : rowW f = (rowW f).take (p * 2) ++ encWh (f p) ++ (rowW f).drop (p * 2 + 2) := by
  rw [rowW_set f p hp (f p), updW_self]
theorem step_index15 {ops : Array Oper} {rest : List Oper} {o : Oper} {a : Act} {w : World} {Q : Exit → Act → World → Prop} (hgd : o.guard = none) (ty : TypeId) (x y : Operand) (ho : o.op = .index ty x y)
    (vx vy v : Value) (hx : a.eval x = vx) (hy : a.eval y = vy) (hb : (Instr.index ty vx vy).run Tryd.prog w = .ok v w)
    (h : wpList Tryd.prog ops Q rest (a.put o.dst v) w) : wpList Tryd.prog ops Q (o :: rest) a w :=
  wpList_plain hgd fun _ hK => by
    unfold Oper.wp execOp
    simp only [ho, hx, hy, Sem.run_bind, Sem.run_pure, Result.andThen_ok, hb]
    exact hK _ _ h
/-- The ends, laid up to k. -/
def endUp (f : Nat → Wh) (k : Nat) : Nat → Int := fun q => if q < k then (f q).n + 1 else 0
theorem endUp_zero (f : Nat → Wh) : endUp f 0 = fun _ => 0 := by funext q; unfold endUp; rw [if_neg (by omega)]
theorem endUp_next (f : Nat → Wh) (k : Nat) : updE (endUp f k) k ((f k).n + 1) = endUp f (k + 1) := by
  funext q; unfold updE endUp
  by_cases e : q = k
  · subst e; rw [if_pos rfl, if_pos (by omega)]
  · rw [if_neg e]
    by_cases h : q < k
    · rw [if_pos h, if_pos (by omega)]
    · rw [if_neg h, if_neg (by omega)]
theorem rowE_ext {e e' : Nat → Int} (h : ∀ q, q < 64 → e q = e' q) : rowF vI64 e = rowF vI64 e' := by
  unfold rowF
  exact List.map_congr_left fun q hq => by rw [h q (List.mem_range.1 hq)]
/-- A message's numbers are of their kinds. -/
structure MgN (w : World) (m : Mg) : Prop where
  f0 : -9223372036854775808 ≤ m.f
  f1 : m.f ≤ 9223372036854775807
  q0 : 0 ≤ m.q
  q1 : m.q < 4294967296
  at_ : DpIn w m
  deps : DepsOk m.deps
  few : m.dl ≤ 1048576
theorem MgN.below {w w' : World} {m : Mg} (h : MgN w m) (hb : Below w.heap.size w w') : MgN w' m := ⟨h.f0, h.f1, h.q0, h.q1, Lst.below h.at_ hb, h.deps, h.few⟩
/-- A scope whose run comes back to one label: what goes on from the label is shown once, and serves the first pass, too. -/
theorem wp_scope_back {P : Program} {a : Act} {w : World} {Q : Exit → Act → World → Prop} {c rest : Code} (l : Nat) (J : Act → World → Prop) (μ : Act → World → Nat) (hf : findLabel c l = some (.seq .skip rest))
    (pass : ∀ a w, J a w → rest.wp P (Exit.jump l (fun a' w' => J a' w' ∧ μ a' w' < μ a w) Q) a w)
    (first : (∀ a w, J a w → rest.wp P (Exit.jump l J Q) a w) → c.wp P (Exit.jump l J Q) a w) : (Code.scope c).wp P Q a w :=
  wp_scope_jumps l J μ hf (first fun a w hj => wp_mono (pass a w hj) fun e a' w' h => by
    cases e with
    | goto l' => exact ⟨h.1, h.2.1⟩
    | _ => exact h) fun a w hj => wp_seq (wp_skip (pass a w hj))
/-- An end as it stands in memory. -/
def readE (w : World) (b : Nat) (q : Nat) : Int := match w.cell? ⟨b, q, none⟩ with
  | some (.int _ v) => v
  | _ => 0
theorem sumE_ext {e e' : Nat → Int} : ∀ k, (∀ q, q < k → e q = e' q) → sumE e k = sumE e' k
  | 0, _ => rfl
  | k + 1, h => by
    unfold sumE
    rw [sumE_ext k fun q hq => h q (by omega), h k (by omega)]
/-- Two ends held against each other. -/
def sameE (e e' : Nat → Int) : Bool := (List.range 64).all fun q => e q == e' q
theorem sameE_iff {e e' : Nat → Int} : sameE e e' = true ↔ ∀ q, q < 64 → e q = e' q := by
  unfold sameE; simp
section
variable {w v v' : World} {f : Nat → Wh} {R : List Mg} {wb k : Nat} {e e' : Nat → Int}
end
section
variable {w : World} {g : Nat} {P : Pn}
end
end Go.Proofs.YtmaiphgmnammgaaDoor
