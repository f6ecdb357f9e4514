/- A region that draws its order, whose own operations only read, and whose callees write to memory of their own alone: walked once. -/
import Derived.Test.YtblefbjmjhgkkaaZGrws
set_option linter.unusedVariables false
set_option maxRecDepth 100000
set_option linter.unusedSimpArgs false
namespace Go.Proofs.Ytblefbjmjhgkkaa
open Go.RowKit Go.Sort

/-- A world with another count of draws. -/
def atD (w : World) (n : Nat) : World := { w with drawn := n }
/-- How far a world is from another one below whose blocks nothing has turned. -/
structure BelBy where
  n : Nat
  os : Array Obj
  deriving Inhabited
theorem below_form {w w' : World} (h : Below w.heap.size w w') : ∃ p : BelBy, w' = grow (atD w p.n) p.os := by
  obtain ⟨h1, h2, h3, h4, h5⟩ := h
  obtain ⟨hp, tp, dr, os, out⟩ := w
  obtain ⟨hp', tp', dr', os', out'⟩ := w'
  simp only at h1 h2 h3 h4 h5
  subst h1 h2 h3
  refine ⟨⟨dr', hp'.extract hp.size hp'.size⟩, ?_⟩
  have e : hp' = hp ++ hp'.extract hp.size hp'.size := by
    apply Array.ext_getElem?
    intro i
    by_cases hi : i < hp.size
    · rw [h5 i hi, Array.getElem?_append_left hi]
    · obtain ⟨d, rfl⟩ : ∃ d, i = hp.size + d := ⟨i - hp.size, by omega⟩
      rw [Array.getElem?_append_right (by omega), Nat.add_sub_cancel_left]
      by_cases hj : hp.size + d < hp'.size
      · rw [Array.getElem?_extract_of_lt (by omega), Array.getElem?_eq_getElem hj]
      · rw [Array.getElem?_eq_none (by omega), Array.getElem?_eq_none (by rw [Array.size_extract]; omega)]
  show (⟨hp', tp', dr', os', out'⟩ : World) = ⟨hp ++ hp'.extract hp.size hp'.size, tp', dr', os', out'⟩
  rw [← e]
theorem below_of_form (w : World) (n : Nat) (os : Array Obj) : Below w.heap.size w (grow (atD w n) os) :=
  ⟨rfl, rfl, rfl, by rw [size_grow]; exact Nat.le_add_right _ _, fun k hk => heap_grow_old (atD w n) os hk⟩
theorem size_form (w : World) (n : Nat) (os : Array Obj) : w.heap.size ≤ (grow (atD w n) os).heap.size := by rw [size_grow]; exact Nat.le_add_right _ _
theorem cell_form {w : World} {a : Addr} {v : Value} (hb : a.block < w.heap.size) (h : w.cell? a = some v) (n : Nat) (os : Array Obj) : (grow (atD w n) os).cell? a = some v := by
  rw [cell?_grow _ _ _ (by exact hb)]; exact h

theorem wp_region_quiet_below {P : Program} {id : Nat} {Q : Exit → Act → World → Prop} {a : Act} {w : World} {l : List Oper} (hm : P.follows .mixedOrders = true) (hB : Region.lexB .any l.toArray = true)
    (h : wpQuiet P l.toArray (fun w' => ∃ p : BelBy, w' = grow (atD w p.n) p.os) (fun a' => ∀ w', (∃ p : BelBy, w' = grow (atD w p.n) p.os) → Q .normal a' w') l a) : (Code.region id l.toArray true).wp P Q a w :=
  wp_region_quiet (C := fun w' => ∃ p : BelBy, w' = grow (atD w p.n) p.os) hm hB ⟨⟨w.drawn + 1, #[]⟩, by rw [grow_empty]; rfl⟩ (by simpa using h)

/-- A callee's contract, met in a world of the class. -/
theorem calls_below {P : Program} {f : FuncId} {args : Array Value} {w : World} {n : Nat} {os : Array Obj} {v : Value}
    (h : Calls P f args (grow (atD w n) os) fun e w' => e = .returned v ∧ Below (grow (atD w n) os).heap.size (grow (atD w n) os) w') : Calls P f args (grow (atD w n) os) fun e w'' => e = .returned v ∧ ∃ p : BelBy, w'' = grow (atD w p.n) p.os :=
  h.mono fun _ _ ⟨he, hb⟩ => ⟨he, below_form ((below_of_form w n os).trans (hb.mono (size_form w n os)))⟩
theorem calls_grw {P : Program} {f : FuncId} {args : Array Value} {w : World} {n : Nat} {os : Array Obj} {v : Value}
    (h : Calls P f args (grow (atD w n) os) fun e w' => e = .returned v ∧ Grw (grow (atD w n) os) w') : Calls P f args (grow (atD w n) os) fun e w'' => e = .returned v ∧ ∃ p : BelBy, w'' = grow (atD w p.n) p.os :=
  calls_below (h.mono fun _ _ ⟨he, hg⟩ => ⟨he, hg.below⟩)
end Go.Proofs.Ytblefbjmjhgkkaa
