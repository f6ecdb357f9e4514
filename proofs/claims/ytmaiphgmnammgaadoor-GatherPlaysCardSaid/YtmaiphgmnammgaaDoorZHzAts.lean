/- A horizon in memory: its block of 195 cells, its row of promises. -/
import Derived.Test.YtmaiphgmnammgaaDoorZHzRows
import Derived.Test.YtmaiphgmnammgaaDoorZPops
import Derived.BigRegion
import Derived.Lib.MinMax
set_option linter.unusedVariables false
set_option linter.unusedSimpArgs false
namespace Go.Proofs.YtmaiphgmnammgaaDoor
open Go.RowKit Go.Sort

def encK (m : Mk) : List Value := [.int .u64 (m.hd : Int), .int .u64 (m.rc : Int), .int .u32 (m.cm : Int)]
theorem encK_length (m : Mk) : (encK m).length = 3 := rfl
def rowK (f : Nat → Mk) : List Value := flat encK ((List.range 64).map f)
theorem rowK_length (f : Nat → Mk) : (rowK f).length = 192 := by
  unfold rowK; rw [flat_length encK 3 encK_length]; simp
theorem rowK_at (f : Nat → Mk) (p : Nat) (hp : p < 64) (c : Nat) (hc : c < 3) : (rowK f)[p * 3 + c]? = (encK (f p))[c]? := by
  unfold rowK
  exact flat_at encK 3 encK_length _ p _ (by rw [List.getElem?_map, List.getElem?_range hp]; rfl) c hc
theorem rowK_set (f : Nat → Mk) (p : Nat) (hp : p < 64) (c : Nat) (hc : c < 3) (v : Value) (m : Mk) (he : encK m = (encK (f p)).set c v) : (rowK f).set (p * 3 + c) v = rowK (updM f p m) := by
  apply List.ext_getElem?
  intro i
  rw [List.getElem?_set, rowK_length]
  by_cases hi : i < 192
  · have hd : i / 3 * 3 + i % 3 = i := by omega
    have h3 : i % 3 < 3 := Nat.mod_lt _ (by decide)
    have h64 : i / 3 < 64 := by omega
    have e1 := rowK_at f (i / 3) h64 (i % 3) h3
    have e2 := rowK_at (updM f p m) (i / 3) h64 (i % 3) h3
    rw [hd] at e1 e2
    rw [e1, e2]
    by_cases e : i / 3 = p
    · subst e
      rw [updM_at, he, List.getElem?_set, encK_length]
      by_cases e3 : c = i % 3
      · rw [if_pos (by omega), if_pos (by omega), if_pos e3, if_pos (by omega)]
      · rw [if_neg (by omega), if_neg e3]
    · rw [updM_other _ _ _ _ e, if_neg (by omega)]
  · rw [if_neg (by omega), List.getElem?_eq_none (by rw [rowK_length]; omega), List.getElem?_eq_none (by rw [rowK_length]; omega)]
def Hz.cells (H : Hz) (v : Value) : List Value := .int .u64 (H.oth : Int) :: .int .u64 (H.clock : Int) :: (rowK H.mks ++ [v])
theorem Hz.cells_length (H : Hz) (v : Value) : (H.cells v).length = 195 := by unfold Hz.cells; simp [rowK_length]
theorem cells_bagZ (H : Hz) (v v' : Value) (R : List Pm) : (H.cells v).toArray.setIfInBounds 194 v' = (({ H with wait := R } : Hz).cells v').toArray := by
  rw [List.setIfInBounds_toArray]
  refine congrArg List.toArray ?_
  unfold Hz.cells
  rw [List.set_cons_succ, List.set_cons_succ, List.set_append_right _ _ (by rw [rowK_length]; decide), rowK_length]
  try rfl
theorem cells_clockZ (H : Hz) (v : Value) (c : Nat) : (H.cells v).toArray.setIfInBounds 1 (.int .u64 (c : Int)) = (({ H with clock := c } : Hz).cells v).toArray := by
  rw [List.setIfInBounds_toArray]; rfl
theorem cells_markZ (H : Hz) (v : Value) (p : Nat) (hp : p < 64) (c : Nat) (hc : c < 3) (u : Value) (m : Mk) (he : encK m = (encK (H.mks p)).set c u) : (H.cells v).toArray.setIfInBounds (2 + p * 3 + c) u = ((markZ H p m).cells v).toArray := by
  rw [List.setIfInBounds_toArray]
  refine congrArg List.toArray ?_
  unfold Hz.cells markZ
  rw [show 2 + p * 3 + c = p * 3 + c + 1 + 1 by omega, List.set_cons_succ, List.set_cons_succ, List.set_append_left _ _ (by rw [rowK_length]; omega), rowK_set _ p hp c hc u m he]

section
variable {w : World} {g B : Nat} {H : Hz} {s : ZSl}
end
/-- What a call on the horizon of the block g leaves of the rest. -/
structure ZMoved (w w' : World) (g : Nat) (ao ao' : Option Addr) : Prop where
  os : w'.os = w.os
  tape : w'.tape = w.tape
  output : w'.output = w.output
  size : w.heap.size ≤ w'.heap.size
  block : ∀ k, k < w.heap.size → k ≠ g → (∀ a, ao = some a → k ≠ a.block) → w'.heap[k]? = w.heap[k]?
  own : ∀ a, ao' = some a → (∃ a0, ao = some a0 ∧ a0.block = a.block) ∨ w.heap.size ≤ a.block
theorem ZMoved.refl (w : World) (g : Nat) (ao : Option Addr) : ZMoved w w g ao ao := ⟨rfl, rfl, rfl, Nat.le_refl _, fun _ _ _ _ => rfl, fun a h => .inl ⟨a, h, rfl⟩⟩
theorem ZMoved.trans {w w' w'' : World} {g : Nat} {ao ao' ao'' : Option Addr} (h : ZMoved w w' g ao ao') (k : ZMoved w' w'' g ao' ao'') : ZMoved w w'' g ao ao'' where
  os := k.os.trans h.os
  tape := k.tape.trans h.tape
  output := k.output.trans h.output
  size := Nat.le_trans h.size k.size
  block := fun i hi hg ha => (k.block i (Nat.lt_of_lt_of_le hi h.size) hg (fun a e => by
    rcases h.own a e with ⟨a0, e0, e1⟩ | e0
    · rw [← e1]; exact ha a0 e0
    · omega)).trans (h.block i hi hg ha)
  own := fun a e => by
    rcases k.own a e with ⟨a0, e0, e1⟩ | e0
    · rcases h.own a0 e0 with ⟨a1, e2, e3⟩ | e2
      · exact .inl ⟨a1, e2, e3.trans e1⟩
      · exact .inr (by rw [← e1]; exact e2)
    · exact .inr (Nat.le_trans h.size e0)
theorem ZMoved.of_below {w w' : World} (h : Below w.heap.size w w') (g : Nat) (ao : Option Addr) : ZMoved w w' g ao ao := ⟨h.os, h.tape, h.output, h.size, fun k hk _ _ => h.block k hk, fun a h => .inl ⟨a, h, rfl⟩⟩
theorem ZMoved.of_grown {w w' : World} {g : Nat} {o : Option Nat} (h : w.grownBy w' o) (ao : Option Addr) (ho : ∀ k, o = some k → k = g ∨ ∃ a, ao = some a ∧ k = a.block) : ZMoved w w' g ao ao :=
  ⟨h.os, h.tape, h.output, h.size, fun k hk hg ha => h.block k hk (fun e => by
    rcases ho k e.symm with e1 | ⟨a, e1, e2⟩
    · exact hg e1
    · exact ha a e1 e2), fun a h => .inl ⟨a, h, rfl⟩⟩
theorem ZMoved.then {w w' w'' : World} {g : Nat} {ao ao' : Option Addr} (h : ZMoved w w' g ao ao') (k : Below w'.heap.size w' w'') : ZMoved w w'' g ao ao' := h.trans (ZMoved.of_below k g ao')
theorem ZMoved.after {w w' w'' : World} {g : Nat} {ao ao' : Option Addr} (k : Below w.heap.size w w') (h : ZMoved w' w'' g ao ao') : ZMoved w w'' g ao ao' := (ZMoved.of_below k g ao).trans h
theorem ZMoved.base {w w' : World} {g B : Nat} {ao ao' : Option Addr} (m : ZMoved w w' g ao ao') (h : ∀ x, ao = some x → B ≤ x.block) (hB : B ≤ w.heap.size) : ∀ x, ao' = some x → B ≤ x.block := fun x e => by
  rcases m.own x e with ⟨a, e1, e2⟩ | e1
  · rw [← e2]; exact h a e1
  · omega
end Go.Proofs.YtmaiphgmnammgaaDoor

/- New, Clock, See, Stamp, Reached, All, Safe. -/
set_option linter.unusedVariables false
set_option linter.unusedSimpArgs false
namespace Go.Proofs.YtmaiphgmnammgaaDoor
open Go.RowKit Go.Sort Go.Shelf

theorem ofl_oneZ (z : Int) : ofl [z] = onl z := set_ext _ _ (num_lt _) (onl_lt _) fun i hi => by
  unfold ofl
  rw [num_bit, onl_bit _ _ hi]
  simp [hi]
theorem InI.oneZ (w : World) (z : Int) (h0 : -9223372036854775808 ≤ z) (h1 : z ≤ 9223372036854775807) : InI (w.alloc (.cells #[.int .i64 z] 3)) (some ⟨w.heap.size, 0, none⟩) 1 [z] := ⟨rfl, fun j v hj => ⟨_, rfl, by
    cases j with
    | zero => simp at hj; subst hj; simp [Addr.add]
    | succ j => simp at hj⟩, fun v hv => by simp at hv; omega⟩
theorem step_build1 {ops : Array Oper} {rest : List Oper} {o : Oper} {a : Act} {w : World} {Q : Exit → Act → World → Prop} (hgd : o.guard = none) (ty : TypeId) (x : Operand) (ho : o.op = .build ty #[(0, x)])
    (vx v : Value) (hx : a.eval x = vx) (hb : (Instr.build ty #[(0, vx)]).run Tryd.prog w = .ok v w)
    (h : wpList Tryd.prog ops Q rest (a.put o.dst v) w) : wpList Tryd.prog ops Q (o :: rest) a w :=
  wpList_plain hgd fun _ hK => by
    unfold Oper.wp execOp
    simp only [ho, hx, List.map_toArray, List.map_cons, List.map_nil, Sem.run_bind, Sem.run_pure, Result.andThen_ok, hb]
    exact hK _ _ h
section
variable {w : World} {g B : Nat} {H : Hz} {s : ZSl}
theorem mem_nat13 {a : Nat} {p : Int} (h : mem a p = true) : ∃ k : Nat, p = (k : Int) ∧ k < 64 ∧ a.testBit k = true := by
  unfold mem at h
  simp at h
  obtain ⟨⟨h1, h2⟩, h3⟩ := h
  obtain ⟨k, rfl⟩ := Int.eq_ofNat_of_zero_le h1
  exact ⟨k, rfl, by omega, by simpa using h3⟩
theorem mem_ltZ {a : Nat} {k : Nat} (hk : k < 64) : mem a (k : Int) = a.testBit k := mem_nat a k hk
end
end Go.Proofs.YtmaiphgmnammgaaDoor
