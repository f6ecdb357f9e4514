/- A horizon in memory: its block of 195 cells, its row of promises. -/
import Derived.Test.YtfocjcdfpnbkjaaHzFind
import Derived.Test.YtfocjcdfpnbkjaaSetOf
import Derived.BigRegion
set_option linter.unusedVariables false
set_option linter.unusedSimpArgs false
namespace Go.Proofs.Ytfocjcdfpnbkjaa
open Go.RowKit Go.Sort

def encK (m : Mk) : List Value := [.int .u64 (m.hd : Int), .int .u64 (m.rc : Int), .int .u32 (m.cm : Int)]
theorem encK_length (m : Mk) : (encK m).length = 3 := rfl
def rowK (f : Nat → Mk) : List Value := flat encK ((List.range 64).map f)
theorem rowK_length (f : Nat → Mk) : (rowK f).length = 192 := by
  unfold rowK; rw [flat_length encK 3 encK_length]; simp
theorem rowK_at (f : Nat → Mk) (p : Nat) (hp : p < 64) (c : Nat) (hc : c < 3) : (rowK f)[p * 3 + c]? = (encK (f p))[c]? := by
  unfold rowK
  exact flat_at encK 3 encK_length _ p _ (by rw [List.getElem?_map, List.getElem?_range hp]; rfl) c hc
theorem rowK_set (f : Nat → Mk) (p : Nat) (hp : p < 64) (c : Nat) (hc : c < 3) (v : Value) (m : Mk) (he : encK m = (encK (f p)).set c v) : (rowK f).set (p * 3 + c) v = rowK (updM f p m) := by
  apply List.ext_getElem?
  intro i
  rw [List.getElem?_set, rowK_length]
  by_cases hi : i < 192
  · have hd : i / 3 * 3 + i % 3 = i := by omega
    have h3 : i % 3 < 3 := Nat.mod_lt _ (by decide)
    have h64 : i / 3 < 64 := by omega
    have e1 := rowK_at f (i / 3) h64 (i % 3) h3
    have e2 := rowK_at (updM f p m) (i / 3) h64 (i % 3) h3
    rw [hd] at e1 e2
    rw [e1, e2]
    by_cases e : i / 3 = p
    · subst e
      rw [updM_at, he, List.getElem?_set, encK_length]
      by_cases e3 : c = i % 3
      · rw [if_pos (by omega), if_pos (by omega), if_pos e3, if_pos (by omega)]
      · rw [if_neg (by omega), if_neg e3]
    · rw [updM_other _ _ _ _ e, if_neg (by omega)]
  · rw [if_neg (by omega), List.getElem?_eq_none (by rw [rowK_length]; omega), List.getElem?_eq_none (by rw [rowK_length]; omega)]
def Hz.cells (H : Hz) (v : Value) : List Value := .int .u64 (H.oth : Int) :: .int .u64 (H.clock : Int) :: (rowK H.mks ++ [v])
theorem Hz.cells_length (H : Hz) (v : Value) : (H.cells v).length = 195 := by unfold Hz.cells; simp [rowK_length]
theorem cells_bagZ (H : Hz) (v v' : Value) (R : List Pm) : (H.cells v).toArray.setIfInBounds 194 v' = (({ H with wait := R } : Hz).cells v').toArray := by
  rw [List.setIfInBounds_toArray]
  refine congrArg List.toArray ?_
  unfold Hz.cells
  rw [List.set_cons_succ, List.set_cons_succ, List.set_append_right _ _ (by rw [rowK_length]; decide), rowK_length]
  try rfl
theorem cells_clockZ (H : Hz) (v : Value) (c : Nat) : (H.cells v).toArray.setIfInBounds 1 (.int .u64 (c : Int)) = (({ H with clock := c } : Hz).cells v).toArray := by
  rw [List.setIfInBounds_toArray]; rfl
theorem cells_markZ (H : Hz) (v : Value) (p : Nat) (hp : p < 64) (c : Nat) (hc : c < 3) (u : Value) (m : Mk) (he : encK m = (encK (H.mks p)).set c u) : (H.cells v).toArray.setIfInBounds (2 + p * 3 + c) u = ((markZ H p m).cells v).toArray := by
  rw [List.setIfInBounds_toArray]
  refine congrArg List.toArray ?_
  unfold Hz.cells markZ
  rw [show 2 + p * 3 + c = p * 3 + c + 1 + 1 by omega, List.set_cons_succ, List.set_cons_succ, List.set_append_left _ _ (by rw [rowK_length]; omega), rowK_set _ p hp c hc u m he]

structure HzAt (w : World) (g B : Nat) (H : Hz) (s : ZSl) : Prop where
  own : Own w g 146 (H.cells s.v).toArray
  row : ZSlot w s H.wait
  base : B ≤ g
  base2 : ∀ x, s.a = some x → B ≤ x.block
  ok : H.ok
section
variable {w : World} {g B : Nat} {H : Hz} {s : ZSl}
theorem HzAt.lt (h : HzAt w g B H s) : g < w.heap.size := h.own.lt
theorem HzAt.c0 (h : HzAt w g B H s) : w.cell? ⟨g, 0, none⟩ = some (.int .u64 (H.oth : Int)) := h.own.at_ 0 _ rfl
theorem HzAt.c1 (h : HzAt w g B H s) : w.cell? ⟨g, 1, none⟩ = some (.int .u64 (H.clock : Int)) := h.own.at_ 1 _ rfl
theorem cell_mark (h : Own w g 146 (H.cells s.v).toArray) (p : Nat) (hp : p < 64) (c : Nat) (u : Value) (hu : (encK (H.mks p))[c]? = some u) : w.cell? ⟨g, 2 + p * 3 + c, none⟩ = some u := by
  have hc : c < 3 := (List.getElem?_eq_some_iff.1 hu).1
  refine h.at_ (2 + p * 3 + c) _ ?_
  rw [List.getElem?_toArray, Hz.cells, show 2 + p * 3 + c = p * 3 + c + 1 + 1 by omega, List.getElem?_cons_succ, List.getElem?_cons_succ, List.getElem?_append_left (by rw [rowK_length]; omega), rowK_at _ p hp c hc]
  exact hu
theorem HzAt.k0 (h : HzAt w g B H s) (p : Nat) (hp : p < 64) : w.cell? ⟨g, 2 + p * 3, none⟩ = some (.int .u64 ((H.mks p).hd : Int)) := cell_mark h.own p hp 0 _ rfl
theorem HzAt.k1 (h : HzAt w g B H s) (p : Nat) (hp : p < 64) : w.cell? ⟨g, 2 + p * 3 + 1, none⟩ = some (.int .u64 ((H.mks p).rc : Int)) := cell_mark h.own p hp 1 _ rfl
theorem HzAt.k2 (h : HzAt w g B H s) (p : Nat) (hp : p < 64) : w.cell? ⟨g, 2 + p * 3 + 2, none⟩ = some (.int .u32 ((H.mks p).cm : Int)) := cell_mark h.own p hp 2 _ rfl
theorem HzAt.cw (h : HzAt w g B H s) : w.cell? ⟨g, 194, none⟩ = some s.v := by
  refine h.own.at_ 194 _ ?_
  rw [List.getElem?_toArray, Hz.cells, List.getElem?_cons_succ, List.getElem?_cons_succ, List.getElem?_append_right (by rw [rowK_length]; decide), rowK_length]
  rfl
theorem HzAt.free (h : HzAt w g B H s) (j : Nat) : w.frozen? ⟨g, j, none⟩ = false := h.own.free j
/-- The row lies in another block. -/
theorem HzAt.ne (h : HzAt w g B H s) (x : Addr) (hx : s.a = some x) : x.block ≠ g := by
  obtain ⟨cur, hc⟩ := h.row.typ x hx
  intro e
  rw [e] at hc
  have := h.own.is.symm.trans hc
  injection this with e
  injection e with _ e _
  exact absurd e (by decide)
theorem HzAt.kept {w' : World} (h : HzAt w g B H s) (hb : ∀ k, k < w.heap.size → k = g ∨ (∃ x, s.a = some x ∧ k = x.block) → w'.heap[k]? = w.heap[k]?) : HzAt w' g B H s :=
  ⟨(hb g h.lt (.inl rfl)).trans h.own, h.row.kept fun x hx => hb _ (h.row.lt x hx) (.inr ⟨x, hx, rfl⟩), h.base, h.base2, h.ok⟩
theorem HzAt.below {w' : World} (h : HzAt w g B H s) (hb : Below w.heap.size w w') : HzAt w' g B H s := h.kept fun k hk _ => hb.block k hk
theorem HzAt.drewN (h : HzAt w g B H s) (n : Nat) : HzAt (w.drewN n) g B H s := h.kept fun _ _ _ => rfl
end
/-- What a call on the horizon of the block g leaves of the rest. -/
structure ZMoved (w w' : World) (g : Nat) (ao ao' : Option Addr) : Prop where
  os : w'.os = w.os
  tape : w'.tape = w.tape
  output : w'.output = w.output
  size : w.heap.size ≤ w'.heap.size
  block : ∀ k, k < w.heap.size → k ≠ g → (∀ a, ao = some a → k ≠ a.block) → w'.heap[k]? = w.heap[k]?
  own : ∀ a, ao' = some a → (∃ a0, ao = some a0 ∧ a0.block = a.block) ∨ w.heap.size ≤ a.block
theorem ZMoved.refl (w : World) (g : Nat) (ao : Option Addr) : ZMoved w w g ao ao := ⟨rfl, rfl, rfl, Nat.le_refl _, fun _ _ _ _ => rfl, fun a h => .inl ⟨a, h, rfl⟩⟩
theorem ZMoved.trans {w w' w'' : World} {g : Nat} {ao ao' ao'' : Option Addr} (h : ZMoved w w' g ao ao') (k : ZMoved w' w'' g ao' ao'') : ZMoved w w'' g ao ao'' where
  os := k.os.trans h.os
  tape := k.tape.trans h.tape
  output := k.output.trans h.output
  size := Nat.le_trans h.size k.size
  block := fun i hi hg ha => (k.block i (Nat.lt_of_lt_of_le hi h.size) hg (fun a e => by
    rcases h.own a e with ⟨a0, e0, e1⟩ | e0
    · rw [← e1]; exact ha a0 e0
    · omega)).trans (h.block i hi hg ha)
  own := fun a e => by
    rcases k.own a e with ⟨a0, e0, e1⟩ | e0
    · rcases h.own a0 e0 with ⟨a1, e2, e3⟩ | e2
      · exact .inl ⟨a1, e2, e3.trans e1⟩
      · exact .inr (by rw [← e1]; exact e2)
    · exact .inr (Nat.le_trans h.size e0)
theorem ZMoved.of_below {w w' : World} (h : Below w.heap.size w w') (g : Nat) (ao : Option Addr) : ZMoved w w' g ao ao := ⟨h.os, h.tape, h.output, h.size, fun k hk _ _ => h.block k hk, fun a h => .inl ⟨a, h, rfl⟩⟩
theorem ZMoved.of_grown {w w' : World} {g : Nat} {o : Option Nat} (h : w.grownBy w' o) (ao : Option Addr) (ho : ∀ k, o = some k → k = g ∨ ∃ a, ao = some a ∧ k = a.block) : ZMoved w w' g ao ao :=
  ⟨h.os, h.tape, h.output, h.size, fun k hk hg ha => h.block k hk (fun e => by
    rcases ho k e.symm with e1 | ⟨a, e1, e2⟩
    · exact hg e1
    · exact ha a e1 e2), fun a h => .inl ⟨a, h, rfl⟩⟩
theorem ZMoved.then {w w' w'' : World} {g : Nat} {ao ao' : Option Addr} (h : ZMoved w w' g ao ao') (k : Below w'.heap.size w' w'') : ZMoved w w'' g ao ao' := h.trans (ZMoved.of_below k g ao')
theorem ZMoved.after {w w' w'' : World} {g : Nat} {ao ao' : Option Addr} (k : Below w.heap.size w w') (h : ZMoved w' w'' g ao ao') : ZMoved w w'' g ao ao' := (ZMoved.of_below k g ao).trans h
theorem ZMoved.below {w w' : World} {g B : Nat} {H : Hz} {s : ZSl} {ao' : Option Addr} (m : ZMoved w w' g s.a ao') (h : HzAt w g B H s) {B' : Nat} (hB : B' ≤ B) : Below B' w w' :=
  ⟨m.os, m.tape, m.output, m.size, fun k hk => m.block k (by have := h.lt; have := h.base; omega) (by have := h.base; omega) (fun a e => by have := h.base2 a e; omega)⟩
theorem ZMoved.base {w w' : World} {g B : Nat} {ao ao' : Option Addr} (m : ZMoved w w' g ao ao') (h : ∀ x, ao = some x → B ≤ x.block) (hB : B ≤ w.heap.size) : ∀ x, ao' = some x → B ≤ x.block := fun x e => by
  rcases m.own x e with ⟨a, e1, e2⟩ | e1
  · rw [← e2]; exact h a e1
  · omega
/-- What a call leaves: another horizon at the same place. -/
structure Gone13 (w w' : World) (g B : Nat) (s : ZSl) (H' : Hz) : Prop where
  ex : ∃ s', HzAt w' g B H' s' ∧ ZMoved w w' g s.a s'.a
theorem Gone13.mk' {w w' : World} {g B : Nat} {s s' : ZSl} {H' : Hz} (h : HzAt w' g B H' s') (m : ZMoved w w' g s.a s'.a) : Gone13 w w' g B s H' := ⟨⟨s', h, m⟩⟩
theorem HzAt.size {w : World} {g B : Nat} {H : Hz} {s : ZSl} (h : HzAt w g B H s) : B ≤ w.heap.size := Nat.le_trans h.base (Nat.le_of_lt h.lt)
/-- The clock is another one. -/
theorem HzAt.tick {w : World} {g B : Nat} {H : Hz} {s : ZSl} (h : HzAt w g B H s) (c : Nat) (hok : ({ H with clock := c } : Hz).ok) : HzAt (w.setCell ⟨g, 1, none⟩ (.int .u64 (c : Int))) g B { H with clock := c } s ∧ ZMoved w (w.setCell ⟨g, 1, none⟩ (.int .u64 (c : Int))) g s.a s.a := by
  have ho := h.own.set 1 (.int .u64 (c : Int))
  rw [cells_clockZ] at ho
  have hg := grown_set13 w g 1 (.int .u64 (c : Int))
  exact ⟨⟨ho, h.row.kept fun x hx => hg.block _ (h.row.lt x hx) (by intro e; exact h.ne x hx (by cases e; rfl)), h.base, h.base2, hok⟩, ZMoved.of_grown hg _ fun k e => by cases e; exact .inl rfl⟩
/-- One cell of one mark is another one. -/
theorem HzAt.mark {w : World} {g B : Nat} {H : Hz} {s : ZSl} (h : HzAt w g B H s) (p : Nat) (hp : p < 64) (c : Nat) (hc : c < 3) (v : Value) (m : Mk) (he : encK m = (encK (H.mks p)).set c v) (hok : (markZ H p m).ok) : HzAt (w.setCell ⟨g, 2 + p * 3 + c, none⟩ v) g B (markZ H p m) s ∧ ZMoved w (w.setCell ⟨g, 2 + p * 3 + c, none⟩ v) g s.a s.a := by
  have ho := h.own.set (2 + p * 3 + c) v
  rw [cells_markZ H _ p hp c hc v m he] at ho
  have hg := grown_set13 w g (2 + p * 3 + c) v
  exact ⟨⟨ho, h.row.kept fun x hx => hg.block _ (h.row.lt x hx) (by intro e; exact h.ne x hx (by cases e; rfl)), h.base, h.base2, hok⟩, ZMoved.of_grown hg _ fun k e => by cases e; exact .inl rfl⟩
/-- Its row is another one: behind what turned the row alone. -/
theorem HzAt.rowed {w w1 : World} {g B : Nat} {H : Hz} {s s' : ZSl} (h : HzAt w g B H s) (m : ZMoved w w1 g s.a s'.a) (hg : w1.heap[g]? = w.heap[g]?) (R : List Pm) (hr : ZSlot w1 s' R) (hok : ({ H with wait := R } : Hz).ok) :
    HzAt (w1.setCell ⟨g, 194, none⟩ s'.v) g B { H with wait := R } s' ∧ ZMoved w (w1.setCell ⟨g, 194, none⟩ s'.v) g s.a s'.a := by
  have ho : Own w1 g 146 (H.cells s.v).toArray := hg.trans h.own
  have ho2 := ho.set 194 s'.v
  rw [cells_bagZ H _ _ R] at ho2
  have hgr := grown_set13 w1 g 194 s'.v
  have hne : ∀ x, s'.a = some x → x.block ≠ g := fun x hx => by
    obtain ⟨cur, hc⟩ := hr.typ x hx
    intro e
    rw [e] at hc
    have := ho.is.symm.trans hc
    injection this with e
    injection e with _ e _
    exact absurd e (by decide)
  exact ⟨⟨ho2, hr.kept fun x hx => hgr.block _ (hr.lt x hx) (by intro e; exact hne x hx (by cases e; rfl)), h.base, m.base h.base2 h.size, hok⟩, m.trans (ZMoved.of_grown hgr _ fun k e => by cases e; exact .inl rfl)⟩
/-- The horizon beside: of other blocks. -/
theorem HzAt.beside {w w' : World} {g g' B : Nat} {H : Hz} {s : ZSl} {ao' ao'' : Option Addr} (h : HzAt w g B H s) (m : ZMoved w w' g' ao' ao'') (h1 : g ≠ g') (h2 : ∀ a, ao' = some a → g ≠ a.block) (h3 : ∀ a, s.a = some a → a.block ≠ g') (h4 : ∀ a b, s.a = some a → ao' = some b → a.block ≠ b.block) : HzAt w' g B H s :=
  h.kept fun k hk e => by
    rcases e with rfl | ⟨a, e1, rfl⟩
    · exact m.block _ hk h1 h2
    · exact m.block _ hk (h3 a e1) (fun b e2 => h4 a b e1 e2)
end Go.Proofs.Ytfocjcdfpnbkjaa
