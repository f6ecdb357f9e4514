/- A window in memory: one block of 68 cells. -/
import Derived.Test.YtlmajpckgjnbdaaLinkMath
import Derived.Test.YtlmajpckgjnbdaaSetOf
import Derived.Test.YtlmajpckgjnbdaaGrw
import Derived.Test.YtlmajpckgjnbdaaFlat
import Derived.Deep.MidRow
import Derived.BigRegion
set_option linter.unusedVariables false
set_option linter.unusedSimpArgs false
namespace Go.Proofs.Ytlmajpckgjnbdaa
open Go.RowKit Go.Sort

/-- What the members got, as cells. -/
def rowG (f : Nat → Nat) : List Value := (List.range 64).map fun p => Value.int .u32 (f p : Int)
theorem rowG_length (f : Nat → Nat) : (rowG f).length = 64 := by simp [rowG]
theorem rowG_at (f : Nat → Nat) (p : Nat) (hp : p < 64) : (rowG f)[p]? = some (.int .u32 (f p : Int)) := by
  unfold rowG; rw [List.getElem?_map, List.getElem?_range hp]; rfl
def updG (f : Nat → Nat) (p n : Nat) : Nat → Nat := fun q => if q = p then n else f q
theorem updG_same (f : Nat → Nat) (p : Nat) : updG f p (f p) = f := by
  funext q; unfold updG; split
  · rename_i e; rw [e]
  · rfl
theorem rowG_set (f : Nat → Nat) (p n : Nat) (hp : p < 64) : (rowG f).set p (.int .u32 (n : Int)) = rowG (updG f p n) := by
  apply List.ext_getElem?
  intro i
  rw [List.getElem?_set]
  by_cases hi : i < 64
  · rw [rowG_at _ i hi, rowG_at _ i hi]
    unfold updG
    by_cases e : p = i
    · subst e; rw [if_pos rfl, if_pos (by rw [rowG_length]; exact hp), if_pos rfl]
    · rw [if_neg e, if_neg (fun h => e h.symm)]
  · rw [if_neg (by omega), List.getElem?_eq_none (by rw [rowG_length]; omega), List.getElem?_eq_none (by rw [rowG_length]; omega)]
def Wn.cells (W : Wn) : List Value := .int .i64 W.me :: .int .u64 (W.oth : Int) :: .int .i64 (W.size : Int) :: .int .u32 (W.sent : Int) :: rowG W.got
theorem Wn.cells_length (W : Wn) : W.cells.length = 68 := by unfold Wn.cells; simp [rowG_length]

structure Wn.ok (W : Wn) : Prop where
  inv : WnInv W
  m0 : -9223372036854775808 ≤ W.me
  m1 : W.me ≤ 9223372036854775807
  gs : ∀ p, p < 64 → W.got p ≤ W.sent
  s : W.sent < 4294967296
theorem new_ok (me : Int) (members : Nat) (size : Int) (m0 : -9223372036854775808 ≤ me) (m1 : me ≤ 9223372036854775807) : (newN me members size).ok :=
  ⟨new_inv me members size, m0, m1, fun _ _ => Nat.le_refl _, by show (0 : Nat) < _; decide⟩
theorem next_ok {W : Wn} (h : W.ok) (r : Int) (hs : W.sent ≤ 1000000) : (nextN W r).ok := by
  obtain ⟨h1, h2, h3, h4⟩ := next_rest W r
  obtain ⟨s1, s2⟩ := next_sent W r
  exact ⟨next_inv h.inv r, by rw [h4]; exact h.m0, by rw [h4]; exact h.m1, fun p hp => by rw [h1]; exact Nat.le_trans (h.gs p hp) s1, by omega⟩
theorem got_ok {W : Wn} (h : W.ok) (p : Int) (n : Nat) : (gotN W p n).ok := by
  obtain ⟨h1, h2, h3, h4⟩ := got_sent W p n
  refine ⟨got_inv h.inv p n, by rw [h4]; exact h.m0, by rw [h4]; exact h.m1, fun q hq => ?_, by rw [h1]; exact h.s⟩
  have := (got_got W p n q).2
  have := h.gs q hq
  rw [h1]; omega
theorem step_ok {W : Wn} (h : W.ok) (a : LA) (hs : W.sent ≤ 1000000) : (stepL W a).ok := by
  unfold stepL; split
  · exact next_ok h _ hs
  · exact got_ok h _ _
/-- What 'Got' writes. -/
theorem gotN_put {W : Wn} (k n : Nat) (h : othN W (k : Int) = true) : gotN W (k : Int) n = { W with got := updG W.got k (max (W.got k) (min n W.sent)) } := by
  by_cases h2 : W.got k < min n W.sent
  · rw [gotN_yes h (by rw [Int.toNat_natCast]; exact h2), Int.toNat_natCast, Nat.max_eq_right (by omega)]; rfl
  · rw [gotN_not (by rw [Int.toNat_natCast]; omega), Nat.max_eq_left (by omega), updG_same]

structure LkAt (w : World) (g : Nat) (W : Wn) : Prop where
  own : Own w g 59 W.cells.toArray
  ok : W.ok
theorem LkAt.lt {w : World} {g : Nat} {W : Wn} (h : LkAt w g W) : g < w.heap.size := h.own.lt
theorem LkAt.below {w w' : World} {g : Nat} {W : Wn} (h : LkAt w g W) (hb : Below w.heap.size w w') : LkAt w' g W := ⟨h.own.below hb h.lt, h.ok⟩
theorem LkAt.grown {w w' : World} {g : Nat} {W : Wn} {o : Option Nat} (h : LkAt w g W) (hb : w.grownBy w' o) (hk : some g ≠ o) : LkAt w' g W := ⟨h.own.grown hb hk, h.ok⟩
theorem LkAt.drewN {w : World} {g : Nat} {W : Wn} (h : LkAt w g W) (n : Nat) : LkAt (w.drewN n) g W := ⟨h.own, h.ok⟩
theorem LkAt.c0 {w : World} {g : Nat} {W : Wn} (h : LkAt w g W) : w.cell? ⟨g, 0, none⟩ = some (.int .i64 W.me) := h.own.at_ 0 _ rfl
theorem LkAt.c1 {w : World} {g : Nat} {W : Wn} (h : LkAt w g W) : w.cell? ⟨g, 1, none⟩ = some (.int .u64 (W.oth : Int)) := h.own.at_ 1 _ rfl
theorem LkAt.c2 {w : World} {g : Nat} {W : Wn} (h : LkAt w g W) : w.cell? ⟨g, 2, none⟩ = some (.int .i64 (W.size : Int)) := h.own.at_ 2 _ rfl
theorem LkAt.c3 {w : World} {g : Nat} {W : Wn} (h : LkAt w g W) : w.cell? ⟨g, 3, none⟩ = some (.int .u32 (W.sent : Int)) := h.own.at_ 3 _ rfl
theorem LkAt.cg {w : World} {g : Nat} {W : Wn} (h : LkAt w g W) (p : Nat) (hp : p < 64) : w.cell? ⟨g, 4 + p, none⟩ = some (.int .u32 (W.got p : Int)) := by
  refine h.own.at_ (4 + p) _ ?_
  rw [List.getElem?_toArray, Wn.cells, show 4 + p = p + 1 + 1 + 1 + 1 by omega, List.getElem?_cons_succ, List.getElem?_cons_succ, List.getElem?_cons_succ, List.getElem?_cons_succ, rowG_at _ p hp]
theorem LkAt.free {w : World} {g : Nat} {W : Wn} (h : LkAt w g W) (j : Nat) : w.frozen? ⟨g, j, none⟩ = false := h.own.free j
theorem LkAt.range {w : World} {g : Nat} {W : Wn} (h : LkAt w g W) : w.rangeAt g 4 (rowG W.got) := fun j v hv => by
  refine h.own.at_ (4 + j) _ ?_
  rw [List.getElem?_toArray, Wn.cells, show 4 + j = j + 1 + 1 + 1 + 1 by omega, List.getElem?_cons_succ, List.getElem?_cons_succ, List.getElem?_cons_succ, List.getElem?_cons_succ]
  exact hv
theorem lgrown_tr {w w1 w2 : World} {o : Option Nat} (h : w.grownBy w1 o) (k : w1.grownBy w2 o) : w.grownBy w2 o :=
  ⟨k.os.trans h.os, k.tape.trans h.tape, k.output.trans h.output, Nat.le_trans h.size k.size, fun i hi hn => (k.block i (Nat.lt_of_lt_of_le hi h.size) hn).trans (h.block i hi hn)⟩
theorem lgrown_below {w w' : World} (h : Below w.heap.size w w') (o : Option Nat) : w.grownBy w' o := ⟨h.os, h.tape, h.output, h.size, fun k hk _ => h.block k hk⟩
theorem lgrown_cell (w : World) (g j : Nat) (v : Value) : w.grownBy (w.setCell ⟨g, j, none⟩ v) (some g) :=
  ⟨rfl, rfl, rfl, by simp [World.setCell], fun k hk hn => heap_setCell_other w _ _ v (by show k ≠ g; intro e; exact hn (by rw [e]))⟩
/-- What a call on the window of the block g leaves. -/
structure Linked (w w' : World) (g : Nat) (W : Wn) : Prop where
  at_ : LkAt w' g W
  gr : w.grownBy w' (some g)
theorem Linked.refl {w : World} {g : Nat} {W : Wn} (h : LkAt w g W) : Linked w w g W := ⟨h, World.grownBy.refl _ _⟩
theorem Linked.trans {w w1 w2 : World} {g : Nat} {W X : Wn} (h : Linked w w1 g W) (k : Linked w1 w2 g X) : Linked w w2 g X := ⟨k.at_, lgrown_tr h.gr k.gr⟩
theorem Linked.below {w w1 w2 : World} {g : Nat} {W : Wn} (h : Below w.heap.size w w1) (k : Linked w1 w2 g W) : Linked w w2 g W := ⟨k.at_, lgrown_tr (lgrown_below h _) k.gr⟩
theorem Linked.then {w w1 w2 : World} {g : Nat} {W : Wn} (k : Linked w w1 g W) (h : Below w1.heap.size w1 w2) : Linked w w2 g W := ⟨k.at_.below h, lgrown_tr k.gr (lgrown_below h _)⟩
theorem Linked.later {w w1 w2 : World} {g : Nat} {W : Wn} (h : Below w.heap.size w w1) (k : Linked w1 w2 g W) (hg : w.heap.size ≤ g) : Below w.heap.size w w2 :=
  h.grown k.gr h.size (fun k hk => by cases hk; exact hg)
theorem LkAt.send {w : World} {g : Nat} {W : Wn} (h : LkAt w g W) (hok : ({ W with sent := W.sent + 1 } : Wn).ok) : Linked w (w.setCell ⟨g, 3, none⟩ (.int .u32 ((W.sent : Int) + 1))) g { W with sent := W.sent + 1 } :=
  ⟨⟨h.own.set 3 _, hok⟩, lgrown_cell _ _ _ _⟩
theorem LkAt.put {w : World} {g : Nat} {W : Wn} (h : LkAt w g W) (p : Nat) (hp : p < 64) (n : Nat) (hok : ({ W with got := updG W.got p n } : Wn).ok) : Linked w (w.setCell ⟨g, 4 + p, none⟩ (.int .u32 (n : Int))) g { W with got := updG W.got p n } := by
  refine ⟨⟨?_, hok⟩, lgrown_cell _ _ _ _⟩
  have := h.own.set (4 + p) (.int .u32 (n : Int))
  rw [show (W.cells.toArray.setIfInBounds (4 + p) (.int .u32 (n : Int))) = ({ W with got := updG W.got p n } : Wn).cells.toArray by
    rw [List.setIfInBounds_toArray]
    congr 1
    unfold Wn.cells
    rw [show 4 + p = p + 1 + 1 + 1 + 1 by omega, List.set_cons_succ, List.set_cons_succ, List.set_cons_succ, List.set_cons_succ, rowG_set _ _ _ hp]] at this
  exact this
theorem mem_nat11 {a : Nat} {p : Int} (h : mem a p = true) : ∃ k : Nat, p = (k : Int) ∧ k < 64 ∧ a.testBit k = true := by
  unfold mem at h
  simp at h
  obtain ⟨⟨h1, h2⟩, h3⟩ := h
  obtain ⟨k, rfl⟩ := Int.eq_ofNat_of_zero_le h1
  exact ⟨k, rfl, by omega, by simpa using h3⟩
end Go.Proofs.Ytlmajpckgjnbdaa
