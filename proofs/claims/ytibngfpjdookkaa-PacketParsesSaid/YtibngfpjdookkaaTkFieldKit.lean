/- The document's reader: a field; what stands amid it. -/
import Derived.Test.YtibngfpjdookkaaTkMs
import Derived.Test.YtibngfpjdookkaaPkVal
import Derived.Deep.RegionHeld3
set_option linter.unusedVariables false
set_option linter.unusedSimpArgs false
namespace Go.Proofs.Ytibngfpjdookkaa
open Go.RowKit Go.Sort

/-- Amid 'field': the reader, the packet's copy, the result's block. -/
structure FSt (w W : World) (b : Nat) (s : ByteArray) (a c : Nat) (q : Pk) (T : ByteArray) (vd vg vx : Vc) : Prop where
  tk : Tk W b s a c
  row : Own W w.heap.size 35 (encP q T vd vg vx).toArray
  res : Own W (w.heap.size + 1) 35 (encP zeroP { data := #[] } Vc.nil Vc.nil Vc.nil).toArray
  gr : w.grownBy W (some b)
  lt : b < w.heap.size
theorem FSt.begin {w : World} {b : Nat} {s : ByteArray} {a c : Nat} (h : Tk w b s a c) (q : Pk) (T : ByteArray) (vd vg vx : Vc) :
    FSt w ((w.alloc (.cells (encP q T vd vg vx).toArray 35)).alloc (.cells (encP zeroP { data := #[] } Vc.nil Vc.nil Vc.nil).toArray 35)) b s a c q T vd vg vx := by
  have o := Own.new (w.alloc (.cells (encP q T vd vg vx).toArray 35)) 35 (encP zeroP { data := #[] } Vc.nil Vc.nil Vc.nil).toArray
  rw [show (w.alloc (.cells (encP q T vd vg vx).toArray 35)).heap.size = w.heap.size + 1 by simp] at o
  exact ⟨(h.later ((Grw.refl w).alloc _).below).later ((Grw.refl _).alloc _).below, (Own.new w _ _).below ((Grw.refl _).alloc _).below (by simp), o, grown_tr (grown_alloc _ _ _) (grown_alloc _ _ _), h.lt⟩
theorem FSt.go {w W W' : World} {b : Nat} {s : ByteArray} {a c a' c' : Nat} {q : Pk} {T : ByteArray} {vd vg vx : Vc} (h : FSt w W b s a c q T vd vg vx) (ht : Tk W' b s a' c') (hg : W.grownBy W' (some b)) : FSt w W' b s a' c' q T vd vg vx :=
  have hl := h.lt
  ⟨ht, h.row.grown hg (by intro e; cases e; omega), h.res.grown hg (by intro e; cases e; omega), grown_tr h.gr hg, h.lt⟩
theorem FSt.later {w W W' : World} {b : Nat} {s : ByteArray} {a c : Nat} {q : Pk} {T : ByteArray} {vd vg vx : Vc} (h : FSt w W b s a c q T vd vg vx) (hb : Below W.heap.size W W') : FSt w W' b s a c q T vd vg vx :=
  h.go (h.tk.later hb) ⟨hb.os, hb.tape, hb.output, hb.size, fun k hk _ => hb.block k hk⟩
theorem FSt.sz {w W : World} {b : Nat} {s : ByteArray} {a c : Nat} {q : Pk} {T : ByteArray} {vd vg vx : Vc} (h : FSt w W b s a c q T vd vg vx) : w.heap.size + 2 ≤ W.heap.size := h.res.lt
/-- A field's cell is stored: the packet is another one. -/
theorem FSt.set {w W : World} {b : Nat} {s : ByteArray} {a c : Nat} {q : Pk} {T : ByteArray} {vd vg vx : Vc} (h : FSt w W b s a c q T vd vg vx) (j : Nat) (v : Value) {q' : Pk} {T' : ByteArray} {vd' vg' vx' : Vc}
    (hrow : (encP q T vd vg vx).toArray.setIfInBounds j v = (encP q' T' vd' vg' vx').toArray) : FSt w (W.setCell ⟨w.heap.size, j, none⟩ v) b s a c q' T' vd' vg' vx' :=
  have hl := h.lt
  ⟨h.tk.own.set_other _ _ _ (by omega), by have := h.row.set j v; rw [hrow] at this; exact this, h.res.set_other _ _ _ (by omega), grown_set h.gr (Nat.le_refl _) j v, h.lt⟩
theorem FSt.done {w W : World} {b : Nat} {s : ByteArray} {a c : Nat} {q : Pk} {T : ByteArray} {vd vg vx : Vc} (h : FSt w W b s a c q T vd vg vx) :
    Own (W.setRow (w.heap.size + 1) (encP q T vd vg vx).toArray) (w.heap.size + 1) 35 (encP q T vd vg vx).toArray ∧ Tk (W.setRow (w.heap.size + 1) (encP q T vd vg vx).toArray) b s a c ∧ w.grownBy (W.setRow (w.heap.size + 1) (encP q T vd vg vx).toArray) (some b) :=
  have hl := h.lt
  ⟨h.res.row _, h.tk.own.row_other _ (by omega), grown_row h.gr (by omega) _⟩
/-- What 'field' answers. -/
def FieldPost (f : Fd) (p : Pk) (vx : Vc) (B : Nat) (w : World) (b : Nat) (s : ByteArray) (a : Nat) (e : Ending) (w' : World) : Prop :=
  ∃ (q : Pk) (T : ByteArray) (vd vg vy : Vc) (a' c' : Nat), e = .returned (.agg (encP q T vd vg vy).toArray) ∧ OwnPk B w' q T vd vg vy ∧ a' ≤ a + 1000000 ∧ Tk w' b s a' c' ∧ w.grownBy w' (some b) ∧ TR (getF f p) s a 0 a' c' q ∧ (f ≠ .x → f ≠ .l → q.x = p.x ∧ vy = vx)
def fdB : Fd → Nat
  | .c => 99 | .m => 109 | .s => 115 | .n => 110 | .g => 103 | .h => 104 | .w => 119 | .q => 113 | .p => 112 | .e => 101 | .b => 98 | .x => 120 | .l => 108
end Go.Proofs.Ytibngfpjdookkaa
