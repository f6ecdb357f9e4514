/- The document's Clean: what stands while it cleans. (Written by wip/gen_refclean.py.) -/
import Derived.Test.YtgkddjapcdjalaaClKit
import Derived.Test.YtgkddjapcdjalaaRefClean
set_option linter.unusedVariables false
set_option linter.unusedSimpArgs false
namespace Go.Proofs.Ytgkddjapcdjalaa
open Go.RowKit Go.Sort

structure RSt (w W : World) (p : Pk) (T : ByteArray) (vd vg vx : Vc) (g : Nat) (q : Pk) (T' : ByteArray) (ud ug ux : Vc) : Prop where
  box : Own W w.heap.size 35 (encP p T vd vg vx).toArray
  res : Own W (w.heap.size + 1) 35 (encP zeroP { data := #[] } Vc.nil Vc.nil Vc.nil).toArray
  row : Own W g 35 (encP q T' ud ug ux).toArray
  bel : Below w.heap.size w W
  ge : w.heap.size + 1 < g
theorem CSt.shared {w W : World} {p : Pk} {T : ByteArray} {vd vg vx : Vc} {g : Nat} {q : Pk} {T' : ByteArray} {ud ug ux : Vc} (h : CSt w W p T vd vg vx g q T' ud ug ux) : RSt w W p T vd vg vx g q T' ud ug ux := ⟨h.box, h.res, h.row, h.bel, h.ge⟩
theorem RSt.set {w W : World} {p : Pk} {T : ByteArray} {vd vg vx : Vc} {g : Nat} {q : Pk} {T' : ByteArray} {ud ug ux : Vc} (h : RSt w W p T vd vg vx g q T' ud ug ux) (j : Nat) (v : Value) {q' : Pk} {T2 : ByteArray} {sd sg sx : Vc}
    (hrow : (encP q T' ud ug ux).toArray.setIfInBounds j v = (encP q' T2 sd sg sx).toArray) : RSt w (W.setCell ⟨g, j, none⟩ v) p T vd vg vx g q' T2 sd sg sx :=
  have hge := h.ge
  ⟨h.box.set_other _ _ _ (by omega), h.res.set_other _ _ _ (by omega), by rw [← hrow]; exact h.row.set j v, h.bel.setCell (by show w.heap.size ≤ g; omega) v, h.ge⟩
abbrev RcPost (w : World) (p : Pk) (e : Ending) (w' : World) : Prop := ∃ T ud ug ux, e = .returned (.agg (encP (cleanP p) T ud ug ux).toArray) ∧ PkAt w' (cleanP p) T ud ug ux ∧ Below w.heap.size w w'
theorem RSt.done {w W : World} {p : Pk} {T : ByteArray} {vd vg vx : Vc} {g : Nat} {q : Pk} {T' : ByteArray} {ud ug ux : Vc} (h : RSt w W p T vd vg vx g q T' ud ug ux) (he : cleanP p = q) (ha : PkAt w q T' ud ug ux) : RcPost w p (.returned (.agg (encP q T' ud ug ux).toArray)) (W.setRow (w.heap.size + 1) (encP q T' ud ug ux).toArray) := by
  have hB := below_setRow h.bel (show w.heap.size ≤ w.heap.size + 1 by omega) (encP q T' ud ug ux).toArray
  subst he
  exact ⟨T', ud, ug, ux, rfl, ha.below hB, hB⟩
theorem has_at (r : ByteArray) (f : Nat) (b : Bool) (hb : hasB r f = b) (hf : f < 256) (hr : r.size ≤ 100) (w : World) : Calls Try.prog 38 #[.string r, .int .u8 (f : Int)] w fun e w' => e = .returned (.bool b) ∧ w = w' := by
  rw [← hb]; exact has_any r f hf hr w
end Go.Proofs.Ytgkddjapcdjalaa
