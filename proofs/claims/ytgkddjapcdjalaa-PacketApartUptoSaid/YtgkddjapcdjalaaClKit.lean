/- Cleaning a packet: what stands while it is cleaned. -/
import Derived.Test.YtgkddjapcdjalaaCleanMsg
import Derived.Test.YtgkddjapcdjalaaWrAll
set_option linter.unusedVariables false
set_option linter.unusedSimpArgs false
namespace Go.Proofs.Ytgkddjapcdjalaa
open Go.RowKit Go.Sort

/-- A packet that is being cleaned: p's own row, the result's, the new packet's. -/
structure CSt (w W : World) (p : Pk) (T : ByteArray) (vd vg vx : Vc) (g : Nat) (q : Pk) (T' : ByteArray) (ud ug ux : Vc) : Prop where
  box : Own W w.heap.size 35 (encP p T vd vg vx).toArray
  res : Own W (w.heap.size + 1) 35 (encP zeroP { data := #[] } Vc.nil Vc.nil Vc.nil).toArray
  row : Own W g 35 (encP q T' ud ug ux).toArray
  own : OwnPk (g + 1) W q T' ud ug ux
  bel : Below w.heap.size w W
  ge : w.heap.size + 1 < g
theorem CSt.go {w W W' : World} {p : Pk} {T : ByteArray} {vd vg vx : Vc} {g : Nat} {q : Pk} {T' : ByteArray} {ud ug ux : Vc} (h : CSt w W p T vd vg vx g q T' ud ug ux) (hb : Below W.heap.size W W') : CSt w W' p T vd vg vx g q T' ud ug ux :=
  ⟨h.box.below hb h.box.lt, h.res.below hb h.res.lt, h.row.below hb h.row.lt, h.own.below hb, h.bel.trans (hb.mono h.bel.size), h.ge⟩
theorem CSt.drew {w W : World} {p : Pk} {T : ByteArray} {vd vg vx : Vc} {g : Nat} {q : Pk} {T' : ByteArray} {ud ug ux : Vc} (h : CSt w W p T vd vg vx g q T' ud ug ux) : CSt w W.drew p T vd vg vx g q T' ud ug ux := h.go ((Grw.refl W).drew).below
theorem CSt.set {w W : World} {p : Pk} {T : ByteArray} {vd vg vx : Vc} {g : Nat} {q : Pk} {T' : ByteArray} {ud ug ux : Vc} (h : CSt w W p T vd vg vx g q T' ud ug ux) (j : Nat) (v : Value) {q' : Pk} {T2 : ByteArray} {sd sg sx : Vc}
    (hrow : (encP q T' ud ug ux).toArray.setIfInBounds j v = (encP q' T2 sd sg sx).toArray) (ho : OwnPk (g + 1) W q' T2 sd sg sx) : CSt w (W.setCell ⟨g, j, none⟩ v) p T vd vg vx g q' T2 sd sg sx :=
  have hge := h.ge
  ⟨h.box.set_other _ _ _ (by omega), h.res.set_other _ _ _ (by omega), by rw [← hrow]; exact h.row.set j v, ho.set (by omega) j v, h.bel.setCell (by show w.heap.size ≤ g; omega) v, h.ge⟩
theorem CSt.setM {w W : World} {p : Pk} {T : ByteArray} {vd vg vx : Vc} {g : Nat} {q : Pk} {T' : ByteArray} {ud ug ux : Vc} (h : CSt w W p T vd vg vx g q T' ud ug ux) (m : PM) {T2 : ByteArray} {v : Vc} (hT : T2.data.toList = m.text) (hv : OwnVec (g + 1) W v m.deps) :
    CSt w ((((((W.setCell ⟨g, 5, none⟩ (.int .i64 m.f)).setCell ⟨g, 6, none⟩ (.int .u32 (m.q : Int))).setCell ⟨g, 7, none⟩ (.int .u64 (m.s : Int))).setCell ⟨g, 8, none⟩ (.int .i64 m.v)).setCell ⟨g, 9, none⟩ (.slice v.a v.n v.c)).setCell ⟨g, 10, none⟩ (.string T2)) p T vd vg vx g { q with m := m } T2 v ug ux := by
  have hge := h.ge
  have hne : w.heap.size ≠ g := by omega
  have hne1 : w.heap.size + 1 ≠ g := by omega
  have hg1 : g < g + 1 := by omega
  have hg : w.heap.size ≤ g := by omega
  have o : OwnPk (g + 1) W { q with m := m } T2 v ug ux := ⟨hT, hv, h.own.got, h.own.xs⟩
  exact ⟨(((((h.box.set_other _ 5 _ hne).set_other _ 6 _ hne).set_other _ 7 _ hne).set_other _ 8 _ hne).set_other _ 9 _ hne).set_other _ 10 _ hne,
    (((((h.res.set_other _ 5 _ hne1).set_other _ 6 _ hne1).set_other _ 7 _ hne1).set_other _ 8 _ hne1).set_other _ 9 _ hne1).set_other _ 10 _ hne1,
    (((((h.row.set 5 _).set 6 _).set 7 _).set 8 _).set 9 _).set 10 _,
    (((((o.set hg1 5 _).set hg1 6 _).set hg1 7 _).set hg1 8 _).set hg1 9 _).set hg1 10 _,
    (((((h.bel.setCell (p := ⟨g, 5, none⟩) hg _).setCell (p := ⟨g, 6, none⟩) hg _).setCell (p := ⟨g, 7, none⟩) hg _).setCell (p := ⟨g, 8, none⟩) hg _).setCell (p := ⟨g, 9, none⟩) hg _).setCell (p := ⟨g, 10, none⟩) hg _, h.ge⟩
theorem CSt.at_ {w W : World} {p : Pk} {T : ByteArray} {vd vg vx : Vc} {g : Nat} {q : Pk} {T' : ByteArray} {ud ug ux : Vc} (h : CSt w W p T vd vg vx g q T' ud ug ux) (ht : PkAt w p T vd vg vx) : PkAt W p T vd vg vx := ht.below h.bel
/-- What cleaning answers. -/
abbrev ClPost (w : World) (p : Pk) (e : Ending) (w' : World) : Prop := ∃ T ud ug ux, e = .returned (.agg (encP (cleanP p) T ud ug ux).toArray) ∧ OwnPk w.heap.size w' (cleanP p) T ud ug ux ∧ Below w.heap.size w w'
theorem CSt.done {w W : World} {p : Pk} {T : ByteArray} {vd vg vx : Vc} {g : Nat} {q : Pk} {T' : ByteArray} {ud ug ux : Vc} (h : CSt w W p T vd vg vx g q T' ud ug ux) (he : cleanP p = q) : ClPost w p (.returned (.agg (encP q T' ud ug ux).toArray)) (W.setRow (w.heap.size + 1) (encP q T' ud ug ux).toArray) := by
  have hge := h.ge
  rw [← he]
  rw [← he] at h
  exact ⟨T', ud, ug, ux, rfl, (h.own.row (by omega) _).mono (by omega), below_setRow h.bel (by omega) _⟩
theorem CSt.new {w : World} (p : Pk) (T : ByteArray) (vd vg vx : Vc) (k f t : Int) : CSt w ((((w.alloc (.cells (encP p T vd vg vx).toArray 35)).alloc (.cells (encP zeroP { data := #[] } Vc.nil Vc.nil Vc.nil).toArray 35)).alloc (.cells (encP zeroP { data := #[] } Vc.nil Vc.nil Vc.nil).toArray 35)).setRow (w.heap.size + 2) (encP (baseP k f t) { data := #[] } Vc.nil Vc.nil Vc.nil).toArray) p T vd vg vx (w.heap.size + 2) (baseP k f t) { data := #[] } Vc.nil Vc.nil Vc.nil := by
  obtain ⟨A1, hA1⟩ : ∃ A1, A1 = w.alloc (.cells (encP p T vd vg vx).toArray 35) := ⟨_, rfl⟩
  have z1 : A1.heap.size = w.heap.size + 1 := by rw [hA1]; simp
  have o1 : Own A1 w.heap.size 35 (encP p T vd vg vx).toArray := by rw [hA1]; exact Own.new _ _ _
  have g1 : Grw w A1 := by rw [hA1]; exact (Grw.refl _).alloc _
  rw [← hA1]
  obtain ⟨A2, hA2⟩ : ∃ A2, A2 = A1.alloc (.cells (encP zeroP { data := #[] } Vc.nil Vc.nil Vc.nil).toArray 35) := ⟨_, rfl⟩
  have z2 : A2.heap.size = w.heap.size + 2 := by rw [hA2]; simp [z1]
  have g2 : Grw A1 A2 := by rw [hA2]; exact (Grw.refl _).alloc _
  have o2 : Own A2 (w.heap.size + 1) 35 (encP zeroP { data := #[] } Vc.nil Vc.nil Vc.nil).toArray := by rw [hA2, ← z1]; exact Own.new _ _ _
  rw [← hA2]
  have o3 := Own.new A2 35 (encP zeroP { data := #[] } Vc.nil Vc.nil Vc.nil).toArray
  rw [z2] at o3
  have g3 : Grw A2 (A2.alloc (.cells (encP zeroP { data := #[] } Vc.nil Vc.nil Vc.nil).toArray 35)) := (Grw.refl _).alloc _
  have p1 := (o1.below g2.below o1.lt).below g3.below (by omega)
  have p2 := o2.below g3.below o2.lt
  exact ⟨p1.row_other _ (by omega), p2.row_other _ (by omega), o3.row _, (OwnPk.base _ _ _ _ _).row (by omega) _, below_setRow ((g1.trans g2).trans g3).below (by omega) _, by omega⟩
end Go.Proofs.Ytgkddjapcdjalaa
