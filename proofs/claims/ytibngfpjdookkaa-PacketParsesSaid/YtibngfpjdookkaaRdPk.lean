/- Reading a packet's body: its head, in whatever order the statement is carried out. -/
import Derived.Test.YtibngfpjdookkaaPkVal
import Derived.Deep.DeepCutAuto
set_option linter.unusedVariables false
set_option linter.unusedSimpArgs false
namespace Go.Proofs.Ytibngfpjdookkaa
open Go.RowKit Go.Sort

/-- What stands ahead of the first statement of reading a packet. -/
structure Pre (w W : World) (b : Nat) (s : ByteArray) (a : Nat) (k f t : Int) : Prop where
  rd : Rd W b s a
  box : W.cell? ⟨w.heap.size, 0, none⟩ = some (.pointer (some ⟨b, 0, none⟩))
  c0 : W.cell? ⟨w.heap.size + 1, 0, none⟩ = some (.int .i64 k)
  c1 : W.cell? ⟨w.heap.size + 1, 1, none⟩ = some (.int .i64 f)
  c2 : W.cell? ⟨w.heap.size + 1, 2, none⟩ = some (.int .i64 t)
  res : Own W (w.heap.size + 2) 35 zeroPv
  gr : w.grownBy W (some b)
  lt : b < w.heap.size
theorem Pre.new {w : World} {b : Nat} {s : ByteArray} {a : Nat} (h : Rd w b s a) (k f t : Int) (y : ByteArray) :
    Pre w (((w.alloc (.cells #[.pointer (some ⟨b, 0, none⟩)] 62)).alloc (.cells #[.int .i64 k, .int .i64 f, .int .i64 t, .string y] 56)).alloc (.cells zeroPv 35)).drew b s a k f t := by
  obtain ⟨A1, hA1⟩ : ∃ A1, A1 = w.alloc (.cells #[.pointer (some ⟨b, 0, none⟩)] 62) := ⟨_, rfl⟩
  have z1 : A1.heap.size = w.heap.size + 1 := by rw [hA1]; simp
  have o1 : Own A1 w.heap.size 62 #[.pointer (some ⟨b, 0, none⟩)] := by rw [hA1]; exact Own.new _ _ _
  rw [← hA1]
  obtain ⟨A2, hA2⟩ : ∃ A2, A2 = A1.alloc (.cells #[.int .i64 k, .int .i64 f, .int .i64 t, .string y] 56) := ⟨_, rfl⟩
  have z2 : A2.heap.size = w.heap.size + 2 := by rw [hA2]; simp [z1]
  have g2 : Grw A1 A2 := by rw [hA2]; exact (Grw.refl _).alloc _
  have o2 : Own A2 (w.heap.size + 1) 56 #[.int .i64 k, .int .i64 f, .int .i64 t, .string y] := by rw [hA2, ← z1]; exact Own.new _ _ _
  rw [← hA2]
  have g3 : Grw A2 (A2.alloc (.cells zeroPv 35)).drew := ((Grw.refl _).alloc _).drew
  have o1' := (o1.below g2.below o1.lt).below g3.below (by omega)
  have o2' := o2.below g3.below o2.lt
  have g1 : Grw w A1 := by rw [hA1]; exact (Grw.refl _).alloc _
  refine ⟨((h.after g1.below).after g2.below).after g3.below, o1'.at_ 0 _ rfl, o2'.at_ 0 _ rfl, o2'.at_ 1 _ rfl, o2'.at_ 2 _ rfl, ?_, ?_, h.lt⟩
  · rw [← z2]; exact (Own.new _ _ _).drew
  · have B := ((g1.trans g2).trans g3).below
    exact ⟨B.os, B.tape, B.output, B.size, fun k hk _ => B.block k hk⟩
theorem Pre.go {w W W' : World} {b : Nat} {s : ByteArray} {a a' : Nat} {k f t : Int} (h : Pre w W b s a k f t) (hr : Rd W' b s a') (hg : W.grownBy W' (some b)) : Pre w W' b s a' k f t :=
  have hl := h.lt
  ⟨hr, cell_grown_by hg (by show w.heap.size ≠ b; omega) h.box, cell_grown_by hg (by show w.heap.size + 1 ≠ b; omega) h.c0, cell_grown_by hg (by show w.heap.size + 1 ≠ b; omega) h.c1, cell_grown_by hg (by show w.heap.size + 1 ≠ b; omega) h.c2,
    h.res.grown hg (by intro e; cases e; omega), grown_tr h.gr hg, h.lt⟩
theorem Pre.alloc {w W : World} {b : Nat} {s : ByteArray} {a : Nat} {k f t : Int} (h : Pre w W b s a k f t) (o : Obj) : Pre w (W.alloc o) b s a k f t := h.go (h.rd.alloc' o) (grown_alloc _ _ _)
theorem Pre.row {w W : World} {b : Nat} {s : ByteArray} {a : Nat} {k f t : Int} (h : Pre w W b s a k f t) {g : Nat} (hg : w.heap.size + 2 < g) (cs : Array Value) : Pre w (W.setRow g cs) b s a k f t := by
  have hl := h.lt
  have e0 := setRow_other W g w.heap.size cs (by omega)
  have e1 := setRow_other W g (w.heap.size + 1) cs (by omega)
  exact ⟨h.rd.row (by omega) cs, (World.cell?_of_block e0).trans h.box, (World.cell?_of_block e1).trans h.c0, (World.cell?_of_block e1).trans h.c1, (World.cell?_of_block e1).trans h.c2, h.res.row_other cs (by omega), grown_row h.gr (by omega) cs, h.lt⟩

/-- A packet that is being read. -/
structure PkSt (w W : World) (b : Nat) (s : ByteArray) (a g : Nat) (q : Pk) (T : ByteArray) (vd vg vx : Vc) : Prop where
  rd : Rd W b s a
  box : W.cell? ⟨w.heap.size, 0, none⟩ = some (.pointer (some ⟨b, 0, none⟩))
  res : Own W (w.heap.size + 2) 35 zeroPv
  row : Own W g 35 (encP q T vd vg vx).toArray
  own : OwnPk (g + 1) W q T vd vg vx
  gr : w.grownBy W (some b)
  lt : b < w.heap.size
  ge : w.heap.size + 2 < g
theorem Pre.st {w W : World} {b : Nat} {s : ByteArray} {a g : Nat} {k f t : Int} {c : PC} (h : Pre w W b s a k f t) (hg : w.heap.size + 2 < g) (ho : Own W g 35 zeroPv) :
    PkSt w (W.setRow g (encP { baseP k f t with conf := c } { data := #[] } Vc.nil Vc.nil Vc.nil).toArray) b s a g { baseP k f t with conf := c } { data := #[] } Vc.nil Vc.nil Vc.nil :=
  have h' := h.row hg (encP { baseP k f t with conf := c } { data := #[] } Vc.nil Vc.nil Vc.nil).toArray
  ⟨h'.rd, h'.box, h'.res, ho.row _, ⟨rfl, OwnVec.nil _ _, OwnVec.nil _ _, OwnXs.nil _ _⟩, h'.gr, h.lt, hg⟩
theorem PkSt.go {w W W' : World} {b : Nat} {s : ByteArray} {a a' g : Nat} {q : Pk} {T : ByteArray} {vd vg vx : Vc} (h : PkSt w W b s a g q T vd vg vx) (hr : Rd W' b s a') (hg : W.grownBy W' (some b)) : PkSt w W' b s a' g q T vd vg vx :=
  have hl := h.lt
  have hge := h.ge
  ⟨hr, cell_grown_by hg (by show w.heap.size ≠ b; omega) h.box, h.res.grown hg (by intro e; cases e; omega), h.row.grown hg (by intro e; cases e; omega), h.own.grown hg (by omega), grown_tr h.gr hg, h.lt, h.ge⟩
theorem PkSt.set {w W : World} {b : Nat} {s : ByteArray} {a g : Nat} {q : Pk} {T : ByteArray} {vd vg vx : Vc} (h : PkSt w W b s a g q T vd vg vx) (j : Nat) (v : Value) {q' : Pk} {T' : ByteArray} {vd' vg' vx' : Vc}
    (hrow : (encP q T vd vg vx).toArray.setIfInBounds j v = (encP q' T' vd' vg' vx').toArray) (ho : OwnPk (g + 1) W q' T' vd' vg' vx') : PkSt w (W.setCell ⟨g, j, none⟩ v) b s a g q' T' vd' vg' vx' :=
  have hl := h.lt
  have hge := h.ge
  ⟨h.rd.set (by omega) j v, cell_set h.box (by omega), h.res.set_other _ _ _ (by omega), by rw [← hrow]; exact h.row.set j v, ho.set (by omega) j v, grown_set h.gr (by omega) j v, h.lt, h.ge⟩

end Go.Proofs.Ytibngfpjdookkaa
