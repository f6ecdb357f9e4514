/- A clean packet whose numbers are turned: what stands of it, whatever the numbers. -/
import Derived.Test.YtgkddjapcdjalaaPkVal
set_option linter.unusedVariables false
set_option linter.unusedSimpArgs false
namespace Go.Proofs.Ytgkddjapcdjalaa
open Go.RowKit Go.Sort

/-- A slice of some numbers, in blocks at B or behind. -/
structure WV (B : Nat) (w : World) (v : Vc) : Prop where
  few : v.n ≤ 1048576
  cells : v.n = 0 ∨ ∃ b cur, v.a = some ⟨b, 0, none⟩ ∧ B ≤ b ∧ Own w b 29 cur ∧ ∀ j, j < v.n → ∃ x : Int, cur[j]? = some (.int .u32 x)
/-- A slice of some exchanges, likewise. -/
structure WX (B : Nat) (w : World) (v : Vc) : Prop where
  few : v.n ≤ 1048576
  cells : v.n = 0 ∨ ∃ b cur, v.a = some ⟨b, 0, none⟩ ∧ B ≤ b ∧ Own w b 50 cur ∧ ∀ j, j < v.n → ∃ (a : Int) (vc : Vc), WV B w vc ∧ cur[j * 6]? = some (.int .i64 a) ∧ cur[j * 6 + 3]? = some (.slice vc.a vc.n vc.c)
theorem Own.one {w : World} {g : Nat} {ty ty' : TypeId} {cs cs' : Array Value} (h : Own w g ty cs) (h' : Own w g ty' cs') : ty = ty' ∧ cs = cs' := by
  have := h.is.symm.trans h'.is
  injection this with e
  injection e with e1 e2 e3
  exact ⟨e2, e1⟩
theorem Own.apart {w : World} {g g' : Nat} {ty ty' : TypeId} {cs cs' : Array Value} (h : Own w g ty cs) (h' : Own w g' ty' cs') (ht : ty ≠ ty') : g ≠ g' := fun e => by
  subst e
  exact ht (h.one h').1
theorem WV.of {B : Nat} {w : World} {v : Vc} {l : List Nat} (h : OwnVec B w v l) (hl : l.length ≤ 1048576) : WV B w v := by
  refine ⟨by rw [← h.len]; exact hl, ?_⟩
  rcases h.cells with e | ⟨b, cur, h1, h2, h3, h4⟩
  · left; rw [e]; rfl
  · right
    refine ⟨b, cur, h1, h2, h3, fun j hj => ?_⟩
    have hjl : j < l.length := by rw [h.len]; exact hj
    exact ⟨_, h4 j _ (List.getElem?_eq_getElem hjl)⟩
theorem WX.of {B : Nat} {w : World} {v : Vc} {l : List PX} (h : OwnXs B w v l) (hl : l.length ≤ 1048576) (hc : ∀ x ∈ l, x.cnt.length ≤ 1048576) : WX B w v := by
  refine ⟨by rw [← h.len]; exact hl, ?_⟩
  rcases h.cells with e | ⟨b, cur, h1, h2, h3, h4⟩
  · left; rw [e]; rfl
  · right
    refine ⟨b, cur, h1, h2, h3, fun j hj => ?_⟩
    have hjl : j < l.length := by rw [h.len]; exact hj
    obtain ⟨vc, h5, h6⟩ := h4 j _ (List.getElem?_eq_getElem hjl)
    exact ⟨_, vc, WV.of h5 (hc _ (List.getElem_mem hjl)), h6 0 _ rfl, h6 3 _ rfl⟩
theorem WV.drew {B : Nat} {w : World} {v : Vc} (h : WV B w v) : WV B w.drew v := ⟨h.few, h.cells⟩
theorem WX.drew {B : Nat} {w : World} {v : Vc} (h : WX B w v) : WX B w.drew v := ⟨h.few, by
  rcases h.cells with e | ⟨b, cur, h1, h2, h3, h4⟩
  · exact .inl e
  · exact .inr ⟨b, cur, h1, h2, h3, fun j hj => let ⟨a, vc, h5, h6⟩ := h4 j hj; ⟨a, vc, h5.drew, h6⟩⟩⟩
theorem WV.setU {B : Nat} {w : World} {v : Vc} (h : WV B w v) {b : Nat} {cur0 : Array Value} (hb : Own w b 29 cur0) (j : Nat) (y : Int) : WV B (w.setCell ⟨b, j, none⟩ (.int .u32 y)) v := by
  refine ⟨h.few, ?_⟩
  rcases h.cells with e | ⟨b', cur, h1, h2, h3, h4⟩
  · exact .inl e
  · right
    by_cases hbb : b' = b
    · subst hbb
      refine ⟨b', _, h1, h2, h3.set j (.int .u32 y), fun i hi => ?_⟩
      obtain ⟨x, hx⟩ := h4 i hi
      rw [Array.getElem?_setIfInBounds]
      by_cases hij : j = i
      · rw [if_pos hij, if_pos (by rw [hij]; exact (Array.getElem?_eq_some_iff.1 hx).1)]; exact ⟨y, rfl⟩
      · rw [if_neg hij]; exact ⟨x, hx⟩
    · exact ⟨b', cur, h1, h2, h3.set_other _ _ _ hbb, h4⟩
theorem WV.setX {B : Nat} {w : World} {v : Vc} (h : WV B w v) {b : Nat} {cur0 : Array Value} (hb : Own w b 50 cur0) (j : Nat) (u : Value) : WV B (w.setCell ⟨b, j, none⟩ u) v := by
  refine ⟨h.few, ?_⟩
  rcases h.cells with e | ⟨b', cur, h1, h2, h3, h4⟩
  · exact .inl e
  · exact .inr ⟨b', cur, h1, h2, h3.set_other _ _ _ (h3.apart hb (by decide)), h4⟩
theorem WX.setU {B : Nat} {w : World} {v : Vc} (h : WX B w v) {b : Nat} {cur0 : Array Value} (hb : Own w b 29 cur0) (j : Nat) (y : Int) : WX B (w.setCell ⟨b, j, none⟩ (.int .u32 y)) v := by
  refine ⟨h.few, ?_⟩
  rcases h.cells with e | ⟨b', cur, h1, h2, h3, h4⟩
  · exact .inl e
  · exact .inr ⟨b', cur, h1, h2, h3.set_other _ _ _ (h3.apart hb (by decide)), fun i hi => let ⟨a, vc, h5, h6⟩ := h4 i hi; ⟨a, vc, h5.setU hb j y, h6⟩⟩
theorem WX.setX {B : Nat} {w : World} {v : Vc} (h : WX B w v) {b : Nat} {cur0 : Array Value} (hb : Own w b 50 cur0) (j : Nat) (y : Int) : WX B (w.setCell ⟨b, j * 6, none⟩ (.int .i64 y)) v := by
  refine ⟨h.few, ?_⟩
  rcases h.cells with e | ⟨b', cur, h1, h2, h3, h4⟩
  · exact .inl e
  · right
    by_cases hbb : b' = b
    · subst hbb
      refine ⟨b', _, h1, h2, h3.set (j * 6) (.int .i64 y), fun i hi => ?_⟩
      obtain ⟨a, vc, h5, h6, h7⟩ := h4 i hi
      by_cases hij : j = i
      · subst hij
        refine ⟨y, vc, h5.setX hb _ _, ?_, ?_⟩
        · rw [Array.getElem?_setIfInBounds, if_pos rfl, if_pos (Array.getElem?_eq_some_iff.1 h6).1]
        · rw [Array.getElem?_setIfInBounds, if_neg (by omega)]; exact h7
      · refine ⟨a, vc, h5.setX hb _ _, ?_, ?_⟩
        · rw [Array.getElem?_setIfInBounds, if_neg (by omega)]; exact h6
        · rw [Array.getElem?_setIfInBounds, if_neg (by omega)]; exact h7
    · exact ⟨b', cur, h1, h2, h3.set_other _ _ _ hbb, fun i hi => let ⟨a, vc, h5, h6⟩ := h4 i hi; ⟨a, vc, h5.setX hb _ _, h6⟩⟩

/-- What stands amid the loops. -/
structure ApSt (B : Nat) (w2 w : World) (g : Nat) (q : Pk) (T : ByteArray) (ud ug ux : Vc) : Prop where
  box : Own w g 35 (encP q T ud ug ux).toArray
  bel : Go.RowKit.Below B w2 w
  ds : WV B w ud
  gs : WV B w ug
  xs : WX B w ux
theorem ApSt.setU {B : Nat} {w2 w : World} {g : Nat} {q : Pk} {T : ByteArray} {ud ug ux : Vc} (h : ApSt B w2 w g q T ud ug ux) {b : Nat} {cur0 : Array Value} (hb : Own w b 29 cur0) (hB : B ≤ b) (j : Nat) (y : Int) : ApSt B w2 (w.drew.setCell ⟨b, j, none⟩ (.int .u32 y)) g q T ud ug ux where
  box := Own.set_other (w := w.drew) h.box _ _ _ (h.box.apart hb (by decide))
  bel := (show Go.RowKit.Below B w2 w.drew from ⟨h.bel.os, h.bel.tape, h.bel.output, h.bel.size, h.bel.block⟩).setCell hB _
  ds := h.ds.drew.setU (w := w.drew) hb j y
  gs := h.gs.drew.setU (w := w.drew) hb j y
  xs := h.xs.drew.setU (w := w.drew) hb j y
theorem ApSt.setX {B : Nat} {w2 w : World} {g : Nat} {q : Pk} {T : ByteArray} {ud ug ux : Vc} (h : ApSt B w2 w g q T ud ug ux) {b : Nat} {cur0 : Array Value} (hb : Own w b 50 cur0) (hB : B ≤ b) (j : Nat) (y : Int) : ApSt B w2 (w.drew.setCell ⟨b, j * 6, none⟩ (.int .i64 y)) g q T ud ug ux where
  box := Own.set_other (w := w.drew) h.box _ _ _ (h.box.apart hb (by decide))
  bel := (show Go.RowKit.Below B w2 w.drew from ⟨h.bel.os, h.bel.tape, h.bel.output, h.bel.size, h.bel.block⟩).setCell hB _
  ds := h.ds.drew.setX (w := w.drew) hb _ _
  gs := h.gs.drew.setX (w := w.drew) hb _ _
  xs := h.xs.drew.setX (w := w.drew) hb j y
end Go.Proofs.Ytgkddjapcdjalaa
