/- A plan in memory: its block of 131 cells; the ends in theirs. -/
import Derived.Test.YthgdiihibjnhoaaPlMath
import Derived.Test.YthgdiihibjnhoaaSetOf
import Derived.Test.YthgdiihibjnhoaaHdAt
import Derived.BigRegion
set_option linter.unusedVariables false
set_option linter.unusedSimpArgs false
namespace Go.Proofs.Ythgdiihibjnhoaa
open Go.RowKit Go.Sort

def encWh (u : Wh) : List Value := [.int .u32 u.n, .int .i64 u.h]
theorem encWh_length (u : Wh) : (encWh u).length = 2 := rfl
def rowW (f : Nat → Wh) : List Value := flat encWh ((List.range 64).map f)
theorem rowW_length (f : Nat → Wh) : (rowW f).length = 128 := by
  unfold rowW; rw [flat_length encWh 2 encWh_length]; simp
theorem rowW_at (f : Nat → Wh) (p : Nat) (hp : p < 64) (c : Nat) (hc : c < 2) : (rowW f)[p * 2 + c]? = (encWh (f p))[c]? := by
  unfold rowW
  exact flat_at encWh 2 encWh_length _ p _ (by rw [List.getElem?_map, List.getElem?_range hp]; rfl) c hc
theorem rowW_set (f : Nat → Wh) (p : Nat) (hp : p < 64) (u : Wh) : (rowW f).take (p * 2) ++ encWh u ++ (rowW f).drop (p * 2 + 2) = rowW (updW f p u) := by
  apply List.ext_getElem?
  intro i
  have hl := rowW_length f
  have hl2 := rowW_length (updW f p u)
  have hd : i / 2 * 2 + i % 2 = i := by omega
  have h2 : i % 2 < 2 := Nat.mod_lt _ (by decide)
  have ht : ((rowW f).take (p * 2)).length = p * 2 := by rw [List.length_take, hl]; omega
  by_cases hi : i < 128
  · have h64 : i / 2 < 64 := by omega
    have e2 := rowW_at (updW f p u) (i / 2) h64 (i % 2) h2
    have e1 := rowW_at f (i / 2) h64 (i % 2) h2
    rw [hd] at e1 e2
    rw [e2]
    by_cases e : i / 2 = p
    · subst e
      rw [updW_same, List.append_assoc, List.getElem?_append_right (by rw [ht]; omega), ht, List.getElem?_append_left (by rw [encWh_length]; omega)]
      congr 1; omega
    · rw [updW_other _ _ _ _ e, ← e1]
      by_cases hlt : i < p * 2
      · rw [List.append_assoc, List.getElem?_append_left (by rw [ht]; exact hlt), List.getElem?_take, if_pos hlt]
      · rw [List.getElem?_append_right (by rw [List.length_append, ht, encWh_length]; omega), List.length_append, ht, encWh_length, List.getElem?_drop]
        congr 1; omega
  · rw [List.getElem?_eq_none (l := rowW (updW f p u)) (by rw [hl2]; omega), List.getElem?_eq_none (by simp only [List.length_append, ht, encWh_length, List.length_drop, hl]; omega)]
def Pn.cells (P : Pn) : List Value := .int .u64 (P.cs : Int) :: (rowW P.f ++ [.int .u64 P.bd.n, .int .i64 P.bd.p])
theorem Pn.cells_length (P : Pn) : P.cells.length = 131 := by unfold Pn.cells; simp [rowW_length]
/-- Its block. -/
def PlB (w : World) (g : Nat) (P : Pn) : Prop := Own w g 60 P.cells.toArray
section
variable {w : World} {g : Nat} {P : Pn}
theorem PlB.own (h : PlB w g P) : Own w g 60 P.cells.toArray := h
theorem PlB.lt (h : PlB w g P) : g < w.heap.size := h.own.lt
theorem PlB.below {w' : World} (h : PlB w g P) (hb : Below w.heap.size w w') : PlB w' g P := (hb.block g h.lt).trans h
theorem PlB.kept {w' : World} (h : PlB w g P) (hb : w'.heap[g]? = w.heap[g]?) : PlB w' g P := hb.trans h
theorem PlB.free (h : PlB w g P) (j : Nat) : w.frozen? ⟨g, j, none⟩ = false := h.own.free j
theorem PlB.c0 (h : PlB w g P) : w.cell? ⟨g, 0, none⟩ = some (.int .u64 (P.cs : Int)) := h.own.at_ 0 _ rfl
theorem PlB.range (h : PlB w g P) : w.rangeAt g 1 (rowW P.f) := fun j v hj => by
  refine h.own.at_ (1 + j) _ ?_
  have hl := (List.getElem?_eq_some_iff.1 hj).1
  rw [List.getElem?_toArray, Pn.cells, show 1 + j = j + 1 by omega, List.getElem?_cons_succ, List.getElem?_append_left hl]
  exact hj
theorem PlB.cw (h : PlB w g P) (p : Nat) (hp : p < 64) (c : Nat) (u : Value) (hu : (encWh (P.f p))[c]? = some u) : w.cell? ⟨g, 1 + p * 2 + c, none⟩ = some u := by
  have hc : c < 2 := (List.getElem?_eq_some_iff.1 hu).1
  rw [Nat.add_assoc]
  exact h.range (p * 2 + c) u (by rw [rowW_at _ p hp c hc]; exact hu)
theorem PlB.n (h : PlB w g P) (p : Nat) (hp : p < 64) : w.cell? ⟨g, 1 + p * 2, none⟩ = some (.int .u32 (P.f p).n) := h.cw p hp 0 _ rfl
theorem PlB.h (h : PlB w g P) (p : Nat) (hp : p < 64) : w.cell? ⟨g, 1 + p * 2 + 1, none⟩ = some (.int .i64 (P.f p).h) := h.cw p hp 1 _ rfl
theorem PlB.b0 (h : PlB w g P) : w.cell? ⟨g, 129, none⟩ = some (.int .u64 P.bd.n) := by
  refine h.own.at_ 129 _ ?_
  rw [List.getElem?_toArray, Pn.cells, List.getElem?_cons_succ, List.getElem?_append_right (by rw [rowW_length]; decide), rowW_length]; rfl
theorem PlB.b1 (h : PlB w g P) : w.cell? ⟨g, 130, none⟩ = some (.int .i64 P.bd.p) := by
  refine h.own.at_ 130 _ ?_
  rw [List.getElem?_toArray, Pn.cells, List.getElem?_cons_succ, List.getElem?_append_right (by rw [rowW_length]; decide), rowW_length]; rfl
theorem PlB.there (h : PlB w g P) (o n : Nat) (hn : o + n ≤ 131) : w.there g o n := fun j hj => by
  have hlt : o + j < P.cells.length := by rw [Pn.cells_length]; omega
  refine ⟨?_, h.free _⟩
  rw [h.own.at_ (o + j) (P.cells[o + j]) (by rw [List.getElem?_toArray]; exact List.getElem?_eq_getElem hlt)]; rfl
theorem PlB.mid (h : PlB w g P) (o : Nat) (vs : List Value) (P' : Pn) (hn : o + vs.length ≤ 131) (hr : P'.cells = P.cells.take o ++ vs ++ P.cells.drop (o + vs.length)) : PlB (w.setCells g o vs) g P' := by
  obtain ⟨cur, h1, h2⟩ := heap_setCells vs o w _ h.own (by rw [List.size_toArray, Pn.cells_length]; exact hn)
  have e : cur = P'.cells.toArray := by rw [hr, ← Array.toArray_toList (xs := cur), h2]
  show (w.setCells g o vs).heap[g]? = some (.cells P'.cells.toArray 60 (0, 0))
  rw [← e]; exact h1
/-- One whole count is another one. -/
theorem PlB.setW (h : PlB w g P) (p : Nat) (hp : p < 64) (u : Wh) : PlB (w.setCells g (1 + p * 2) (encWh u)) g { P with f := updW P.f p u } := by
  refine h.mid _ _ _ (by rw [encWh_length]; omega) ?_
  unfold Pn.cells
  simp only
  rw [← rowW_set P.f p hp u, encWh_length, show 1 + p * 2 = p * 2 + 1 by omega, show p * 2 + 1 + 2 = (p * 2 + 2) + 1 by omega, List.take_succ_cons, List.drop_succ_cons]
  rw [List.take_append_of_le_length (by rw [rowW_length]; omega), List.drop_append_of_le_length (by rw [rowW_length]; omega)]
  simp
theorem PlB.setC (h : PlB w g P) (c : Nat) : PlB (w.setCell ⟨g, 0, none⟩ (.int .u64 (c : Int))) g { P with cs := c } := by
  have := Own.set h.own 0 (.int .u64 (c : Int))
  rw [List.setIfInBounds_toArray] at this
  exact this
theorem PlB.setB (h : PlB w g P) (k : K) : PlB (w.setCells g 129 [.int .u64 k.n, .int .i64 k.p]) g { P with bd := k } := by
  refine h.mid _ _ _ (Nat.le_refl _) ?_
  unfold Pn.cells
  simp only
  rw [List.take_succ_cons, List.drop_eq_nil_of_le (by simp [rowW_length]), List.take_append_of_le_length (by rw [rowW_length]; decide), List.take_of_length_le (by rw [rowW_length]; decide)]
  simp
theorem PlB.alloc (w : World) (P : Pn) : PlB (w.alloc (.cells P.cells.toArray 60)) w.heap.size P := Own.new w _ _
end
/-- The ends in their block. -/
def vI64 (v : Int) : Value := .int .u64 v
def EnB (w : World) (b : Nat) (e : Nat → Int) : Prop := Own w b 65 (rowF vI64 e).toArray
theorem ends_size : (Try.prog.info? 65).map (·.size) = some 64 := by kernel_rfl
section
variable {w : World} {b : Nat} {e : Nat → Int}
theorem EnB.own (h : EnB w b e) : Own w b 65 (rowF vI64 e).toArray := h
theorem EnB.lt (h : EnB w b e) : b < w.heap.size := h.own.lt
theorem EnB.below {w' : World} (h : EnB w b e) (hb : Below w.heap.size w w') : EnB w' b e := (hb.block b h.lt).trans h
theorem EnB.kept {w' : World} (h : EnB w b e) (hb : w'.heap[b]? = w.heap[b]?) : EnB w' b e := hb.trans h
theorem EnB.free (h : EnB w b e) (j : Nat) : w.frozen? ⟨b, j, none⟩ = false := h.own.free j
theorem EnB.at_ (h : EnB w b e) (p : Nat) (hp : p < 64) : w.cell? ⟨b, p, none⟩ = some (.int .u64 (e p)) := h.own.at_ p _ (by rw [List.getElem?_toArray]; exact rowF_at vI64 e p hp)
theorem EnB.set (h : EnB w b e) (p : Nat) (hp : p < 64) (v : Int) : EnB (w.setCell ⟨b, p, none⟩ (.int .u64 v)) b (updE e p v) := by
  have := Own.set h.own p (.int .u64 v)
  rw [List.setIfInBounds_toArray, show (Value.int .u64 v) = vI64 v from rfl, rowF_set _ _ _ _ hp] at this
  exact this
theorem EnB.new (w : World) (e : Nat → Int) : EnB (w.alloc (.cells (rowF vI64 e).toArray 65)) w.heap.size e := Own.new w _ _
theorem EnB.row (h : EnB w b e) (e' : Nat → Int) : EnB (w.setRow b (rowF vI64 e').toArray) b e' := setRow_heap _ _ _ _ _ _ h
end
theorem ends_one (e : Nat → Int) : (rowF vI64 e).toArray.all (·.oneCell') = true := by simp [rowF, vI64, Value.oneCell']
theorem load_en {ops : Array Oper} {rest : List Oper} {o : Oper} {A : Act} {w : World} {Q : Exit → Act → World → Prop} (hgd : o.guard = none) (x : Operand) (ho : o.op = .load 65 x)
    (b : Nat) (e : Nat → Int) (hx : A.eval x = .pointer (some ⟨b, 0, none⟩)) (hg : EnB w b e) (h : wpList Try.prog ops Q rest (A.put o.dst (.agg (rowF vI64 e).toArray)) w) : wpList Try.prog ops Q (o :: rest) A w :=
  wpList_load_row hgd 65 x ho b hx 65 _ _ _ hg Try.underlying65 rfl (by rw [List.size_toArray, rowF_length]; exact ends_size) h
theorem store_en {ops : Array Oper} {rest : List Oper} {o : Oper} {A : Act} {w : World} {Q : Exit → Act → World → Prop} (hgd : o.guard = none) (x y : Operand) (ho : o.op = .store 65 x y)
    (b : Nat) (e : Nat → Int) (hx : A.eval x = .pointer (some ⟨b, 0, none⟩)) (hy : A.eval y = .agg (rowF vI64 e).toArray) {e0 : Nat → Int} (hg : EnB w b e0)
    (h : wpList Try.prog ops Q rest (A.put o.dst undef) (w.setRow b (rowF vI64 e).toArray)) : wpList Try.prog ops Q (o :: rest) A w :=
  wpList_store_row hgd 65 x y ho b _ hx hy 65 _ hg (by rw [List.size_toArray, rowF_length]; exact ends_size) (by rw [List.size_toArray, List.size_toArray, rowF_length, rowF_length]) (ends_one e) h
theorem results_en {fn : Func} {p : Tmp} (h : fn.results = #[.cell p 65]) (tmps : Array Value) (w : World) (b : Nat) {e : Nat → Int} (hp : tmps.getD p undef = .pointer (some ⟨b, 0, none⟩)) (hg : EnB w b e) :
    (results fn tmps).run Try.prog w = .ok (.agg (rowF vI64 e).toArray) w :=
  results_cell_row h tmps w b 65 _ (0, 0) _ hp hg Try.underlying65 rfl (by rw [List.size_toArray, rowF_length]; exact ends_size)
/-- The whole counts, loaded as one array. -/
theorem whs_size : (Try.prog.info? 58).map (·.size) = some 128 := by kernel_rfl
theorem load_whs {ops : Array Oper} {rest : List Oper} {o : Oper} {A : Act} {w : World} {Q : Exit → Act → World → Prop} (hgd : o.guard = none) (x : Operand) (ho : o.op = .load 58 x)
    (g : Nat) (P : Pn) (hx : A.eval x = .pointer (some ⟨g, 1, none⟩)) (hg : PlB w g P) (h : wpList Try.prog ops Q rest (A.put o.dst (.agg (rowW P.f).toArray)) w) : wpList Try.prog ops Q (o :: rest) A w :=
  wpList_load_mid hgd 58 x ho g 1 hx (rowW P.f) _ hg.range Try.underlying58 rfl (by rw [rowW_length]; exact whs_size) h
theorem wh_size : (Try.prog.info? 57).map (·.size) = some 2 := by kernel_rfl
theorem store_wh {ops : Array Oper} {rest : List Oper} {o : Oper} {A : Act} {w : World} {Q : Exit → Act → World → Prop} (hgd : o.guard = none) (x y : Operand) (ho : o.op = .store 57 x y)
    (g p : Nat) (hp : p < 64) (u : Wh) {P : Pn} (hx : A.eval x = .pointer (some ⟨g, 1 + p * 2, none⟩)) (hy : A.eval y = .agg #[.int .u32 u.n, .int .i64 u.h])
    (hg : PlB w g P) (h : wpList Try.prog ops Q rest (A.put o.dst undef) (w.setCells g (1 + p * 2) (encWh u))) : wpList Try.prog ops Q (o :: rest) A w :=
  wpList_store_mid hgd 57 x y ho g (1 + p * 2) #[.int .u32 u.n, .int .i64 u.h] hx hy (hg.there _ 2 (by omega)) wh_size (by simp [Value.oneCell']) h
theorem grown_cells15 (g : Nat) : ∀ (vs : List Value) (o : Nat) (w : World), w.grownBy (w.setCells g o vs) (some g)
  | [], o, w => World.grownBy.refl w _
  | v :: r, o, w => by
    have h1 : w.grownBy (w.setCell ⟨g, o, none⟩ v) (some g) := ⟨rfl, rfl, rfl, by simp [World.setCell], fun k hk hn => heap_setCell_other w _ _ v (by show k ≠ g; intro e; exact hn (by rw [e]))⟩
    have h2 := grown_cells15 g r (o + 1) (w.setCell ⟨g, o, none⟩ v)
    exact ⟨h2.os.trans h1.os, h2.tape.trans h1.tape, h2.output.trans h1.output, Nat.le_trans h1.size h2.size, fun i hi hn => (h2.block i (Nat.lt_of_lt_of_le hi h1.size) hn).trans (h1.block i hi hn)⟩
end Go.Proofs.Ythgdiihibjnhoaa
