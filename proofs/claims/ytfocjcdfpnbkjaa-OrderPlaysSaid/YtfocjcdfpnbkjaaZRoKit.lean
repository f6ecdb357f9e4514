/- The document's order in memory: a block of 199 cells. -/
import Derived.Test.YtfocjcdfpnbkjaaZRzTell
import Derived.Test.YtfocjcdfpnbkjaaZRhKits
import Derived.Deep.MidRow
set_option linter.unusedVariables false
set_option maxRecDepth 100000
set_option linter.unusedSimpArgs false
namespace Go.Proofs.Ytfocjcdfpnbkjaa
open Go.RowKit Go.Sort

/-- The document's order: whose, among whom, its hold, its horizon, how many were delivered, the last one's key. -/
structure Ro where
  me : Int
  ms : Nat
  hs : Sl
  lo : Nat → Nat
  clk : Nat
  oth : Nat
  zs : Sl
  dn : Nat → Nat
  last : K
def endK (dn : Nat → Nat) (k : K) : List Value := rowF vU dn ++ [.int .u64 k.n, .int .i64 k.p]
theorem endK_length (dn : Nat → Nat) (k : K) : (endK dn k).length = 66 := by unfold endK; simp [rowF_length]
def Ro.cs (r : Ro) : List Value := [.int .i64 r.me, .int .u64 (r.ms : Int)] ++ (rhC r.hs r.lo ++ (rzC r.clk r.oth r.zs ++ endK r.dn r.last))
theorem Ro.cs_length (r : Ro) : r.cs.length = 199 := by unfold Ro.cs; simp [rhC_length, rzC_length, endK_length]
theorem Ro.cs_hold (r : Ro) (j : Nat) (v : Value) (hv : (rhC r.hs r.lo)[j]? = some v) : r.cs[2 + j]? = some v := by
  have hj := (List.getElem?_eq_some_iff.1 hv).1
  unfold Ro.cs
  rw [List.getElem?_append_right (by simp), List.getElem?_append_left (by simp; exact hj)]
  simpa using hv
theorem Ro.cs_hz (r : Ro) (j : Nat) (v : Value) (hv : (rzC r.clk r.oth r.zs)[j]? = some v) : r.cs[67 + j]? = some v := by
  have hj := (List.getElem?_eq_some_iff.1 hv).1
  unfold Ro.cs
  rw [List.getElem?_append_right (by simp; omega), List.getElem?_append_right (by rw [rhC_length]; simp; omega), List.getElem?_append_left (by rw [rhC_length]; simp; omega), rhC_length]
  rw [show 67 + j - [Value.int .i64 r.me, .int .u64 (r.ms : Int)].length - 65 = j by simp; omega]
  exact hv
theorem Ro.cs_end (r : Ro) (j : Nat) (v : Value) (hv : (endK r.dn r.last)[j]? = some v) : r.cs[133 + j]? = some v := by
  unfold Ro.cs
  rw [List.getElem?_append_right (by simp; omega), List.getElem?_append_right (by rw [rhC_length]; simp; omega), List.getElem?_append_right (by rw [rhC_length, rzC_length]; simp; omega), rhC_length, rzC_length]
  rw [show 133 + j - [Value.int .i64 r.me, .int .u64 (r.ms : Int)].length - 65 - 66 = j by simp; omega]
  exact hv
theorem Ro.cs_one (r : Ro) : r.cs.toArray.all (·.oneCell') = true := by simp [Ro.cs, endK, rhC, rzC, rowF, vU, vB, Sl.v, Value.oneCell']
theorem ro_size : (Try.prog.info? 41).map (·.size) = some 199 := by kernel_rfl
/-- Its block. -/
def RoB (w : World) (b : Nat) (r : Ro) : Prop := Own w b 41 r.cs.toArray
section
variable {w : World} {b : Nat} {r : Ro}
theorem RoB.own (h : RoB w b r) : Own w b 41 r.cs.toArray := h
theorem RoB.lt (h : RoB w b r) : b < w.heap.size := h.own.lt
theorem RoB.new (w : World) (r : Ro) : RoB (w.alloc (.cells r.cs.toArray 41)) w.heap.size r := Own.new w _ _
theorem RoB.below {w' : World} (h : RoB w b r) (hb : Below w.heap.size w w') : RoB w' b r := (hb.block b h.lt).trans h
theorem RoB.kept {w' : World} (h : RoB w b r) (hb : w'.heap[b]? = w.heap[b]?) : RoB w' b r := hb.trans h
theorem RoB.free (h : RoB w b r) (j : Nat) : w.frozen? ⟨b, j, none⟩ = false := h.own.free j
theorem RoB.c0 (h : RoB w b r) : w.cell? ⟨b, 0, none⟩ = some (.int .i64 r.me) := h.own.at_ 0 _ rfl
theorem RoB.c1 (h : RoB w b r) : w.cell? ⟨b, 1, none⟩ = some (.int .u64 (r.ms : Int)) := h.own.at_ 1 _ rfl
theorem RoB.hold (h : RoB w b r) : w.rangeAt b 2 (rhC r.hs r.lo) := fun j v hv => h.own.at_ _ _ (by rw [List.getElem?_toArray]; exact r.cs_hold j v hv)
theorem RoB.hz (h : RoB w b r) : w.rangeAt b 67 (rzC r.clk r.oth r.zs) := fun j v hv => h.own.at_ _ _ (by rw [List.getElem?_toArray]; exact r.cs_hz j v hv)
theorem RoB.clock (h : RoB w b r) : w.cell? ⟨b, 67, none⟩ = some (.int .u64 (r.clk : Int)) := h.hz 0 _ rfl
theorem RoB.dn (h : RoB w b r) (p : Nat) (hp : p < 64) : w.cell? ⟨b, 133 + p, none⟩ = some (.int .u32 (r.dn p : Int)) := h.own.at_ _ _ (by
  rw [List.getElem?_toArray]
  refine r.cs_end p _ ?_
  unfold endK
  rw [List.getElem?_append_left (by rw [rowF_length]; exact hp), rowF_at _ _ _ hp]; rfl)
theorem RoB.l0 (h : RoB w b r) : w.cell? ⟨b, 197, none⟩ = some (.int .u64 r.last.n) := h.own.at_ 197 _ (by
  rw [List.getElem?_toArray]
  refine r.cs_end 64 _ ?_
  unfold endK
  rw [List.getElem?_append_right (by rw [rowF_length]; exact Nat.le_refl _), rowF_length]; rfl)
theorem RoB.l1 (h : RoB w b r) : w.cell? ⟨b, 198, none⟩ = some (.int .i64 r.last.p) := h.own.at_ 198 _ (by
  rw [List.getElem?_toArray]
  refine r.cs_end 65 _ ?_
  unfold endK
  rw [List.getElem?_append_right (by rw [rowF_length]; decide), rowF_length]; rfl)
theorem RoB.there (h : RoB w b r) (o n : Nat) (hn : o + n ≤ 199) : w.there b o n := fun j hj => by
  refine ⟨?_, h.own.free _⟩
  have hlt : o + j < r.cs.length := by rw [Ro.cs_length]; omega
  have := h.own.at_ (o + j) (r.cs[o + j]) (by rw [List.getElem?_toArray]; exact List.getElem?_eq_getElem hlt)
  rw [this]; rfl
/-- Cells that are laid into its middle. -/
theorem RoB.mid (h : RoB w b r) (o : Nat) (vs : List Value) (r' : Ro) (hn : o + vs.length ≤ 199) (hr : r'.cs = r.cs.take o ++ vs ++ r.cs.drop (o + vs.length)) : RoB (w.setCells b o vs) b r' := by
  obtain ⟨cur, h1, h2⟩ := heap_setCells vs o w _ h.own (by rw [List.size_toArray, Ro.cs_length]; exact hn)
  have e : cur = r'.cs.toArray := by rw [hr, ← Array.toArray_toList (xs := cur), h2]
  show (w.setCells b o vs).heap[b]? = some (.cells r'.cs.toArray 41 (0, 0))
  rw [← e]; exact h1
theorem Ro.cs_setH (r : Ro) (s : Sl) (lo : Nat → Nat) : ({ r with hs := s, lo := lo } : Ro).cs = r.cs.take 2 ++ rhC s lo ++ r.cs.drop (2 + (rhC s lo).length) := by
  unfold Ro.cs
  rw [rhC_length, List.take_append_of_le_length (by simp), List.drop_append, List.drop_append]
  simp [rhC_length]
theorem Ro.cs_setZ (r : Ro) (c o : Nat) (s : Sl) : ({ r with clk := c, oth := o, zs := s } : Ro).cs = r.cs.take 67 ++ rzC c o s ++ r.cs.drop (67 + (rzC c o s).length) := by
  unfold Ro.cs
  rw [rzC_length, List.take_append, List.take_append, List.drop_append, List.drop_append, List.drop_append]
  simp [rhC_length, rzC_length]
  rw [List.take_of_length_le (by rw [rhC_length]; decide), List.drop_of_length_le (by rw [rhC_length]; decide), List.drop_of_length_le (by rw [rzC_length]; decide)]
  simp
theorem RoB.setH (h : RoB w b r) (s : Sl) (lo : Nat → Nat) : RoB (w.setCells b 2 (rhC s lo)) b { r with hs := s, lo := lo } := h.mid 2 _ _ (by rw [rhC_length]; decide) (r.cs_setH s lo)
theorem RoB.setZ (h : RoB w b r) (c o : Nat) (s : Sl) : RoB (w.setCells b 67 (rzC c o s)) b { r with clk := c, oth := o, zs := s } := h.mid 67 _ _ (by rw [rzC_length]; decide) (r.cs_setZ c o s)
theorem RoB.row (h : RoB w b r) (r' : Ro) : RoB (w.setRow b r'.cs.toArray) b r' := setRow_heap _ _ _ _ _ _ h
end
theorem load_ro {ops : Array Oper} {rest : List Oper} {o : Oper} {A : Act} {w : World} {Q : Exit → Act → World → Prop} (hgd : o.guard = none) (x : Operand) (ho : o.op = .load 41 x)
    (b : Nat) (r : Ro) (hx : A.eval x = .pointer (some ⟨b, 0, none⟩)) (hg : RoB w b r) (h : wpList Try.prog ops Q rest (A.put o.dst (.agg r.cs.toArray)) w) : wpList Try.prog ops Q (o :: rest) A w :=
  wpList_load_row hgd 41 x ho b hx 41 _ _ _ hg Try.underlying41 rfl (by rw [List.size_toArray, Ro.cs_length]; exact ro_size) h
theorem store_ro {ops : Array Oper} {rest : List Oper} {o : Oper} {A : Act} {w : World} {Q : Exit → Act → World → Prop} (hgd : o.guard = none) (x y : Operand) (ho : o.op = .store 41 x y)
    (b : Nat) (r : Ro) (hx : A.eval x = .pointer (some ⟨b, 0, none⟩)) (hy : A.eval y = .agg r.cs.toArray) {r0 : Ro} (hg : RoB w b r0)
    (h : wpList Try.prog ops Q rest (A.put o.dst undef) (w.setRow b r.cs.toArray)) : wpList Try.prog ops Q (o :: rest) A w :=
  wpList_store_row hgd 41 x y ho b _ hx hy 41 _ hg (by rw [List.size_toArray, Ro.cs_length]; exact ro_size) (by rw [List.size_toArray, List.size_toArray, Ro.cs_length, Ro.cs_length]) r.cs_one h
theorem results_ro {fn : Func} {p : Tmp} (h : fn.results = #[.cell p 41]) (tmps : Array Value) (w : World) (b : Nat) {r : Ro} (hp : tmps.getD p undef = .pointer (some ⟨b, 0, none⟩)) (hg : RoB w b r) :
    (results fn tmps).run Try.prog w = .ok (.agg r.cs.toArray) w :=
  results_cell_row h tmps w b 41 _ (0, 0) _ hp hg Try.underlying41 rfl (by rw [List.size_toArray, Ro.cs_length]; exact ro_size)
theorem run_ro {w : World} {b : Nat} {r : Ro} (hg : RoB w b r) : (loadVar 41 ⟨b, 0, none⟩).run Try.prog w = .ok (.agg r.cs.toArray) w :=
  run_loadVar_row (P := Try.prog) w b 41 41 r.cs.toArray (0, 0) _ hg Try.underlying41 rfl (by rw [List.size_toArray, Ro.cs_length]; exact ro_size)
theorem results_ro2 {fn : Func} {p u : Tmp} (h : fn.results = #[.cell p 41, .tmp u]) (tmps : Array Value) (w : World) (b : Nat) {r : Ro} (hp : tmps.getD p undef = .pointer (some ⟨b, 0, none⟩)) (hg : RoB w b r) :
    (results fn tmps).run Try.prog w = .ok (.tuple #[.agg r.cs.toArray, tmps.getD u undef]) w := by
  rw [results_cell_tmp h, hp]
  simp [asAddr, run_ro hg, Result.andThen]
theorem load_hold {ops : Array Oper} {rest : List Oper} {o : Oper} {A : Act} {w : World} {Q : Exit → Act → World → Prop} (hgd : o.guard = none) (x : Operand) (ho : o.op = .load 33 x)
    (b : Nat) (r : Ro) (hx : A.eval x = .pointer (some ⟨b, 2, none⟩)) (hg : RoB w b r) (h : wpList Try.prog ops Q rest (A.put o.dst (.agg (rhC r.hs r.lo).toArray)) w) : wpList Try.prog ops Q (o :: rest) A w :=
  wpList_load_mid hgd 33 x ho b 2 hx _ _ hg.hold Try.underlying33 rfl (by rw [rhC_length]; exact rh_size) h
theorem load_hz {ops : Array Oper} {rest : List Oper} {o : Oper} {A : Act} {w : World} {Q : Exit → Act → World → Prop} (hgd : o.guard = none) (x : Operand) (ho : o.op = .load 37 x)
    (b : Nat) (r : Ro) (hx : A.eval x = .pointer (some ⟨b, 67, none⟩)) (hg : RoB w b r) (h : wpList Try.prog ops Q rest (A.put o.dst (.agg (rzC r.clk r.oth r.zs).toArray)) w) : wpList Try.prog ops Q (o :: rest) A w :=
  wpList_load_mid hgd 37 x ho b 67 hx _ _ hg.hz Try.underlying37 rfl (by rw [rzC_length]; exact rz_size) h
theorem store_hold {ops : Array Oper} {rest : List Oper} {o : Oper} {A : Act} {w : World} {Q : Exit → Act → World → Prop} (hgd : o.guard = none) (x y : Operand) (ho : o.op = .store 33 x y)
    (b : Nat) (r : Ro) (s : Sl) (lo : Nat → Nat) (hx : A.eval x = .pointer (some ⟨b, 2, none⟩)) (hy : A.eval y = .agg (rhC s lo).toArray) (hg : RoB w b r) (h : wpList Try.prog ops Q rest (A.put o.dst undef) (w.setCells b 2 (rhC s lo))) : wpList Try.prog ops Q (o :: rest) A w :=
  wpList_store_mid hgd 33 x y ho b 2 _ hx hy (by rw [List.size_toArray, rhC_length]; exact hg.there 2 65 (by decide)) (by rw [List.size_toArray, rhC_length]; exact rh_size) (rhC_one s lo) h
theorem store_hz {ops : Array Oper} {rest : List Oper} {o : Oper} {A : Act} {w : World} {Q : Exit → Act → World → Prop} (hgd : o.guard = none) (x y : Operand) (ho : o.op = .store 37 x y)
    (b : Nat) (r : Ro) (c oth : Nat) (s : Sl) (hx : A.eval x = .pointer (some ⟨b, 67, none⟩)) (hy : A.eval y = .agg (rzC c oth s).toArray) (hg : RoB w b r) (h : wpList Try.prog ops Q rest (A.put o.dst undef) (w.setCells b 67 (rzC c oth s))) : wpList Try.prog ops Q (o :: rest) A w :=
  wpList_store_mid hgd 37 x y ho b 67 _ hx hy (by rw [List.size_toArray, rzC_length]; exact hg.there 67 66 (by decide)) (by rw [List.size_toArray, rzC_length]; exact rz_size) (rzC_one c oth s) h
end Go.Proofs.Ytfocjcdfpnbkjaa
