/- Reading a frame: a frame in a block of its own, handed back; a reader that goes on. -/
import Derived.Test.YtibngfpjdookkaaPrint
import Derived.Test.YtibngfpjdookkaaPanics
import Derived.Laws.Rows
set_option linter.unusedVariables false
set_option linter.unusedSimpArgs false
namespace Go.Proofs.Ytibngfpjdookkaa
open Go.RowKit Go.Sort

/-- A block that holds a frame, whole. -/
def Blk (w : World) (g : Nat) (k f t : Int) (b : ByteArray) : Prop := w.heap[g]? = some (.cells #[.int .i64 k, .int .i64 f, .int .i64 t, .string b] 56 (0, 0))
theorem Blk.is {w : World} {g : Nat} {k f t : Int} {b : ByteArray} (h : Blk w g k f t b) : w.heap[g]? = some (.cells #[.int .i64 k, .int .i64 f, .int .i64 t, .string b] 56 (0, 0)) := h
theorem Blk.lt {w : World} {g : Nat} {k f t : Int} {b : ByteArray} (h : Blk w g k f t b) : g < w.heap.size := (Array.getElem?_eq_some_iff.1 h).1
theorem Blk.new (w : World) (k f t : Int) (b : ByteArray) : Blk (w.alloc (.cells #[.int .i64 k, .int .i64 f, .int .i64 t, .string b] 56)) w.heap.size k f t b := heap_alloc_new w _
theorem Blk.box {w : World} {g : Nat} {k f t : Int} {b : ByteArray} (h : Blk w g k f t b) : Box4 w g k f t b :=
  ⟨by rw [cell_of_row _ _ _ _ _ _ h]; rfl, by rw [cell_of_row _ _ _ _ _ _ h]; rfl, by rw [cell_of_row _ _ _ _ _ _ h]; rfl, by rw [cell_of_row _ _ _ _ _ _ h]; rfl⟩
theorem Blk.below {w w' : World} {g B : Nat} {k f t : Int} {b : ByteArray} (h : Blk w g k f t b) (hb : Below B w w') (hB : g < B) : Blk w' g k f t b := (hb.block g hB).trans h
theorem Blk.grown {w w' : World} {g : Nat} {o : Option Nat} {k f t : Int} {b : ByteArray} (h : Blk w g k f t b) (hb : w.grownBy w' o) (ho : some g ≠ o) : Blk w' g k f t b := (hb.block g h.lt ho).trans h
theorem Blk.alloc {w : World} {g : Nat} {k f t : Int} {b : ByteArray} (h : Blk w g k f t b) (o : Obj) : Blk (w.alloc o) g k f t b := h.below ((Grw.refl w).alloc o).below h.lt
theorem Blk.put {w : World} {g : Nat} {k f t : Int} {b : ByteArray} (h : Blk w g k f t b) (k' f' t' : Int) (b' : ByteArray) : Blk (w.setRow g #[.int .i64 k', .int .i64 f', .int .i64 t', .string b']) g k' f' t' b' := setRow_heap _ _ _ _ _ _ h
theorem Blk.put_other {w : World} {g : Nat} {k f t : Int} {b : ByteArray} (h : Blk w g k f t b) (i : Nat) (cs : Array Value) (hi : g ≠ i) : Blk (w.setRow i cs) g k f t b := (setRow_other _ _ _ _ hi).trans h
theorem Blk.free {w : World} {g : Nat} {k f t : Int} {b : ByteArray} (h : Blk w g k f t b) (i : Nat) : w.frozen? ⟨g, i, none⟩ = false := by
  unfold World.frozen?
  rw [h.is]
  simp
theorem Blk.set_other {w : World} {g : Nat} {k f t : Int} {b : ByteArray} (h : Blk w g k f t b) (i j : Nat) (v : Value) (hi : g ≠ i) : Blk (w.setCell ⟨i, j, none⟩ v) g k f t b :=
  (Below.heap_setCell _ _ _ _ hi).trans h
theorem frame_size : (Try.prog.info? 56).map (·.size) = some 4 := by kernel_rfl

theorem frame_one (k f t : Int) (b : ByteArray) : (#[.int .i64 k, .int .i64 f, .int .i64 t, .string b] : Array Value).all (·.oneCell') = true := by simp [Value.oneCell']
/-- A frame stored, whole. -/
theorem store_frame {ops : Array Oper} {rest : List Oper} {o : Oper} {a : Act} {w : World} {Q : Exit → Act → World → Prop} (hgd : o.guard = none) (x y : Operand) (ho : o.op = .store 56 x y)
    (g : Nat) (k f t : Int) (b : ByteArray) (hx : a.eval x = .pointer (some ⟨g, 0, none⟩)) (hy : a.eval y = .agg #[.int .i64 k, .int .i64 f, .int .i64 t, .string b])
    {k0 f0 t0 : Int} {b0 : ByteArray} (hg : Blk w g k0 f0 t0 b0)
    (h : wpList Try.prog ops Q rest (a.put o.dst undef) (w.setRow g #[.int .i64 k, .int .i64 f, .int .i64 t, .string b])) : wpList Try.prog ops Q (o :: rest) a w :=
  wpList_store_row hgd 56 x y ho g _ hx hy 56 _ hg frame_size rfl (frame_one k f t b) h

/-- Handed back: what a block holds, and a number. -/
theorem results_frame {fn : Func} {p u : Tmp} (h : fn.results = #[.cell p 56, .tmp u]) (tmps : Array Value) (w : World) (g : Nat) {k f t : Int} {b : ByteArray}
    (hp : tmps.getD p undef = .pointer (some ⟨g, 0, none⟩)) (hg : Blk w g k f t b) :
    (results fn tmps).run Try.prog w = .ok (.tuple #[.agg #[.int .i64 k, .int .i64 f, .int .i64 t, .string b], tmps.getD u undef]) w := by
  rw [results_cell_tmp h, hp]
  have hl := run_loadVar_row (P := Try.prog) w g 56 56 #[.int .i64 k, .int .i64 f, .int .i64 t, .string b] (0, 0) _ hg Try.underlying56 rfl frame_size
  simp [asAddr, hl, Result.andThen]

theorem num1 (w : World) (b : Nat) (s : ByteArray) (a a' x : Nat) (h : Rd w b s a) (ha : a + 1 = a') (hm : a' ≤ s.size) (hx : byteAt s a = x) :
    Calls Try.prog 45 #[.pointer (some ⟨b, 0, none⟩), .int .i64 1] w fun e w' => e = .returned (.int .u64 (x : Int)) ∧ Rd w' b s a' ∧ w.grownBy w' (some b) := by
  subst ha hx
  have h1 : (wid 1).toNat = 1 := by decide
  have := num_yes w b s a 1 h (by rw [h1]; exact hm)
  rw [h1, be_one hm] at this
  exact this
theorem num2 (w : World) (b : Nat) (s : ByteArray) (a a' x : Nat) (h : Rd w b s a) (ha : a + 2 = a') (hm : a' ≤ s.size) (hx : byteAt s a * 256 + byteAt s (a + 1) = x) :
    Calls Try.prog 45 #[.pointer (some ⟨b, 0, none⟩), .int .i64 2] w fun e w' => e = .returned (.int .u64 (x : Int)) ∧ Rd w' b s a' ∧ w.grownBy w' (some b) := by
  subst ha hx
  have h1 : (wid 2).toNat = 2 := by decide
  have := num_yes w b s a 2 h (by rw [h1]; exact hm)
  rw [h1, be_two hm] at this
  exact this

/-- A reader at a place, a result of nothing yet; below the reader nothing has turned. -/
structure St (w0 w : World) (b g : Nat) (s : ByteArray) (a : Nat) : Prop where
  rd : Rd w b s a
  blk : Blk w g 0 0 0 { data := #[] }
  lt : b < g
  below : Below b w0 w
theorem St.lt' {w0 w : World} {b g : Nat} {s : ByteArray} {a : Nat} (h : St w0 w b g s a) : b < w.heap.size := Nat.lt_trans h.lt h.blk.lt
theorem Rd.alloc {w : World} {b : Nat} {s : ByteArray} {a : Nat} (h : Rd w b s a) (o : Obj) : Rd (w.alloc o) b s a := h.after ((Grw.refl w).alloc o).below
theorem St.begin {w : World} {b : Nat} {s : ByteArray} {a : Nat} (h : Rd w b s a) :
    St w (w.alloc (.cells #[.int .i64 0, .int .i64 0, .int .i64 0, .string { data := #[] }] 56)) b w.heap.size s a :=
  have hb : b < w.heap.size := World.block_lt_of_cell? _ _ h.text
  ⟨h.alloc _, Blk.new _ _ _ _ _, hb, (Below.refl _ _).alloc (Nat.le_of_lt hb) _⟩
theorem St.later {w0 w w' : World} {b g : Nat} {s : ByteArray} {a : Nat} (h : St w0 w b g s a) (hb : Below w.heap.size w w') : St w0 w' b g s a :=
  ⟨h.rd.after hb, h.blk.below hb h.blk.lt, h.lt, h.below.trans (hb.mono (Nat.le_of_lt h.lt'))⟩
theorem St.alloc {w0 w : World} {b g : Nat} {s : ByteArray} {a : Nat} (h : St w0 w b g s a) (o : Obj) : St w0 (w.alloc o) b g s a := h.later ((Grw.refl w).alloc o).below
theorem St.go {w0 w w' : World} {b g : Nat} {s : ByteArray} {a a' : Nat} (h : St w0 w b g s a) (hr : Rd w' b s a') (hg : w.grownBy w' (some b)) : St w0 w' b g s a' :=
  ⟨hr, h.blk.grown hg (by intro e; cases e; exact Nat.lt_irrefl _ h.lt), h.lt, h.below.grown hg (Nat.le_of_lt h.lt') (fun k hk => by cases hk; exact Nat.le_refl _)⟩
theorem St.num1 {w0 w : World} {b g : Nat} {s : ByteArray} {a : Nat} (a' x : Nat) (h : St w0 w b g s a) (ha : a + 1 = a') (hm : a' ≤ s.size) (hx : byteAt s a = x) :
    Calls Try.prog 45 #[.pointer (some ⟨b, 0, none⟩), .int .i64 1] w fun e w' => e = .returned (.int .u64 (x : Int)) ∧ St w0 w' b g s a' :=
  (Go.Proofs.Ytibngfpjdookkaa.num1 w b s a a' x h.rd ha hm hx).mono fun _ _ ⟨he, hr, hg⟩ => ⟨he, h.go hr hg⟩
/-- The same, and another block stays. -/
structure St2 (w0 w : World) (b g : Nat) (s : ByteArray) (a : Nat) (g' : Nat) (k f t : Int) (x : ByteArray) : Prop where
  st : St w0 w b g s a
  fr : Blk w g' k f t x
  lt : g < g'
theorem St2.later {w0 w w' : World} {b g : Nat} {s : ByteArray} {a : Nat} {g' : Nat} {k f t : Int} {x : ByteArray} (h : St2 w0 w b g s a g' k f t x) (hb : Below w.heap.size w w') : St2 w0 w' b g s a g' k f t x :=
  ⟨h.st.later hb, h.fr.below hb h.fr.lt, h.lt⟩
theorem St2.go {w0 w w' : World} {b g : Nat} {s : ByteArray} {a a' : Nat} {g' : Nat} {k f t : Int} {x : ByteArray} (h : St2 w0 w b g s a g' k f t x) (hr : Rd w' b s a') (hg : w.grownBy w' (some b)) : St2 w0 w' b g s a' g' k f t x :=
  ⟨h.st.go hr hg, h.fr.grown hg (by intro e; cases e; have := h.lt; have := h.st.lt; omega), h.lt⟩
theorem St2.begin {w0 w : World} {b g : Nat} {s : ByteArray} {a : Nat} (h : St w0 w b g s a) (k f t : Int) (x : ByteArray) :
    St2 w0 (w.alloc (.cells #[.int .i64 k, .int .i64 f, .int .i64 t, .string x] 56)) b g s a w.heap.size k f t x :=
  ⟨h.alloc _, Blk.new _ _ _ _ _, h.blk.lt⟩
theorem St2.num2 {w0 w : World} {b g : Nat} {s : ByteArray} {a : Nat} {g' : Nat} {k f t : Int} {x : ByteArray} (a' y : Nat) (h : St2 w0 w b g s a g' k f t x) (ha : a + 2 = a') (hm : a' ≤ s.size) (hx : byteAt s a * 256 + byteAt s (a + 1) = y) :
    Calls Try.prog 45 #[.pointer (some ⟨b, 0, none⟩), .int .i64 2] w fun e w' => e = .returned (.int .u64 (y : Int)) ∧ St2 w0 w' b g s a' g' k f t x :=
  (Go.Proofs.Ytibngfpjdookkaa.num2 w b s a a' y h.st.rd ha hm hx).mono fun _ _ ⟨he, hr, hg⟩ => ⟨he, h.go hr hg⟩
theorem St2.left {w0 w : World} {b g : Nat} {s : ByteArray} {a : Nat} {g' : Nat} {k f t : Int} {x : ByteArray} (h : St2 w0 w b g s a g' k f t x) (n : Int) (hn : (s.size : Int) - a = n) :
    Calls Try.prog 23 #[.pointer (some ⟨b, 0, none⟩)] w fun e w' => e = .returned (.int .i64 n) ∧ Grw w w' := by
  subst hn
  exact (left_any w b s a h.st.rd).mono fun _ _ ⟨he, m, hm⟩ => ⟨he, by rw [hm]; exact (Grw.refl w).drewN m⟩
end Go.Proofs.Ytibngfpjdookkaa
