/- Layer 18: views and records in memory; rows of them of the call's own. -/
import Derived.Test.YtblefbjmjhgkkaaZVoMath
import Derived.Test.YtblefbjmjhgkkaaZGrws
import Derived.Deep.MidRow
import Derived.Deep.AppendLies
import Derived.Laws.AppendOwnNone
import Derived.Laws.StructEq
import Derived.Deep.DeepCutAuto
import Derived.Deep.RegionHeld3
import Derived.WalkMore
import Derived.BigQuiet
import Derived.BigRegion
import Derived.Lib.MinMax
set_option linter.unusedVariables false
set_option maxRecDepth 100000
set_option linter.unusedSimpArgs false
namespace Go.Proofs.Ytblefbjmjhgkkaa
open Go.RowKit Go.Sort

def encV (v : Vw) : List Value := [.int .u64 (v.n : Int), .int .u64 (v.e : Int), .int .i64 v.r, .int .u64 (v.m : Int)]
def valV (v : Vw) : Value := .agg (encV v).toArray
theorem encV_length (v : Vw) : (encV v).length = 4 := rfl
theorem encV_one (v : Vw) : ∀ u ∈ encV v, u.oneCell' = true := by unfold encV; simp [Value.oneCell']
theorem encV_inj {a b : Vw} (h : encV a = encV b) : a = b := by
  obtain ⟨n, e, r, m⟩ := a
  obtain ⟨n', e', r', m'⟩ := b
  unfold encV at h
  simp only [List.cons.injEq, Value.int.injEq, true_and, and_true, Int.natCast_inj] at h
  obtain ⟨rfl, rfl, rfl, rfl⟩ := h
  rfl
/-- A record: where what is pending lies. -/
structure Rcv where
  p : Rp
  a : Option Addr
  k : Nat
  c : Nat
def encRc (x : Rcv) : List Value := [.int .u64 (x.p.last.n : Int), .int .u64 (x.p.last.e : Int), .int .i64 x.p.last.r, .int .u64 (x.p.last.m : Int), .slice x.a x.k x.c]
def valRc (x : Rcv) : Value := .agg (encRc x).toArray
theorem encRc_length (x : Rcv) : (encRc x).length = 5 := rfl
theorem encRc_one (x : Rcv) : ∀ u ∈ encRc x, u.oneCell' = true := by unfold encRc; simp [Value.oneCell']
/-- A slice of views that are there. -/
structure VwL (w : World) (a : Option Addr) (n : Nat) (L : List Vw) : Prop where
  at_ : Lst encV 4 w a n L
  ok : ∀ v ∈ L, v.ok
theorem VwL.below {w w' : World} {a : Option Addr} {n : Nat} {L : List Vw} (h : VwL w a n L) (hb : Below w.heap.size w w') : VwL w' a n L := ⟨h.at_.below hb, h.ok⟩
theorem VwL.row {w : World} {a : Option Addr} {n k : Nat} {L : List Vw} (h : VwL w a n L) (hk : k < n) : ∃ b o v, a = some ⟨b, o, none⟩ ∧ L[k]? = some v ∧ w.rangeAt b (o + k * 4) (encV v) ∧ v.ok := by
  obtain ⟨b, o, e, hr⟩ := h.at_.src (by omega)
  have hl : k < L.length := by rw [h.at_.size]; exact hk
  exact ⟨b, o, L[k], e, List.getElem?_eq_getElem hl, fun j u hj => hr k _ (List.getElem?_eq_getElem hl) j u hj, h.ok _ (List.getElem_mem hl)⟩
/-- What a record leans on is there. -/
structure RcIn (w : World) (x : Rcv) : Prop where
  pend : VwL w x.a x.k x.p.pend
  last : x.p.last.ok
  nil : x.a = none → x.c = 0
theorem RcIn.below {w w' : World} {x : Rcv} (h : RcIn w x) (hb : Below w.heap.size w w') : RcIn w' x := ⟨h.pend.below hb, h.last, h.nil⟩
theorem RcIn.ok {w : World} {x : Rcv} (h : RcIn w x) : x.p.ok := ⟨h.last, h.pend.ok⟩
theorem RcIn.len {w : World} {x : Rcv} (h : RcIn w x) : x.p.pend.length = x.k := h.pend.at_.size
/-- A slice of records that are there. -/
structure RcL (w : World) (a : Option Addr) (n : Nat) (l : List Rcv) : Prop where
  at_ : Lst encRc 5 w a n l
  in_ : ∀ x ∈ l, RcIn w x
theorem RcL.below {w w' : World} {a : Option Addr} {n : Nat} {l : List Rcv} (h : RcL w a n l) (hb : Below w.heap.size w w') : RcL w' a n l := ⟨h.at_.below hb, fun x hx => (h.in_ x hx).below hb⟩
theorem RcL.row {w : World} {a : Option Addr} {n k : Nat} {l : List Rcv} (h : RcL w a n l) (hk : k < n) : ∃ b o x, a = some ⟨b, o, none⟩ ∧ l[k]? = some x ∧ w.rangeAt b (o + k * 5) (encRc x) ∧ RcIn w x := by
  obtain ⟨b, o, e, hr⟩ := h.at_.src (by omega)
  have hl : k < l.length := by rw [h.at_.size]; exact hk
  exact ⟨b, o, l[k], e, List.getElem?_eq_getElem hl, fun j u hj => hr k _ (List.getElem?_eq_getElem hl) j u hj, h.in_ _ (List.getElem_mem hl)⟩
/-- The plain records. -/
def psL (l : List Rcv) : List Rp := l.map Rcv.p
theorem RcL.ok {w : World} {a : Option Addr} {n : Nat} {l : List Rcv} (h : RcL w a n l) : ∀ r ∈ psL l, r.ok := fun r hr => by
  obtain ⟨x, hx, rfl⟩ := List.mem_map.1 hr
  exact (h.in_ x hx).ok
theorem psL_take {l : List Rcv} {k : Nat} {x : Rcv} (h : l[k]? = some x) : psL (l.take (k + 1)) = psL (l.take k) ++ [x.p] := by
  unfold psL
  rw [List.take_add_one, h, List.map_append]; rfl
theorem take_snocV {α : Type} {l : List α} {k : Nat} {x : α} (h : l[k]? = some x) : l.take (k + 1) = l.take k ++ [x] := by rw [List.take_add_one, h]; rfl

theorem vw_size : (Try.prog.info? 28).map (·.size) = some 4 := by kernel_rfl
theorem rc_size : (Try.prog.info? 31).map (·.size) = some 5 := by kernel_rfl
theorem rd_size : (Try.prog.info? 37).map (·.size) = some 5 := by kernel_rfl
section
variable {ops : Array Oper} {rest : List Oper} {o : Oper} {A : Act} {w : World} {Q : Exit → Act → World → Prop}
theorem load_vwm (hgd : o.guard = none) (x : Operand) (ho : o.op = .load 28 x)
    (b q : Nat) (v : Vw) (hx : A.eval x = .pointer (some ⟨b, q, none⟩)) (hc : w.rangeAt b q (encV v))
    (h : wpList Try.prog ops Q rest (A.put o.dst (.agg #[.int .u64 (v.n : Int), .int .u64 (v.e : Int), .int .i64 v.r, .int .u64 (v.m : Int)])) w) : wpList Try.prog ops Q (o :: rest) A w :=
  wpList_load_mid hgd 28 x ho b q hx (encV v) _ hc Try.underlying28 rfl vw_size h
theorem load_rcm (hgd : o.guard = none) (x : Operand) (ho : o.op = .load 31 x)
    (b q : Nat) (v : Rcv) (hx : A.eval x = .pointer (some ⟨b, q, none⟩)) (hc : w.rangeAt b q (encRc v))
    (h : wpList Try.prog ops Q rest (A.put o.dst (.agg #[.int .u64 (v.p.last.n : Int), .int .u64 (v.p.last.e : Int), .int .i64 v.p.last.r, .int .u64 (v.p.last.m : Int), .slice v.a v.k v.c])) w) : wpList Try.prog ops Q (o :: rest) A w :=
  wpList_load_mid hgd 31 x ho b q hx (encRc v) _ hc Try.underlying31 rfl rc_size h
end
/-- A block that holds a view, and one that holds a record. -/
def VwB (w : World) (g : Nat) (v : Vw) : Prop := Own w g 28 (encV v).toArray
def RcvB (w : World) (g : Nat) (x : Rcv) : Prop := Own w g 31 (encRc x).toArray
theorem VwB.own {w : World} {g : Nat} {v : Vw} (h : VwB w g v) : Own w g 28 #[.int .u64 (v.n : Int), .int .u64 (v.e : Int), .int .i64 v.r, .int .u64 (v.m : Int)] := h
theorem RcvB.own {w : World} {g : Nat} {x : Rcv} (h : RcvB w g x) : Own w g 31 #[.int .u64 (x.p.last.n : Int), .int .u64 (x.p.last.e : Int), .int .i64 x.p.last.r, .int .u64 (x.p.last.m : Int), .slice x.a x.k x.c] := h
theorem VwB.new (w : World) (v : Vw) : VwB (w.alloc (.cells #[.int .u64 (v.n : Int), .int .u64 (v.e : Int), .int .i64 v.r, .int .u64 (v.m : Int)] 28)) w.heap.size v := Own.new w _ _
theorem VwB.zero (w : World) : VwB (w.alloc (.cells #[.int .u64 0, .int .u64 0, .int .i64 0, .int .u64 0] 28)) w.heap.size zeroV := Own.new w _ _
theorem RcvB.new (w : World) (x : Rcv) : RcvB (w.alloc (.cells #[.int .u64 (x.p.last.n : Int), .int .u64 (x.p.last.e : Int), .int .i64 x.p.last.r, .int .u64 (x.p.last.m : Int), .slice x.a x.k x.c] 31)) w.heap.size x := Own.new w _ _
theorem VwB.later {w w' : World} {g : Nat} {v : Vw} (h : VwB w g v) (hb : Below w.heap.size w w') : VwB w' g v := Own.below h hb (Own.lt h)
theorem RcvB.later {w w' : World} {g : Nat} {x : Rcv} (h : RcvB w g x) (hb : Below w.heap.size w w') : RcvB w' g x := Own.below h hb (Own.lt h)
theorem VwB.lt {w : World} {g : Nat} {v : Vw} (h : VwB w g v) : g < w.heap.size := Own.lt h
theorem RcvB.lt {w : World} {g : Nat} {x : Rcv} (h : RcvB w g x) : g < w.heap.size := Own.lt h
theorem VwB.row {w : World} {g : Nat} {v : Vw} (h : VwB w g v) (x : Vw) : VwB (w.setRow g (encV x).toArray) g x := setRow_heap _ _ _ _ _ _ h
theorem RcvB.row {w : World} {g : Nat} {v : Rcv} (h : RcvB w g v) (x : Rcv) : RcvB (w.setRow g (encRc x).toArray) g x := setRow_heap _ _ _ _ _ _ h
section
variable {ops : Array Oper} {rest : List Oper} {o : Oper} {A : Act} {w : World} {Q : Exit → Act → World → Prop}
theorem store_vw (hgd : o.guard = none) (x y : Operand) (ho : o.op = .store 28 x y)
    (g : Nat) (v : Vw) (hx : A.eval x = .pointer (some ⟨g, 0, none⟩)) (hy : A.eval y = .agg #[.int .u64 (v.n : Int), .int .u64 (v.e : Int), .int .i64 v.r, .int .u64 (v.m : Int)]) {v0 : Vw} (hg : VwB w g v0)
    (h : wpList Try.prog ops Q rest (A.put o.dst undef) (w.setRow g (encV v).toArray)) : wpList Try.prog ops Q (o :: rest) A w :=
  wpList_store_row hgd 28 x y ho g _ hx hy 28 _ hg vw_size rfl (by simp [Value.oneCell']) h
theorem load_vw (hgd : o.guard = none) (x : Operand) (ho : o.op = .load 28 x)
    (g : Nat) (hx : A.eval x = .pointer (some ⟨g, 0, none⟩)) {v : Vw} (hg : VwB w g v)
    (h : wpList Try.prog ops Q rest (A.put o.dst (.agg #[.int .u64 (v.n : Int), .int .u64 (v.e : Int), .int .i64 v.r, .int .u64 (v.m : Int)])) w) : wpList Try.prog ops Q (o :: rest) A w :=
  wpList_load_row hgd 28 x ho g hx 28 _ _ _ hg Try.underlying28 rfl vw_size h
theorem store_rcv (hgd : o.guard = none) (x y : Operand) (ho : o.op = .store 31 x y)
    (g : Nat) (v : Rcv) (hx : A.eval x = .pointer (some ⟨g, 0, none⟩)) (hy : A.eval y = .agg #[.int .u64 (v.p.last.n : Int), .int .u64 (v.p.last.e : Int), .int .i64 v.p.last.r, .int .u64 (v.p.last.m : Int), .slice v.a v.k v.c]) {v0 : Rcv} (hg : RcvB w g v0)
    (h : wpList Try.prog ops Q rest (A.put o.dst undef) (w.setRow g (encRc v).toArray)) : wpList Try.prog ops Q (o :: rest) A w :=
  wpList_store_row hgd 31 x y ho g _ hx hy 31 _ hg rc_size rfl (by simp [Value.oneCell']) h
theorem load_rc (hgd : o.guard = none) (x : Operand) (ho : o.op = .load 31 x)
    (g : Nat) (hx : A.eval x = .pointer (some ⟨g, 0, none⟩)) {v : Rcv} (hg : RcvB w g v)
    (h : wpList Try.prog ops Q rest (A.put o.dst (.agg #[.int .u64 (v.p.last.n : Int), .int .u64 (v.p.last.e : Int), .int .i64 v.p.last.r, .int .u64 (v.p.last.m : Int), .slice v.a v.k v.c])) w) : wpList Try.prog ops Q (o :: rest) A w :=
  wpList_load_row hgd 31 x ho g hx 31 _ _ _ hg Try.underlying31 rfl rc_size h
end
theorem results_vw {fn : Func} {p : Tmp} (h : fn.results = #[.cell p 28]) (tmps : Array Value) (w : World) (g : Nat) {v : Vw} (hp : tmps.getD p undef = .pointer (some ⟨g, 0, none⟩)) (hg : VwB w g v) :
    (results fn tmps).run Try.prog w = .ok (valV v) w :=
  results_cell_row h tmps w g 28 _ (0, 0) _ hp hg Try.underlying28 rfl vw_size
theorem results_rc {fn : Func} {p : Tmp} (h : fn.results = #[.cell p 31]) (tmps : Array Value) (w : World) (g : Nat) {v : Rcv} (hp : tmps.getD p undef = .pointer (some ⟨g, 0, none⟩)) (hg : RcvB w g v) :
    (results fn tmps).run Try.prog w = .ok (valRc v) w :=
  results_cell_row h tmps w g 31 _ (0, 0) _ hp hg Try.underlying31 rfl rc_size
theorem results_rcb {fn : Func} {p u : Tmp} (h : fn.results = #[.cell p 31, .tmp u]) (tmps : Array Value) (w : World) (g : Nat) {v : Rcv}
    (hp : tmps.getD p undef = .pointer (some ⟨g, 0, none⟩)) (hg : RcvB w g v) :
    (results fn tmps).run Try.prog w = .ok (.tuple #[valRc v, tmps.getD u undef]) w := by
  rw [results_cell_tmp h, hp]
  have hl := run_loadVar_row (P := Try.prog) w g 31 31 (encRc v).toArray (0, 0) _ hg Try.underlying31 rfl rc_size
  simp [asAddr, hl, Result.andThen]
  rfl
theorem belowRow18 {B : Nat} {a w : World} (h : Below B a w) (g : Nat) (hg : B ≤ g) (cs : Array Value) : Below B a (w.setRow g cs) :=
  ⟨h.os, h.tape, h.output, by rw [size_setRow]; exact h.size, fun k hk => (setRow_other _ _ _ _ (by omega)).trans (h.block k hk)⟩

theorem flatE_one {α : Type} {enc : α → List Value} (h1 : ∀ x, ∀ u ∈ enc x, u.oneCell' = true) {l : List α} : ∀ u ∈ flat enc l, u.oneCell' = true := by
  intro u hu
  unfold flat at hu
  obtain ⟨c, hc, huc⟩ := List.mem_flatten.1 hu
  obtain ⟨m, _, rfl⟩ := List.mem_map.1 hc
  exact h1 m u huc
theorem add_lit18 (b o j : Nat) : (⟨b, o, none⟩ : Addr).add j = ⟨b, o + j, none⟩ := by cases j <;> simp [Addr.add]
theorem own_below18 {w w' : World} {base n k : Nat} {t : TypeId} {v : Value} {xs : List Value} (h : w.ownsRow base t k v n xs) (hb : Below w.heap.size w w') : w'.ownsRow base t k v n xs := by
  refine ⟨h.1, ?_⟩
  rcases h.2 with h1 | ⟨g, cap, cur, h1, h2, h3, h4⟩
  · exact .inl h1
  · exact .inr ⟨g, cap, cur, h1, h2, (hb.block g (Array.getElem?_eq_some_iff.1 h3).1).trans h3, h4⟩
theorem own_at18 {w : World} {base n k : Nat} {t : TypeId} {v : Value} {xs : List Value} (h : w.ownsRow base t k v n xs) : ∀ g, v.ownBlock = some g → base ≤ g ∧ g < w.heap.size := by
  intro g hg
  rcases h.2 with ⟨rfl, _⟩ | ⟨g', c, cur, rfl, hb, h3, _⟩
  · simp [Value.ownBlock] at hg
  · simp [Value.ownBlock] at hg
    subst hg
    exact ⟨hb, (Array.getElem?_eq_some_iff.1 h3).1⟩
/-- Behind an append all that lies ahead of the row's base stands. -/
theorem grown_belowV {w0 w w' : World} {B n k : Nat} {t : TypeId} {v : Value} {xs : List Value} (hB : Below B w0 w) (h0 : B ≤ w0.heap.size) (h : w.ownsRow B t k v n xs) (hg : w.grownBy w' v.ownBlock) : Below B w0 w' :=
  hB.grown hg (Nat.le_trans h0 hB.size) fun g hv => (own_at18 h g hv).1
theorem wp_append18 {α : Type} {enc : α → List Value} {k bytes : Nat} {z : Value} (T E : TypeId) (hT : Try.prog.underlying T = some (.slice E)) (hI : (Try.prog.info? E).map (fun i => (i.zero, i.size, i.bytes)) = some (some z, k, bytes)) (hzk : z.cells.size = k) (hk : 0 < k) (hkb : bytes ≤ 128)
    (henc : ∀ x, (enc x).length = k) (hone : ∀ x, ∀ u ∈ enc x, u.oneCell' = true)
    (w : World) {o : Oper} {a : Act} {K : Act → World → Prop} {Q : Exit → Act → World → Prop} (s x : Operand)
    (ho : o.op = .call { callee := .builtin .append, args := #[s, x], argTypes := #[T, T] })
    (base : Nat) (v : Value) (n : Nat) (xs : List Value) (hs : a.eval s = v) (hown : w.ownsRow base E k v n xs)
    (ao : Option Addr) (m c : Nat) (l : List α) (hx : a.eval x = .slice ao m c) (hnil : ao = none → c = 0) (hl : Lst enc k w ao m l) (hn : n + m ≤ 200000) (hbase : base ≤ w.heap.size)
    (h : ∀ v' w', w'.ownsRow base E k v' (n + m) (xs ++ flat enc l) → w.grownBy w' v.ownBlock → K (a.put o.dst v') w') : o.wp Try.prog a w K Q := by
  obtain ⟨i0, hi, hz0, hz1, hz2⟩ := info_parts hI
  cases ao with
  | none =>
    have hm : m = 0 := by
      rcases Nat.eq_zero_or_pos m with e | e
      · exact e
      · obtain ⟨b, o', e', _⟩ := hl.src e; cases e'
    subst hm
    have hc := hnil rfl
    subst hc
    have hl0 : l = [] := List.eq_nil_of_length_eq_zero hl.size
    subst hl0
    have hrun := run_append_owned_none (P := Try.prog) (w := w) base T o.type E i0 k hT hi v n xs hown
    unfold Oper.wp
    simp [execOp, ho, resolve, invoke, builtin, hs, hx, hrun, Result.andThen]
    exact h v w (by simpa [flat_nil] using hown) (World.grownBy.refl w _)
  | some ad =>
    have hb2 : (n + m) * bytes ≤ 200000 * 128 := Nat.mul_le_mul hn hkb
    refine wp_append_own w s x T ho base E i0 z k bytes hT hi hz0 hz1 hz2 hzk hk v n xs hs hown ad m c (flat enc l) hx (by rw [flat_length enc k henc, hl.size]) (fun j u hu => ?_) (flatE_one hone) (by unfold maxLen; omega) (by omega) hbase (fun v' w' h1 h2 _ => h v' w' h1 h2)
    have hj : j < m * k := by have := (List.getElem?_eq_some_iff.1 hu).1; rw [flat_length enc k henc, hl.size] at this; exact this
    obtain ⟨b, o', e', R⟩ := hl.src (Nat.pos_of_ne_zero fun e => by subst e; simp at hj)
    cases e'
    rw [add_lit18]
    exact R.flat henc j u hu
def zeroVw : Value := .agg #[.int .u64 0, .int .u64 0, .int .i64 0, .int .u64 0]
theorem infoVw : (Try.prog.info? 28).map (fun i => (i.zero, i.size, i.bytes)) = some (some zeroVw, 4, 32) := by kernel_rfl
def zeroRcV : Value := .agg #[.int .u64 0, .int .u64 0, .int .i64 0, .int .u64 0, .slice none 0 0]
theorem infoRc : (Try.prog.info? 31).map (fun i => (i.zero, i.size, i.bytes)) = some (some zeroRcV, 5, 56) := by kernel_rfl
theorem infoRd : (Try.prog.info? 37).map (fun i => (i.zero, i.size, i.bytes)) = some (some zeroRcV, 5, 56) := by kernel_rfl
section
variable (w : World) {ops : Array Oper} {rest : List Oper} {o : Oper} {a : Act} {Q : Exit → Act → World → Prop}
/-- 'append' of views onto a row of the call's own. -/
theorem append_vw (hgd : o.guard = none) (s x : Operand)
    (ho : o.op = .call { callee := .builtin .append, args := #[s, x], argTypes := #[29, 29] })
    (base : Nat) (v : Value) (n : Nat) (xs : List Value) (hs : a.eval s = v) (hown : w.ownsRow base 28 4 v n xs)
    (ao : Option Addr) (m c : Nat) (l : List Vw) (hx : a.eval x = .slice ao m c) (hnil : ao = none → c = 0) (hl : Lst encV 4 w ao m l) (hn : n + m ≤ 200000) (hbase : base ≤ w.heap.size)
    (h : ∀ v' w', w'.ownsRow base 28 4 v' (n + m) (xs ++ flat encV l) → w.grownBy w' v.ownBlock → wpList Try.prog ops Q rest (a.put o.dst v') w') : wpList Try.prog ops Q (o :: rest) a w :=
  wpList_plain hgd fun K' hK' => wp_append18 29 28 Try.underlying29 infoVw rfl (by decide) (by decide) encV_length encV_one w s x ho base v n xs hs hown ao m c l hx hnil hl hn hbase fun v' w' h1 h2 => hK' _ _ (h v' w' h1 h2)
end
/-- One view in a block of its own, as a slice. -/
theorem vw_lst {w : World} {g : Nat} {v : Vw} (h : VwB w g v) : Lst encV 4 w (some ⟨g, 0, none⟩) 1 [v] := ⟨rfl, fun _ => ⟨g, 0, rfl, fun i y hy j u hu => by
  cases i with
  | zero =>
    cases hy
    rw [show 0 + 0 * 4 + j = j by omega]
    exact Own.at_ h j u (by rw [← List.getElem?_toArray] at hu; exact hu)
  | succ i => cases hy⟩⟩
theorem rc_lst {w : World} {g : Nat} {x : Rcv} (h : RcvB w g x) : Lst encRc 5 w (some ⟨g, 0, none⟩) 1 [x] := ⟨rfl, fun _ => ⟨g, 0, rfl, fun i y hy j u hu => by
  cases i with
  | zero =>
    cases hy
    rw [show 0 + 0 * 5 + j = j by omega]
    exact Own.at_ h j u (by rw [← List.getElem?_toArray] at hu; exact hu)
  | succ i => cases hy⟩⟩
/-- A row of views of the call's own, read as a slice. -/
theorem own_vws {w : World} {base n c : Nat} {ao : Option Addr} {L : List Vw} (h : w.ownsRow base 28 4 (.slice ao n c) n (flat encV L)) (hl : L.length = n) (ok : ∀ v ∈ L, v.ok) : VwL w ao n L := ⟨own_lst' encV_length hl h, ok⟩
theorem own_nil18 {w : World} {base n k c : Nat} {t : TypeId} {ao : Option Addr} {xs : List Value} (h : w.ownsRow base t k (.slice ao n c) n xs) : ao = none → c = 0 := by
  intro e
  subst e
  rcases own_cases h with ⟨e1, _⟩ | ⟨g, cap, e1, _⟩
  · injection e1
  · injection e1 with e2; cases e2

/-- Two views held against each other. -/
theorem held_vw : Try.prog.stoodInHeld 28 = false := by kernel_rfl
theorem held_cf : Try.prog.stoodInHeld 26 = false := by kernel_rfl
theorem guard_vw : Try.prog.eqGuardType Try.prog.depth 28 = false := by kernel_rfl
theorem equal_vw (k : Nat) (a b c d a' b' c' d' : Int) (w : World) : (Op.equalIn (k + 3) 28 (.agg #[.int .u64 a, .int .u64 b, .int .i64 c, .int .u64 d]) (.agg #[.int .u64 a', .int .u64 b', .int .i64 c', .int .u64 d'])).run Try.prog w =
    .ok (decide (a = a') && (decide (b = b') && decide (c = c')) && decide (d = d')) w := by
  have hp := held_vw
  have hq := held_cf
  by_cases ha : a = a'
  case neg =>
    have q : (a == a') = false := by simpa using ha
    go_simp
  case pos =>
    subst ha
    by_cases hb : b = b'
    case neg =>
      have q : (b == b') = false := by simpa using hb
      go_simp
    case pos =>
      subst hb
      by_cases hc : c = c'
      case neg =>
        have q : (c == c') = false := by simpa using hc
        go_simp
      case pos =>
        subst hc
        by_cases hd : d = d'
        case neg =>
          have q : (d == d') = false := by simpa using hd
          go_simp
        case pos =>
          subst hd
          go_simp
theorem same_vw (x y : Vw) : (decide ((x.n : Int) = y.n) && (decide ((x.e : Int) = y.e) && decide (x.r = y.r)) && decide ((x.m : Int) = y.m)) = decide (x = y) := by
  rw [Bool.eq_iff_iff]
  obtain ⟨a, b, c, d⟩ := x
  obtain ⟨a', b', c', d'⟩ := y
  simp only [Bool.and_eq_true, decide_eq_true_eq, Vw.mk.injEq]
  omega
theorem neq_vw (x y : Vw) (w : World) : (binOp .neq 28 (valV x) (valV y)).run Try.prog w = .ok (.bool (!decide (x = y))) w := by
  show (binOp .neq 28 (.agg #[_, _, _, _]) (.agg #[_, _, _, _])).run Try.prog w = _
  rw [run_neq_struct, equal_vw 9997, same_vw]
  rfl
theorem eql_vw (x y : Vw) (w : World) : (binOp .eql 28 (valV x) (valV y)).run Try.prog w = .ok (.bool (decide (x = y))) w := by
  show (binOp .eql 28 (.agg #[_, _, _, _]) (.agg #[_, _, _, _])).run Try.prog w = _
  rw [run_eql_struct, equal_vw 9997, same_vw]
  rfl
end Go.Proofs.Ytblefbjmjhgkkaa
