/- Layer 19: reading an item, kind by kind. (Written by a program.) -/
import Derived.Test.YtblefbjmjhgkkaaLgRec2
set_option linter.unusedVariables false
set_option maxRecDepth 100000
set_option linter.unusedSimpArgs false
namespace Go.Proofs.Ytblefbjmjhgkkaa
open Go.RowKit Go.Sort

theorem cell_set {w : World} {g h j i : Nat} {x v : Value} (hc : w.cell? ⟨h, i, none⟩ = some v) (hh : h ≠ g) : (w.setCell ⟨g, j, none⟩ x).cell? ⟨h, i, none⟩ = some v := by
  rw [World.cell?_of_block (heap_setCell_other w ⟨g, j, none⟩ h x hh)]; exact hc
/-- An item's eighteen cells. -/
def encI (x : Itm) (T : ByteArray) (a : Option Addr) (k c : Nat) : List Value :=
  [.int .i64 x.k, .string T, .int .u32 (x.inc : Int), .int .u64 (x.holds : Int), .bool x.has, .bool x.direct,
   .int .u64 (x.r.last.n : Int), .int .u64 (x.r.last.e : Int), .int .i64 x.r.last.r, .int .u64 (x.r.last.m : Int), .slice a k c,
   .int .u64 (x.view.n : Int), .int .u64 (x.view.e : Int), .int .i64 x.view.r, .int .u64 (x.view.m : Int), .int .u64 (x.num : Int), .int .i64 x.idx, .int .i64 x.tot]
theorem encI_one (x : Itm) (T : ByteArray) (a : Option Addr) (k c : Nat) : (encI x T a k c).toArray.all (·.oneCell') = true := by simp [encI, Value.oneCell']
theorem item_size : (Try.prog.info? 43).map (·.size) = some 18 := by kernel_rfl
theorem store_item {ops : Array Oper} {rest : List Oper} {o : Oper} {A : Act} {w : World} {Q : Exit → Act → World → Prop} (hgd : o.guard = none) (x y : Operand) (ho : o.op = .store 43 x y)
    (g : Nat) {p : Itm} {T : ByteArray} {a : Option Addr} {k c : Nat} (hx : A.eval x = .pointer (some ⟨g, 0, none⟩)) (hy : A.eval y = .agg (encI p T a k c).toArray)
    {p0 : Itm} {T0 : ByteArray} {a0 : Option Addr} {k0 c0 : Nat} (hg : Own w g 43 (encI p0 T0 a0 k0 c0).toArray)
    (h : wpList Try.prog ops Q rest (A.put o.dst undef) (w.setRow g (encI p T a k c).toArray)) : wpList Try.prog ops Q (o :: rest) A w :=
  wpList_store_row hgd 43 x y ho g _ hx hy 43 _ hg item_size rfl (encI_one _ _ _ _ _) h
theorem load_item {ops : Array Oper} {rest : List Oper} {o : Oper} {A : Act} {w : World} {Q : Exit → Act → World → Prop} (hgd : o.guard = none) (x : Operand) (ho : o.op = .load 43 x)
    (g : Nat) (hx : A.eval x = .pointer (some ⟨g, 0, none⟩)) {p : Itm} {T : ByteArray} {a : Option Addr} {k c : Nat} (hg : Own w g 43 (encI p T a k c).toArray)
    (h : wpList Try.prog ops Q rest (A.put o.dst (.agg (encI p T a k c).toArray)) w) : wpList Try.prog ops Q (o :: rest) A w :=
  wpList_load_row hgd 43 x ho g hx 43 _ _ _ hg Try.underlying43 rfl item_size h
theorem results_item {fn : Func} {p : Tmp} (h : fn.results = #[.cell p 43]) (tmps : Array Value) (w : World) (g : Nat) {q : Itm} {T : ByteArray} {a : Option Addr} {k c : Nat}
    (hp : tmps.getD p undef = .pointer (some ⟨g, 0, none⟩)) (hg : Own w g 43 (encI q T a k c).toArray) :
    (results fn tmps).run Try.prog w = .ok (.agg (encI q T a k c).toArray) w :=
  results_cell_row h tmps w g 43 _ (0, 0) _ hp hg Try.underlying43 rfl item_size
/-- An item of a kind, and of nothing else. -/
def itK (k : Int) : Itm := ⟨k, [], 0, 0, false, false, ⟨⟨0, 0, 0, 0⟩, []⟩, ⟨0, 0, 0, 0⟩, 0, 0, 0⟩
/-- What an item leans on: its text, and a row of the call's own. -/
structure OwnI (B : Nat) (w : World) (x : Itm) (T : ByteArray) (a : Option Addr) (k c : Nat) : Prop where
  text : T.data.toList = x.data
  row : w.ownsRow B 28 4 (.slice a k c) k (flat encV x.r.pend)
  len : x.r.pend.length = k
  few : k ≤ 32
theorem OwnI.zero (B : Nat) (w : World) (k : Int) : OwnI B w (itK k) { data := #[] } none 0 0 := ⟨rfl, World.ownsRow_nil _ _ _ _, rfl, Nat.zero_le _⟩
/-- What is read behind the kind, and what is left. -/
def getIt (k : Nat) (l : List UInt8) : Got Itm :=
  if k = 1 then .ok ({ zeroI with k := 1, data := l }, [])
  else if k = 2 then andG (getN 4 l) fun i r => andG (getN 8 r) fun h r => andG (getN 1 r) fun f r => badG 1 (3 < f) (andG (getRec r) fun x r => .ok ({ zeroI with k := 2, inc := i, holds := h, has := decide (f % 2 = 1), direct := decide (f / 2 = 1), r := x }, r))
  else if k = 3 then andG (getVw l) fun v r => .ok ({ zeroI with k := 3, view := v }, r)
  else andG (getN 8 l) fun n r => andG (getN 2 r) fun i r => andG (getN 2 r) fun t r => .ok ({ zeroI with k := 4, num := n, idx := (i : Int), tot := (t : Int), data := r }, [])
theorem getBody_it (k : Nat) (l : List UInt8) : getBody k l = endG (getIt k l) := by
  unfold getBody getIt
  by_cases h1 : k = 1
  · rw [if_pos h1, if_pos h1]; rfl
  · rw [if_neg h1, if_neg h1]
    by_cases h2 : k = 2
    · rw [if_pos h2, if_pos h2]
    · rw [if_neg h2, if_neg h2]
      by_cases h3 : k = 3
      · rw [if_pos h3, if_pos h3]
      · rw [if_neg h3, if_neg h3]
theorem getFl_it {β : Type} (l : List UInt8) (f : Nat → List UInt8 → Got β) : (andG (getN 1 l) fun n r => badG 1 (3 < n) (f n r)) = andG (getFl l) f := by
  unfold getFl
  cases getN 1 l with
  | error e => simp only [andG_err]
  | ok x =>
    obtain ⟨n, r⟩ := x
    simp only [andG_ok]
    unfold badG
    split
    · rfl
    · rfl
def ItD (B : Nat) (w' : World) (x : Itm) (val : Value) : Prop := ∃ T a k c, val = .agg (encI x T a k c).toArray ∧ OwnI B w' x T a k c
/-- An item that is being read. -/
structure ItSt (w W : World) (b : Nat) (s : ByteArray) (a : Nat) (x : Itm) (T : ByteArray) (pa : Option Addr) (pk pc : Nat) : Prop where
  rd : Rd W b s a
  box : W.cell? ⟨w.heap.size, 0, none⟩ = some (.pointer (some ⟨b, 0, none⟩))
  res : Own W (w.heap.size + 1) 43 (encI zeroI { data := #[] } none 0 0).toArray
  row : Own W (w.heap.size + 2) 43 (encI x T pa pk pc).toArray
  own : OwnI (w.heap.size + 3) W x T pa pk pc
  gr : w.grownBy W (some b)
  lt : b < w.heap.size
theorem OwnI.by_ {B b : Nat} {w w' : World} {x : Itm} {T : ByteArray} {a : Option Addr} {k c : Nat} (h : OwnI B w x T a k c) (hg : w.grownBy w' (some b)) (hb : b < B) : OwnI B w' x T a k c := ⟨h.text, own_by h.row hg hb, h.len, h.few⟩
theorem OwnI.set {B g : Nat} {w : World} {x : Itm} {T : ByteArray} {a : Option Addr} {k c : Nat} (h : OwnI B w x T a k c) (hg : g < B) (j : Nat) (v : Value) : OwnI B (w.setCell ⟨g, j, none⟩ v) x T a k c := ⟨h.text, own_set h.row hg j v, h.len, h.few⟩
theorem OwnI.setRow {B g : Nat} {w : World} {x : Itm} {T : ByteArray} {a : Option Addr} {k c : Nat} (h : OwnI B w x T a k c) (hg : g < B) (cs : Array Value) : OwnI B (w.setRow g cs) x T a k c := ⟨h.text, own_setRow h.row hg cs, h.len, h.few⟩
theorem OwnI.mono {B B' : Nat} {w : World} {x : Itm} {T : ByteArray} {a : Option Addr} {k c : Nat} (h : OwnI B w x T a k c) (hB : B' ≤ B) : OwnI B' w x T a k c := ⟨h.text, own_base h.row hB, h.len, h.few⟩
theorem ItSt.go {w W W' : World} {b : Nat} {s : ByteArray} {a a' : Nat} {x : Itm} {T : ByteArray} {pa : Option Addr} {pk pc : Nat} (h : ItSt w W b s a x T pa pk pc) (hr : Rd W' b s a') (hg : W.grownBy W' (some b)) : ItSt w W' b s a' x T pa pk pc :=
  have hl := h.lt
  ⟨hr, cell_grown_by hg (by show w.heap.size ≠ b; omega) h.box, h.res.grown hg (by intro e; cases e; omega), h.row.grown hg (by intro e; cases e; omega), h.own.by_ hg (by omega), grown_tr h.gr hg, h.lt⟩
theorem ItSt.set {w W : World} {b : Nat} {s : ByteArray} {a : Nat} {x x' : Itm} {T T' : ByteArray} {pa pa' : Option Addr} {pk pc pk' pc' : Nat} (h : ItSt w W b s a x T pa pk pc) (j : Nat) (v : Value)
    (he : (encI x T pa pk pc).toArray.setIfInBounds j v = (encI x' T' pa' pk' pc').toArray) (ho : OwnI (w.heap.size + 3) (W.setCell ⟨w.heap.size + 2, j, none⟩ v) x' T' pa' pk' pc') : ItSt w (W.setCell ⟨w.heap.size + 2, j, none⟩ v) b s a x' T' pa' pk' pc' :=
  have hl := h.lt
  ⟨h.rd.set (by omega) _ _, by rw [World.cell?_of_block (heap_setCell_other W ⟨w.heap.size + 2, j, none⟩ w.heap.size v (by show w.heap.size ≠ w.heap.size + 2; omega))]; exact h.box,
    h.res.set_other _ _ _ (by omega), by have := h.row.set j v; rw [he] at this; exact this, ho, grown_set h.gr (by omega) _ _, h.lt⟩
/-- What stands ahead of the switch. -/
theorem ItSt.new {w : World} {b : Nat} {s : ByteArray} {a : Nat} (h : Rd w b s a) (k : Int) :
    ItSt w ((((w.alloc (.cells #[.pointer (some ⟨b, 0, none⟩)] 67)).alloc (.cells #[.int .i64 0, .string { data := #[] }, .int .u32 0, .int .u64 0, .bool false, .bool false, .int .u64 0, .int .u64 0, .int .i64 0, .int .u64 0, .slice none 0 0, .int .u64 0, .int .u64 0, .int .i64 0, .int .u64 0, .int .u64 0, .int .i64 0, .int .i64 0] 43)).alloc (.cells #[.int .i64 0, .string { data := #[] }, .int .u32 0, .int .u64 0, .bool false, .bool false, .int .u64 0, .int .u64 0, .int .i64 0, .int .u64 0, .slice none 0 0, .int .u64 0, .int .u64 0, .int .i64 0, .int .u64 0, .int .u64 0, .int .i64 0, .int .i64 0] 43)).setRow (w.heap.size + 2) (encI (itK k) { data := #[] } none 0 0).toArray) b s a (itK k) { data := #[] } none 0 0 := by
  obtain ⟨A1, hA1⟩ : ∃ A1, A1 = w.alloc (.cells #[.pointer (some ⟨b, 0, none⟩)] 67) := ⟨_, rfl⟩
  have z1 : A1.heap.size = w.heap.size + 1 := by rw [hA1]; simp
  have o1 : Own A1 w.heap.size 67 #[.pointer (some ⟨b, 0, none⟩)] := by rw [hA1]; exact Own.new _ _ _
  rw [← hA1]
  obtain ⟨A2, hA2⟩ : ∃ A2, A2 = A1.alloc (.cells #[.int .i64 0, .string { data := #[] }, .int .u32 0, .int .u64 0, .bool false, .bool false, .int .u64 0, .int .u64 0, .int .i64 0, .int .u64 0, .slice none 0 0, .int .u64 0, .int .u64 0, .int .i64 0, .int .u64 0, .int .u64 0, .int .i64 0, .int .i64 0] 43) := ⟨_, rfl⟩
  have z2 : A2.heap.size = w.heap.size + 2 := by rw [hA2]; simp [z1]
  have g2 : Grw A1 A2 := by rw [hA2]; exact (Grw.refl _).alloc _
  have o2 : Own A2 (w.heap.size + 1) 43 (encI zeroI { data := #[] } none 0 0).toArray := by rw [hA2, ← z1]; exact Own.new _ _ _
  rw [← hA2]
  have g3 : Grw A2 (A2.alloc (.cells #[.int .i64 0, .string { data := #[] }, .int .u32 0, .int .u64 0, .bool false, .bool false, .int .u64 0, .int .u64 0, .int .i64 0, .int .u64 0, .slice none 0 0, .int .u64 0, .int .u64 0, .int .i64 0, .int .u64 0, .int .u64 0, .int .i64 0, .int .i64 0] 43)) := (Grw.refl _).alloc _
  have o3 : Own (A2.alloc (.cells #[.int .i64 0, .string { data := #[] }, .int .u32 0, .int .u64 0, .bool false, .bool false, .int .u64 0, .int .u64 0, .int .i64 0, .int .u64 0, .slice none 0 0, .int .u64 0, .int .u64 0, .int .i64 0, .int .u64 0, .int .u64 0, .int .i64 0, .int .i64 0] 43)) (w.heap.size + 2) 43 (encI zeroI { data := #[] } none 0 0).toArray := by rw [← z2]; exact Own.new _ _ _
  have g1 : Grw w A1 := by rw [hA1]; exact (Grw.refl _).alloc _
  have r3 := ((h.after g1.below).after g2.below).after g3.below
  have o1' := (o1.below g2.below o1.lt).below g3.below (by omega)
  have o2' := o2.below g3.below o2.lt
  have hl := h.lt
  have B := ((g1.trans g2).trans g3).below
  refine ⟨r3.row (by omega) _, (o1'.row_other _ (by omega)).at_ 0 _ rfl, o2'.row_other _ (by omega), o3.row _, OwnI.zero _ _ _, grown_row ⟨B.os, B.tape, B.output, B.size, fun k hk _ => B.block k hk⟩ (by omega) _, h.lt⟩
theorem ItSt.done {w W : World} {b : Nat} {s : ByteArray} {a a0 : Nat} {G : List UInt8 → Got Itm} {x : Itm} {T : ByteArray} {pa : Option Addr} {pk pc : Nat} (h : ItSt w W b s a x T pa pk pc) (hG : G (restB s a0) = .ok (x, restB s a)) (cs : Array Value) :
    RP G (ItD w.heap.size) w b s a0 (.returned (.agg (encI x T pa pk pc).toArray)) (W.setRow (w.heap.size + 1) cs) :=
  have hl := h.lt
  .inl ⟨x, _, a, hG, rfl, ⟨T, pa, pk, pc, rfl, (h.own.setRow (by omega) cs).mono (by omega)⟩, h.rd.row (by omega) cs, grown_row h.gr (by omega) cs⟩

theorem ItSt.drew {w W : World} {b : Nat} {s : ByteArray} {a : Nat} {x : Itm} {T : ByteArray} {pa : Option Addr} {pk pc : Nat} (h : ItSt w W b s a x T pa pk pc) : ItSt w W.drew b s a x T pa pk pc :=
  h.go h.rd.drew (grown_drewN W 1 _)
set_option maxHeartbeats 4000000 in
theorem ritem_1 (w : World) (b : Nat) (s : ByteArray) (a : Nat) (h : Rd w b s a) (hs : s.size ≤ 1099511627776) :
    Calls Try.prog 32 #[.agg #[.pointer (some ⟨b, 0, none⟩)], .int .i64 1] w (RP (getIt 1) (ItD w.heap.size) w b s a) := by
  have S0 := ItSt.new h 1
  have Z3 : Own (((w.alloc (.cells #[.pointer (some ⟨b, 0, none⟩)] 67)).alloc (.cells #[.int .i64 0, .string { data := #[] }, .int .u32 0, .int .u64 0, .bool false, .bool false, .int .u64 0, .int .u64 0, .int .i64 0, .int .u64 0, .slice none 0 0, .int .u64 0, .int .u64 0, .int .i64 0, .int .u64 0, .int .u64 0, .int .i64 0, .int .i64 0] 43)).alloc (.cells #[.int .i64 0, .string { data := #[] }, .int .u32 0, .int .u64 0, .bool false, .bool false, .int .u64 0, .int .u64 0, .int .i64 0, .int .u64 0, .slice none 0 0, .int .u64 0, .int .u64 0, .int .i64 0, .int .u64 0, .int .u64 0, .int .i64 0, .int .i64 0] 43)) (w.heap.size + 2) 43 (encI zeroI { data := #[] } none 0 0).toArray := by
    have := Own.new ((w.alloc (.cells #[.pointer (some ⟨b, 0, none⟩)] 67)).alloc (.cells #[.int .i64 0, .string { data := #[] }, .int .u32 0, .int .u64 0, .bool false, .bool false, .int .u64 0, .int .u64 0, .int .i64 0, .int .u64 0, .slice none 0 0, .int .u64 0, .int .u64 0, .int .i64 0, .int .u64 0, .int .u64 0, .int .i64 0, .int .i64 0] 43)) 43 #[.int .i64 0, .string { data := #[] }, .int .u32 0, .int .u64 0, .bool false, .bool false, .int .u64 0, .int .u64 0, .int .i64 0, .int .u64 0, .slice none 0 0, .int .u64 0, .int .u64 0, .int .i64 0, .int .u64 0, .int .u64 0, .int .i64 0, .int .i64 0]
    have e : ((w.alloc (.cells #[.pointer (some ⟨b, 0, none⟩)] 67)).alloc (.cells #[.int .i64 0, .string { data := #[] }, .int .u32 0, .int .u64 0, .bool false, .bool false, .int .u64 0, .int .u64 0, .int .i64 0, .int .u64 0, .slice none 0 0, .int .u64 0, .int .u64 0, .int .i64 0, .int .u64 0, .int .u64 0, .int .i64 0, .int .i64 0] 43)).heap.size = w.heap.size + 2 := by simp
    rw [e] at this
    exact this
  have HLT := h.lt
  have hs' := Lib.hid hs
  clear h hs
  go_enter Try.func32, Try.ntmps32
  go_upto_region 2 with (refine store_item (p := itK 1) (T := { data := #[] }) (a := none) (k := 0) (c := 0) rfl (.tmp 5) (.tmp 7) rfl (w.heap.size + 2) rfl rfl Z3 ?_)
  clear Z3
  generalize (((w.alloc (.cells #[.pointer (some ⟨b, 0, none⟩)] 67)).alloc (.cells #[.int .i64 0, .string { data := #[] }, .int .u32 0, .int .u64 0, .bool false, .bool false, .int .u64 0, .int .u64 0, .int .i64 0, .int .u64 0, .slice none 0 0, .int .u64 0, .int .u64 0, .int .i64 0, .int .u64 0, .int .u64 0, .int .i64 0, .int .i64 0] 43)).alloc (.cells #[.int .i64 0, .string { data := #[] }, .int .u32 0, .int .u64 0, .bool false, .bool false, .int .u64 0, .int .u64 0, .int .i64 0, .int .u64 0, .slice none 0 0, .int .u64 0, .int .u64 0, .int .i64 0, .int .u64 0, .int .u64 0, .int .i64 0, .int .i64 0] 43)).setRow (w.heap.size + 2) (encI (itK 1) { data := #[] } none 0 0).toArray = W0 at *
  have hb0 := S0.box
  go_upto_region 4 with fail
  go_wp2_with fail
  refine (rrest _ b s a S0.rd hs'.out).mono ?_
  rintro e w1 (⟨l, _, a1, hG, rfl, ⟨T, rfl, hT⟩, hr, hg⟩ | ⟨q, hG, rfl, hg⟩)
  rotate_left
  · exact absurd hG (by unfold getAll; intro h; cases h)
  have S1 := S0.go hr hg
  have c1 : w1.cell? ⟨w.heap.size + 2, 1, none⟩ = some (.string { data := #[] }) := S1.row.at_ 1 _ rfl
  have f1 := S1.row.free 1
  have HE : Hid (getIt 1 (restB s a) = .ok ({ itK 1 with data := l }, restB s a1)) := Lib.hid (by
    unfold getAll at hG
    simp only [Except.ok.injEq, Prod.mk.injEq] at hG
    obtain ⟨e1, e2⟩ := hG
    unfold getIt
    rw [if_pos rfl, ← e1, ← e2]
    rfl)
  have SZ := S1.set 1 (.string T) (x' := { itK 1 with data := l }) (T' := T) (pa' := none) (pk' := 0) (pc' := 0) rfl ⟨hT, World.ownsRow_nil _ _ _ _, rfl, Nat.zero_le _⟩
  clear S0 S1 hr hg hG hb0
  go_upto_region 13 with fail
  go_wp2_with (first | (refine load_item rfl (.tmp 5) rfl (w.heap.size + 2) rfl SZ.row ?_) | (refine store_item rfl (.tmp 4) (.tmp 53) rfl (w.heap.size + 1) rfl rfl SZ.res ?_))
  (try simp only [Exit.inBlock, Exit.then])
  refine bodyPost_ret (results_item rfl _ _ (w.heap.size + 1) rfl (SZ.res.row _)) rfl ?_
  exact SZ.done HE.out _
set_option maxHeartbeats 4000000 in
theorem ritem_3 (w : World) (b : Nat) (s : ByteArray) (a : Nat) (h : Rd w b s a) (hs : s.size ≤ 1099511627776) :
    Calls Try.prog 32 #[.agg #[.pointer (some ⟨b, 0, none⟩)], .int .i64 3] w (RP (getIt 3) (ItD w.heap.size) w b s a) := by
  have S0 := ItSt.new h 3
  have Z3 : Own (((w.alloc (.cells #[.pointer (some ⟨b, 0, none⟩)] 67)).alloc (.cells #[.int .i64 0, .string { data := #[] }, .int .u32 0, .int .u64 0, .bool false, .bool false, .int .u64 0, .int .u64 0, .int .i64 0, .int .u64 0, .slice none 0 0, .int .u64 0, .int .u64 0, .int .i64 0, .int .u64 0, .int .u64 0, .int .i64 0, .int .i64 0] 43)).alloc (.cells #[.int .i64 0, .string { data := #[] }, .int .u32 0, .int .u64 0, .bool false, .bool false, .int .u64 0, .int .u64 0, .int .i64 0, .int .u64 0, .slice none 0 0, .int .u64 0, .int .u64 0, .int .i64 0, .int .u64 0, .int .u64 0, .int .i64 0, .int .i64 0] 43)) (w.heap.size + 2) 43 (encI zeroI { data := #[] } none 0 0).toArray := by
    have := Own.new ((w.alloc (.cells #[.pointer (some ⟨b, 0, none⟩)] 67)).alloc (.cells #[.int .i64 0, .string { data := #[] }, .int .u32 0, .int .u64 0, .bool false, .bool false, .int .u64 0, .int .u64 0, .int .i64 0, .int .u64 0, .slice none 0 0, .int .u64 0, .int .u64 0, .int .i64 0, .int .u64 0, .int .u64 0, .int .i64 0, .int .i64 0] 43)) 43 #[.int .i64 0, .string { data := #[] }, .int .u32 0, .int .u64 0, .bool false, .bool false, .int .u64 0, .int .u64 0, .int .i64 0, .int .u64 0, .slice none 0 0, .int .u64 0, .int .u64 0, .int .i64 0, .int .u64 0, .int .u64 0, .int .i64 0, .int .i64 0]
    have e : ((w.alloc (.cells #[.pointer (some ⟨b, 0, none⟩)] 67)).alloc (.cells #[.int .i64 0, .string { data := #[] }, .int .u32 0, .int .u64 0, .bool false, .bool false, .int .u64 0, .int .u64 0, .int .i64 0, .int .u64 0, .slice none 0 0, .int .u64 0, .int .u64 0, .int .i64 0, .int .u64 0, .int .u64 0, .int .i64 0, .int .i64 0] 43)).heap.size = w.heap.size + 2 := by simp
    rw [e] at this
    exact this
  have HLT := h.lt
  have hs' := Lib.hid hs
  clear h hs
  go_enter Try.func32, Try.ntmps32
  go_upto_region 2 with (refine store_item (p := itK 3) (T := { data := #[] }) (a := none) (k := 0) (c := 0) rfl (.tmp 5) (.tmp 7) rfl (w.heap.size + 2) rfl rfl Z3 ?_)
  clear Z3
  generalize (((w.alloc (.cells #[.pointer (some ⟨b, 0, none⟩)] 67)).alloc (.cells #[.int .i64 0, .string { data := #[] }, .int .u32 0, .int .u64 0, .bool false, .bool false, .int .u64 0, .int .u64 0, .int .i64 0, .int .u64 0, .slice none 0 0, .int .u64 0, .int .u64 0, .int .i64 0, .int .u64 0, .int .u64 0, .int .i64 0, .int .i64 0] 43)).alloc (.cells #[.int .i64 0, .string { data := #[] }, .int .u32 0, .int .u64 0, .bool false, .bool false, .int .u64 0, .int .u64 0, .int .i64 0, .int .u64 0, .slice none 0 0, .int .u64 0, .int .u64 0, .int .i64 0, .int .u64 0, .int .u64 0, .int .i64 0, .int .i64 0] 43)).setRow (w.heap.size + 2) (encI (itK 3) { data := #[] } none 0 0).toArray = W0 at *
  have hb0 := S0.box
  go_upto_region 10 with fail
  go_wp2_with fail
  refine (rview _ b s a S0.rd).mono ?_
  rintro e w1 (⟨v, _, a1, hG, rfl, rfl, hr, hg⟩ | ⟨q, hG, rfl, hg⟩)
  rotate_left
  · exact ⟨rfl, .inr ⟨q, by unfold getIt; rw [if_neg (by decide), if_neg (by decide), if_pos rfl, hG, andG_err], rfl, grown_tr S0.gr hg⟩⟩
  have S1 := S0.go hr hg
  have c11 : w1.cell? ⟨w.heap.size + 2, 11, none⟩ = some (.int .u64 0) := S1.row.at_ 11 _ rfl
  have c12 : w1.cell? ⟨w.heap.size + 2, 12, none⟩ = some (.int .u64 0) := S1.row.at_ 12 _ rfl
  have c13 : w1.cell? ⟨w.heap.size + 2, 13, none⟩ = some (.int .i64 0) := S1.row.at_ 13 _ rfl
  have c14 : w1.cell? ⟨w.heap.size + 2, 14, none⟩ = some (.int .u64 0) := S1.row.at_ 14 _ rfl
  have f11 := S1.row.free 11
  have f12 := S1.row.free 12
  have f13 := S1.row.free 13
  have f14 := S1.row.free 14
  have HE : Hid (getIt 3 (restB s a) = .ok ({ itK 3 with view := v }, restB s a1)) := Lib.hid (by
    unfold getIt
    rw [if_neg (by decide), if_neg (by decide), if_pos rfl, hG, andG_ok]
    rfl)
  obtain ⟨vn, ve, vr, vm⟩ := v
  have T1 := S1.set 11 (.int .u64 vn) (x' := { itK 3 with view := ⟨vn, 0, 0, 0⟩ }) (T' := { data := #[] }) (pa' := none) (pk' := 0) (pc' := 0) rfl ⟨rfl, World.ownsRow_nil _ _ _ _, rfl, Nat.zero_le _⟩
  have T2 := T1.set 12 (.int .u64 ve) (x' := { itK 3 with view := ⟨vn, ve, 0, 0⟩ }) (T' := { data := #[] }) (pa' := none) (pk' := 0) (pc' := 0) rfl ⟨rfl, World.ownsRow_nil _ _ _ _, rfl, Nat.zero_le _⟩
  have T3 := T2.set 13 (.int .i64 vr) (x' := { itK 3 with view := ⟨vn, ve, vr, 0⟩ }) (T' := { data := #[] }) (pa' := none) (pk' := 0) (pc' := 0) rfl ⟨rfl, World.ownsRow_nil _ _ _ _, rfl, Nat.zero_le _⟩
  have SZ := T3.set 14 (.int .u64 vm) (x' := { itK 3 with view := ⟨vn, ve, vr, vm⟩ }) (T' := { data := #[] }) (pa' := none) (pk' := 0) (pc' := 0) rfl ⟨rfl, World.ownsRow_nil _ _ _ _, rfl, Nat.zero_le _⟩
  clear S0 S1 hr hg hG hb0 T1 T2 T3
  go_upto_region 13 with fail
  go_wp2_with (first | (refine load_item rfl (.tmp 5) rfl (w.heap.size + 2) rfl SZ.row ?_) | (refine store_item rfl (.tmp 4) (.tmp 53) rfl (w.heap.size + 1) rfl rfl SZ.res ?_))
  (try simp only [Exit.inBlock, Exit.then])
  refine bodyPost_ret (results_item rfl _ _ (w.heap.size + 1) rfl (SZ.res.row _)) rfl ?_
  exact SZ.done HE.out _
set_option maxHeartbeats 4000000 in
theorem ritem_2 (w : World) (b : Nat) (s : ByteArray) (a : Nat) (h : Rd w b s a) (hs : s.size ≤ 1099511627776) :
    Calls Try.prog 32 #[.agg #[.pointer (some ⟨b, 0, none⟩)], .int .i64 2] w (RP (getIt 2) (ItD w.heap.size) w b s a) := by
  have S0 := ItSt.new h 2
  have Z3 : Own (((w.alloc (.cells #[.pointer (some ⟨b, 0, none⟩)] 67)).alloc (.cells #[.int .i64 0, .string { data := #[] }, .int .u32 0, .int .u64 0, .bool false, .bool false, .int .u64 0, .int .u64 0, .int .i64 0, .int .u64 0, .slice none 0 0, .int .u64 0, .int .u64 0, .int .i64 0, .int .u64 0, .int .u64 0, .int .i64 0, .int .i64 0] 43)).alloc (.cells #[.int .i64 0, .string { data := #[] }, .int .u32 0, .int .u64 0, .bool false, .bool false, .int .u64 0, .int .u64 0, .int .i64 0, .int .u64 0, .slice none 0 0, .int .u64 0, .int .u64 0, .int .i64 0, .int .u64 0, .int .u64 0, .int .i64 0, .int .i64 0] 43)) (w.heap.size + 2) 43 (encI zeroI { data := #[] } none 0 0).toArray := by
    have := Own.new ((w.alloc (.cells #[.pointer (some ⟨b, 0, none⟩)] 67)).alloc (.cells #[.int .i64 0, .string { data := #[] }, .int .u32 0, .int .u64 0, .bool false, .bool false, .int .u64 0, .int .u64 0, .int .i64 0, .int .u64 0, .slice none 0 0, .int .u64 0, .int .u64 0, .int .i64 0, .int .u64 0, .int .u64 0, .int .i64 0, .int .i64 0] 43)) 43 #[.int .i64 0, .string { data := #[] }, .int .u32 0, .int .u64 0, .bool false, .bool false, .int .u64 0, .int .u64 0, .int .i64 0, .int .u64 0, .slice none 0 0, .int .u64 0, .int .u64 0, .int .i64 0, .int .u64 0, .int .u64 0, .int .i64 0, .int .i64 0]
    have e : ((w.alloc (.cells #[.pointer (some ⟨b, 0, none⟩)] 67)).alloc (.cells #[.int .i64 0, .string { data := #[] }, .int .u32 0, .int .u64 0, .bool false, .bool false, .int .u64 0, .int .u64 0, .int .i64 0, .int .u64 0, .slice none 0 0, .int .u64 0, .int .u64 0, .int .i64 0, .int .u64 0, .int .u64 0, .int .i64 0, .int .i64 0] 43)).heap.size = w.heap.size + 2 := by simp
    rw [e] at this
    exact this
  have HLT := h.lt
  have hs' := Lib.hid hs
  clear h hs
  go_enter Try.func32, Try.ntmps32
  go_upto_region 2 with (refine store_item (p := itK 2) (T := { data := #[] }) (a := none) (k := 0) (c := 0) rfl (.tmp 5) (.tmp 7) rfl (w.heap.size + 2) rfl rfl Z3 ?_)
  clear Z3
  generalize (((w.alloc (.cells #[.pointer (some ⟨b, 0, none⟩)] 67)).alloc (.cells #[.int .i64 0, .string { data := #[] }, .int .u32 0, .int .u64 0, .bool false, .bool false, .int .u64 0, .int .u64 0, .int .i64 0, .int .u64 0, .slice none 0 0, .int .u64 0, .int .u64 0, .int .i64 0, .int .u64 0, .int .u64 0, .int .i64 0, .int .i64 0] 43)).alloc (.cells #[.int .i64 0, .string { data := #[] }, .int .u32 0, .int .u64 0, .bool false, .bool false, .int .u64 0, .int .u64 0, .int .i64 0, .int .u64 0, .slice none 0 0, .int .u64 0, .int .u64 0, .int .i64 0, .int .u64 0, .int .u64 0, .int .i64 0, .int .i64 0] 43)).setRow (w.heap.size + 2) (encI (itK 2) { data := #[] } none 0 0).toArray = W0 at *
  have hb0 := S0.box
  have S0 := S0.drew
  have IF2 : getIt 2 (restB s a) = andG (getN 4 (restB s a)) fun i r => andG (getN 8 r) fun h r => andG (getFl r) fun f r => andG (getRec r) fun x r => .ok ({ itK 2 with inc := i, holds := h, has := decide (f % 2 = 1), direct := decide (f / 2 = 1), r := x }, r) := by
    unfold getIt
    rw [if_neg (by decide), if_pos rfl]
    simp only [getFl_it]
    rfl
  have HI := Lib.hid IF2
  clear IF2
  go_upto_region 6 with fail
  go_region_held2 (fun w' => w'.cell? ⟨w.heap.size, 0, none⟩ = some (.pointer (some ⟨b, 0, none⟩))) (first | (with_reducible exact S0.box) | (with_reducible exact S1.box) | (with_reducible exact S2.box) | (exact cell_set S2.box (by omega)) | (exact cell_set (cell_set S2.box (by omega)) (by omega)) | go_keep)
    (first
      | (go_at_call 46; (with_reducible refine (rfour _ b s _ S0.rd).mono ?_); rintro e w1 (⟨v1, _, a1, hG, rfl, rfl, hr, hg⟩ | ⟨x, hG, rfl, hg⟩); rotate_left; exact ⟨rfl, .inr ⟨x, by (rw [HI.out]; simp only [hG, andG_ok, andG_err]), rfl, grown_tr S0.gr hg⟩⟩; (have S1 := S0.go hr hg); (have G1 := Lib.hid hG); clear hG hr hg)
      | (go_at_call 45; (with_reducible refine (rnum _ b s _ 8 8 (by decide) S1.rd).mono ?_); rintro e w2 (⟨v2, _, a2, hG, rfl, rfl, hr, hg⟩ | ⟨x, hG, rfl, hg⟩); rotate_left; exact ⟨rfl, .inr ⟨x, by (rw [HI.out]; simp only [hG, andG_ok, andG_err, G1.out]), rfl, grown_tr S1.gr hg⟩⟩; (have S2 := S1.go hr hg); (have G2 := Lib.hid hG); (have c2 : w2.cell? ⟨w.heap.size + 2, 2, none⟩ = some (.int .u32 0) := S2.row.at_ 2 _ rfl); (have f2 := S2.row.free 2); (have c3 : w2.cell? ⟨w.heap.size + 2, 3, none⟩ = some (.int .u64 0) := S2.row.at_ 3 _ rfl); (have f3 := S2.row.free 3); clear hG hr hg))
  have T1 := S2.set 2 (.int .u32 (v1 : Int)) (x' := { itK 2 with inc := v1 }) (T' := { data := #[] }) (pa' := none) (pk' := 0) (pc' := 0) rfl ⟨rfl, World.ownsRow_nil _ _ _ _, rfl, Nat.zero_le _⟩
  have T2 := T1.set 3 (.int .u64 (v2 : Int)) (x' := { itK 2 with inc := v1, holds := v2 }) (T' := { data := #[] }) (pa' := none) (pk' := 0) (pc' := 0) rfl ⟨rfl, World.ownsRow_nil _ _ _ _, rfl, Nat.zero_le _⟩
  clear S0 S1 S2 T1 c2 f2 c3 f3
  generalize (w2.setCell ⟨w.heap.size + 2, 2, none⟩ (.int .u32 (v1 : Int))).setCell ⟨w.heap.size + 2, 3, none⟩ (.int .u64 (v2 : Int)) = w3 at *
  have hb3 := T2.box
  clear hb0
  go_wp2_with fail
  refine (rflags _ b s _ T2.rd).mono ?_
  rintro e w4 (⟨f, _, a4, hG, rfl, ⟨hf3, rfl⟩, hr, hg⟩ | ⟨q, hG, rfl, hg⟩)
  rotate_left
  · exact ⟨rfl, .inr ⟨q, by rw [HI.out]; simp only [hG, andG_ok, andG_err, G1.out, G2.out], rfl, grown_tr T2.gr hg⟩⟩
  have T4 := T2.go hr hg
  have G4 := Lib.hid hG
  obtain ⟨f0, hf0⟩ : ∃ f0, f0 = decide (f % 2 = 1) := ⟨_, rfl⟩
  obtain ⟨f1, hf1⟩ : ∃ f1, f1 = decide (f / 2 = 1) := ⟨_, rfl⟩
  rw [← hf0, ← hf1]
  have HF0 := Lib.hid hf0
  have HF1 := Lib.hid hf1
  have c4 : w4.cell? ⟨w.heap.size + 2, 4, none⟩ = some (.bool false) := T4.row.at_ 4 _ rfl
  have c5 : w4.cell? ⟨w.heap.size + 2, 5, none⟩ = some (.bool false) := T4.row.at_ 5 _ rfl
  have x4 := T4.row.free 4
  have x5 := T4.row.free 5
  have T5 := T4.set 4 (.bool f0) (x' := { itK 2 with inc := v1, holds := v2, has := f0 }) (T' := { data := #[] }) (pa' := none) (pk' := 0) (pc' := 0) rfl ⟨rfl, World.ownsRow_nil _ _ _ _, rfl, Nat.zero_le _⟩
  have T6 := T5.set 5 (.bool f1) (x' := { itK 2 with inc := v1, holds := v2, has := f0, direct := f1 }) (T' := { data := #[] }) (pa' := none) (pk' := 0) (pc' := 0) rfl ⟨rfl, World.ownsRow_nil _ _ _ _, rfl, Nat.zero_le _⟩
  clear hG hr hg T2 T4 T5 hb3 hf0 hf1 hf3
  go_upto_region 8 with fail
  clear c4 c5 x4 x5
  generalize (w4.setCell ⟨w.heap.size + 2, 4, none⟩ (.bool f0)).setCell ⟨w.heap.size + 2, 5, none⟩ (.bool f1) = w5 at *
  have hb5 := T6.box
  go_wp2_with fail
  refine (rrecord _ b s _ T6.rd).mono ?_
  rintro e w7 (⟨x, _, a7, hG, rfl, ⟨pa, pk, pc, rfl, ho, hol, hok⟩, hr, hg⟩ | ⟨q, hG, rfl, hg⟩)
  rotate_left
  · exact ⟨rfl, .inr ⟨q, by rw [HI.out]; simp only [hG, andG_ok, andG_err, G1.out, G2.out, G4.out], rfl, grown_tr T6.gr hg⟩⟩
  have T7 := T6.go hr hg
  have hz5 : w.heap.size + 3 ≤ w5.heap.size := T6.row.lt
  have HE : Hid (getIt 2 (restB s a) = .ok ({ itK 2 with inc := v1, holds := v2, has := f0, direct := f1, r := x }, restB s a7)) := Lib.hid (by
    rw [HI.out]
    simp only [hG, andG_ok, G1.out, G2.out, G4.out]
    rw [← HF0.out, ← HF1.out])
  have HO := Lib.hid (own_base ho hz5)
  have HOL := Lib.hid hol
  have HOK := Lib.hid hok
  have c6 : w7.cell? ⟨w.heap.size + 2, 6, none⟩ = some (.int .u64 0) := T7.row.at_ 6 _ rfl
  have c7 : w7.cell? ⟨w.heap.size + 2, 7, none⟩ = some (.int .u64 0) := T7.row.at_ 7 _ rfl
  have c8 : w7.cell? ⟨w.heap.size + 2, 8, none⟩ = some (.int .i64 0) := T7.row.at_ 8 _ rfl
  have c9 : w7.cell? ⟨w.heap.size + 2, 9, none⟩ = some (.int .u64 0) := T7.row.at_ 9 _ rfl
  have c10 : w7.cell? ⟨w.heap.size + 2, 10, none⟩ = some (.slice none 0 0) := T7.row.at_ 10 _ rfl
  have x6 := T7.row.free 6
  have x7 := T7.row.free 7
  have x8 := T7.row.free 8
  have x9 := T7.row.free 9
  have x10 := T7.row.free 10
  obtain ⟨⟨vn, ve, vr, vm⟩, L⟩ := x
  have U1 := T7.set 6 (.int .u64 (vn : Int)) (x' := { itK 2 with inc := v1, holds := v2, has := f0, direct := f1, r := ⟨⟨vn, 0, 0, 0⟩, []⟩ }) (T' := { data := #[] }) (pa' := none) (pk' := 0) (pc' := 0) rfl ⟨rfl, World.ownsRow_nil _ _ _ _, rfl, Nat.zero_le _⟩
  have U2 := U1.set 7 (.int .u64 (ve : Int)) (x' := { itK 2 with inc := v1, holds := v2, has := f0, direct := f1, r := ⟨⟨vn, ve, 0, 0⟩, []⟩ }) (T' := { data := #[] }) (pa' := none) (pk' := 0) (pc' := 0) rfl ⟨rfl, World.ownsRow_nil _ _ _ _, rfl, Nat.zero_le _⟩
  have U3 := U2.set 8 (.int .i64 vr) (x' := { itK 2 with inc := v1, holds := v2, has := f0, direct := f1, r := ⟨⟨vn, ve, vr, 0⟩, []⟩ }) (T' := { data := #[] }) (pa' := none) (pk' := 0) (pc' := 0) rfl ⟨rfl, World.ownsRow_nil _ _ _ _, rfl, Nat.zero_le _⟩
  have U4 := U3.set 9 (.int .u64 (vm : Int)) (x' := { itK 2 with inc := v1, holds := v2, has := f0, direct := f1, r := ⟨⟨vn, ve, vr, vm⟩, []⟩ }) (T' := { data := #[] }) (pa' := none) (pk' := 0) (pc' := 0) rfl ⟨rfl, World.ownsRow_nil _ _ _ _, rfl, Nat.zero_le _⟩
  have SZ := U4.set 10 (.slice pa pk pc) (x' := { itK 2 with inc := v1, holds := v2, has := f0, direct := f1, r := ⟨⟨vn, ve, vr, vm⟩, L⟩ }) (T' := { data := #[] }) (pa' := pa) (pk' := pk) (pc' := pc) rfl ⟨rfl, own_set (own_set (own_set (own_set (own_set HO.out (by omega) _ _) (by omega) _ _) (by omega) _ _) (by omega) _ _) (by omega) _ _, HOL.out, HOK.out⟩
  clear hG hr hg ho hol hok T6 T7 U1 U2 U3 U4 hb5
  go_upto_region 13 with fail
  go_wp2_with (first | (refine load_item rfl (.tmp 5) rfl (w.heap.size + 2) rfl SZ.row ?_) | (refine store_item rfl (.tmp 4) (.tmp 53) rfl (w.heap.size + 1) rfl rfl SZ.res ?_))
  (try simp only [Exit.inBlock, Exit.then])
  refine bodyPost_ret (results_item rfl _ _ (w.heap.size + 1) rfl (SZ.res.row _)) rfl ?_
  exact SZ.done HE.out _
set_option maxHeartbeats 4000000 in
theorem ritem_4 (w : World) (b : Nat) (s : ByteArray) (a : Nat) (h : Rd w b s a) (hs : s.size ≤ 1099511627776) :
    Calls Try.prog 32 #[.agg #[.pointer (some ⟨b, 0, none⟩)], .int .i64 4] w (RP (getIt 4) (ItD w.heap.size) w b s a) := by
  have S0 := ItSt.new h 4
  have Z3 : Own (((w.alloc (.cells #[.pointer (some ⟨b, 0, none⟩)] 67)).alloc (.cells #[.int .i64 0, .string { data := #[] }, .int .u32 0, .int .u64 0, .bool false, .bool false, .int .u64 0, .int .u64 0, .int .i64 0, .int .u64 0, .slice none 0 0, .int .u64 0, .int .u64 0, .int .i64 0, .int .u64 0, .int .u64 0, .int .i64 0, .int .i64 0] 43)).alloc (.cells #[.int .i64 0, .string { data := #[] }, .int .u32 0, .int .u64 0, .bool false, .bool false, .int .u64 0, .int .u64 0, .int .i64 0, .int .u64 0, .slice none 0 0, .int .u64 0, .int .u64 0, .int .i64 0, .int .u64 0, .int .u64 0, .int .i64 0, .int .i64 0] 43)) (w.heap.size + 2) 43 (encI zeroI { data := #[] } none 0 0).toArray := by
    have := Own.new ((w.alloc (.cells #[.pointer (some ⟨b, 0, none⟩)] 67)).alloc (.cells #[.int .i64 0, .string { data := #[] }, .int .u32 0, .int .u64 0, .bool false, .bool false, .int .u64 0, .int .u64 0, .int .i64 0, .int .u64 0, .slice none 0 0, .int .u64 0, .int .u64 0, .int .i64 0, .int .u64 0, .int .u64 0, .int .i64 0, .int .i64 0] 43)) 43 #[.int .i64 0, .string { data := #[] }, .int .u32 0, .int .u64 0, .bool false, .bool false, .int .u64 0, .int .u64 0, .int .i64 0, .int .u64 0, .slice none 0 0, .int .u64 0, .int .u64 0, .int .i64 0, .int .u64 0, .int .u64 0, .int .i64 0, .int .i64 0]
    have e : ((w.alloc (.cells #[.pointer (some ⟨b, 0, none⟩)] 67)).alloc (.cells #[.int .i64 0, .string { data := #[] }, .int .u32 0, .int .u64 0, .bool false, .bool false, .int .u64 0, .int .u64 0, .int .i64 0, .int .u64 0, .slice none 0 0, .int .u64 0, .int .u64 0, .int .i64 0, .int .u64 0, .int .u64 0, .int .i64 0, .int .i64 0] 43)).heap.size = w.heap.size + 2 := by simp
    rw [e] at this
    exact this
  have HLT := h.lt
  have hs' := Lib.hid hs
  clear h hs
  go_enter Try.func32, Try.ntmps32
  go_upto_region 2 with (refine store_item (p := itK 4) (T := { data := #[] }) (a := none) (k := 0) (c := 0) rfl (.tmp 5) (.tmp 7) rfl (w.heap.size + 2) rfl rfl Z3 ?_)
  clear Z3
  generalize (((w.alloc (.cells #[.pointer (some ⟨b, 0, none⟩)] 67)).alloc (.cells #[.int .i64 0, .string { data := #[] }, .int .u32 0, .int .u64 0, .bool false, .bool false, .int .u64 0, .int .u64 0, .int .i64 0, .int .u64 0, .slice none 0 0, .int .u64 0, .int .u64 0, .int .i64 0, .int .u64 0, .int .u64 0, .int .i64 0, .int .i64 0] 43)).alloc (.cells #[.int .i64 0, .string { data := #[] }, .int .u32 0, .int .u64 0, .bool false, .bool false, .int .u64 0, .int .u64 0, .int .i64 0, .int .u64 0, .slice none 0 0, .int .u64 0, .int .u64 0, .int .i64 0, .int .u64 0, .int .u64 0, .int .i64 0, .int .i64 0] 43)).setRow (w.heap.size + 2) (encI (itK 4) { data := #[] } none 0 0).toArray = W0 at *
  have hb0 := S0.box
  have S0 := S0.drew
  have IF4 : getIt 4 (restB s a) = andG (getN 8 (restB s a)) fun n r => andG (getN 2 r) fun i r => andG (getN 2 r) fun t r => .ok ({ itK 4 with num := n, idx := (i : Int), tot := (t : Int), data := r }, []) := by
    unfold getIt
    rw [if_neg (by decide), if_neg (by decide), if_neg (by decide)]
    rfl
  have HI := Lib.hid IF4
  clear IF4
  go_upto_region 12 with fail
  go_region_held2 (fun w' => w'.cell? ⟨w.heap.size, 0, none⟩ = some (.pointer (some ⟨b, 0, none⟩))) (first | (with_reducible exact S0.box) | (with_reducible exact S1.box) | (with_reducible exact S2.box) | (with_reducible exact S3.box) | (with_reducible exact S4.box) | (exact cell_set S4.box (by omega)) | (exact cell_set (cell_set S4.box (by omega)) (by omega)) | (exact cell_set (cell_set (cell_set S4.box (by omega)) (by omega)) (by omega)) | (exact cell_set (cell_set (cell_set (cell_set S4.box (by omega)) (by omega)) (by omega)) (by omega)) | go_keep)
    (first
      | (go_at_call 45; (with_reducible refine (rnum _ b s _ 8 8 (by decide) S0.rd).mono ?_); rintro e w1 (⟨v1, _, a1, hG, rfl, rfl, hr, hg⟩ | ⟨x, hG, rfl, hg⟩); rotate_left; exact ⟨rfl, .inr ⟨x, by (rw [HI.out]; simp only [hG, andG_ok, andG_err]), rfl, grown_tr S0.gr hg⟩⟩; (have S1 := S0.go hr hg); (have G1 := Lib.hid hG); clear hG hr hg)
      | (go_at_call 54; (with_reducible refine (rtwo _ b s _ S1.rd).mono ?_); rintro e w2 (⟨v2, _, a2, hG, rfl, rfl, hr, hg⟩ | ⟨x, hG, rfl, hg⟩); rotate_left; exact ⟨rfl, .inr ⟨x, by (rw [HI.out]; simp only [hG, andG_ok, andG_err, G1.out]), rfl, grown_tr S1.gr hg⟩⟩; (have S2 := S1.go hr hg); (have G2 := Lib.hid hG); clear hG hr hg)
      | (go_at_call 54; (with_reducible refine (rtwo _ b s _ S2.rd).mono ?_); rintro e w3 (⟨v3, _, a3, hG, rfl, rfl, hr, hg⟩ | ⟨x, hG, rfl, hg⟩); rotate_left; exact ⟨rfl, .inr ⟨x, by (rw [HI.out]; simp only [hG, andG_ok, andG_err, G1.out, G2.out]), rfl, grown_tr S2.gr hg⟩⟩; (have S3 := S2.go hr hg); (have G3 := Lib.hid hG); clear hG hr hg)
      | (go_at_call 51; (with_reducible refine (rrest _ b s _ S3.rd hs'.out).mono ?_); rintro e w4 (⟨l, _, a4, hG, rfl, ⟨T, rfl, hT⟩, hr, hg⟩ | ⟨x, hG, rfl, hg⟩); rotate_left; exact absurd hG (by unfold getAll; intro h; cases h); (have S4 := S3.go hr hg); (have G4 := Lib.hid hG); (have HT := Lib.hid hT); (have c15 : w4.cell? ⟨w.heap.size + 2, 15, none⟩ = some (.int .u64 0) := S4.row.at_ 15 _ rfl); (have f15 := S4.row.free 15); (have c16 : w4.cell? ⟨w.heap.size + 2, 16, none⟩ = some (.int .i64 0) := S4.row.at_ 16 _ rfl); (have f16 := S4.row.free 16); (have c17 : w4.cell? ⟨w.heap.size + 2, 17, none⟩ = some (.int .i64 0) := S4.row.at_ 17 _ rfl); (have f17 := S4.row.free 17); (have c1 : w4.cell? ⟨w.heap.size + 2, 1, none⟩ = some (.string { data := #[] }) := S4.row.at_ 1 _ rfl); (have f1 := S4.row.free 1); clear hG hr hg hT))
  have T1 := S4.set 15 (.int .u64 (v1 : Int)) (x' := { itK 4 with num := v1 }) (T' := { data := #[] }) (pa' := none) (pk' := 0) (pc' := 0) rfl ⟨rfl, World.ownsRow_nil _ _ _ _, rfl, Nat.zero_le _⟩
  have T2 := T1.set 16 (.int .i64 (v2 : Int)) (x' := { itK 4 with num := v1, idx := (v2 : Int) }) (T' := { data := #[] }) (pa' := none) (pk' := 0) (pc' := 0) rfl ⟨rfl, World.ownsRow_nil _ _ _ _, rfl, Nat.zero_le _⟩
  have T3 := T2.set 17 (.int .i64 (v3 : Int)) (x' := { itK 4 with num := v1, idx := (v2 : Int), tot := (v3 : Int) }) (T' := { data := #[] }) (pa' := none) (pk' := 0) (pc' := 0) rfl ⟨rfl, World.ownsRow_nil _ _ _ _, rfl, Nat.zero_le _⟩
  have SZ := T3.set 1 (.string T) (x' := { itK 4 with num := v1, idx := (v2 : Int), tot := (v3 : Int), data := l }) (T' := T) (pa' := none) (pk' := 0) (pc' := 0) rfl ⟨HT.out, World.ownsRow_nil _ _ _ _, rfl, Nat.zero_le _⟩
  have HE : Hid (getIt 4 (restB s a) = .ok ({ itK 4 with num := v1, idx := (v2 : Int), tot := (v3 : Int), data := l }, restB s a4)) := Lib.hid (by
    have G4 := G4.out
    unfold getAll at G4
    simp only [Except.ok.injEq, Prod.mk.injEq] at G4
    obtain ⟨e1, e2⟩ := G4
    rw [HI.out]
    simp only [andG_ok, G1.out, G2.out, G3.out]
    rw [← e1, ← e2])
  clear S0 S1 S2 S3 S4 T1 T2 T3 hb0
  go_upto_region 13 with fail
  go_wp2_with (first | (refine load_item rfl (.tmp 5) rfl (w.heap.size + 2) rfl SZ.row ?_) | (refine store_item rfl (.tmp 4) (.tmp 53) rfl (w.heap.size + 1) rfl rfl SZ.res ?_))
  (try simp only [Exit.inBlock, Exit.then])
  refine bodyPost_ret (results_item rfl _ _ (w.heap.size + 1) rfl (SZ.res.row _)) rfl ?_
  exact SZ.done HE.out _
end Go.Proofs.Ytblefbjmjhgkkaa
