/- A map of messages by their numbers: what stands in it as a function of the number. -/
import Derived.Test.YtfocjcdfpnbkjaaZSMsg
import Derived.Maps.RangeWalk
import Derived.Deep.RegionHeld3
import Derived.Lib.SliceRun
import Derived.Lib.Slices
import Derived.Lib.Walk
import Derived.Deep.Slices
import Derived.Deep.DeepCutAuto
import Derived.Laws.ResultCell
import Derived.Laws.AppendOwnNone
import Derived.ArgAppend
import Derived.Deep.MidRow
import Derived.Deep.RegionWith
import Derived.BigQuiet
import Derived.StillTailTactics
set_option linter.unusedVariables false
set_option linter.unusedSimpArgs false
namespace Go.Proofs.Ytfocjcdfpnbkjaa
open Go.RowKit Go.Sort Go.Maps

theorem key32 : Keyed Try.prog 30 := int_keyed Try.underlying30
theorem wf_u32' (k : Nat) (h : k < 4294967296) : (Lit.int .u32 (k : Int)).wf = true := by
  have h1 : IntKind.u32.min = 0 := by decide
  have h2 : IntKind.u32.max = 4294967295 := by decide
  simp [Lit.wf, h1, h2]
  omega
theorem keyOf32 (k : Nat) (h : k < 4294967296) : keyOf Try.prog 30 (.int .u32 (k : Int)) = some (.int .u32 (k : Int)) := keyOf_int_mk Try.underlying30 (wf_u32' k h)
theorem isKey32 (k : Nat) (h : k < 4294967296) : WideAt.IsKeyLit (.int .u32 (k : Int)) := key32.key (keyOf32 k h)

/-- A message's value. -/
def valG (m : Mg) : Value := .agg (encG m).toArray
/-- The message of nought. -/
def zeroG : Mg := ⟨0, 0, 0, 0, none, 0, 0, [], { data := #[] }⟩
theorem zeroMsg (w : World) : (zeroValue 47).run Try.prog w = .ok (valG zeroG) w := by kernel_rfl
/-- How a message in a map reads: as itself. -/
noncomputable def rdG (v : Value) : Option (DataW Value × List MemPlace) :=
  open Classical in if ∃ m : Mg, v = valG m then some (.held v, []) else none
theorem rdG_mk (m : Mg) : rdG (valG m) = some (.held (valG m), []) := by unfold rdG; rw [if_pos ⟨m, rfl⟩]
theorem rdG_inv {v : Value} {y : DataW Value × List MemPlace} (h : rdG v = some y) : (∃ m : Mg, v = valG m) ∧ y = (.held v, []) := by
  unfold rdG at h
  split at h
  · rename_i hm; injection h with h; exact ⟨hm, h.symm⟩
  · cases h

/-- Block b is a map of n messages, of which at k stands H k. -/
structure MapAt (w : World) (b : Nat) (H : Nat → Option Mg) (n : Nat) : Prop where
  ex : ∃ D : DataW Value, w.ownsMap Try.prog 30 rdG b n D ∧ size D = n ∧
    (∀ k : Nat, k < 4294967296 → H k = none → has D (.int .u32 (k : Int)) = false) ∧ (∀ k : Nat, k < 4294967296 → ∀ m, H k = some m → ∀ z, D.atKey (.int .u32 (k : Int)) z = .held (valG m))

theorem owns_tight {w : World} {b n : Nat} {D : DataW Value} (h : w.ownsMap Try.prog 30 rdG b n D) : w.ownsMap Try.prog 30 rdG b (size D) D := by
  obtain ⟨es, clock, hb, F, hs, rfl⟩ := h
  refine ⟨es, clock, hb, F, ?_, rfl⟩
  simp [Maps.size, length_sorted]
theorem MapAt.made (w : World) : MapAt (w.alloc (.map #[] 0)) w.heap.size (fun _ => none) 0 :=
  ⟨_, World.ownsMap_made w _ _ _, rfl, fun k _ _ => rfl, fun k _ m h => by cases h⟩
theorem MapAt.lt {w : World} {b n : Nat} {H : Nat → Option Mg} (h : MapAt w b H n) : b < w.heap.size := by
  obtain ⟨D, ho, _⟩ := h
  exact ho.lt
theorem MapAt.grown {w w' : World} {b n : Nat} {H : Nat → Option Mg} {row : Option Nat} (h : MapAt w b H n) (hg : w.grownBy w' row) (hne : some b ≠ row) : MapAt w' b H n := by
  obtain ⟨D, ho, r⟩ := h
  exact ⟨D, ho.kept hg hne, r⟩
theorem MapAt.below {w w' : World} {b n B : Nat} {H : Nat → Option Mg} (h : MapAt w b H n) (hb : Below B w w') (hB : b < B) : MapAt w' b H n := by
  obtain ⟨D, ⟨es, clock, h1, r1⟩, r⟩ := h
  exact ⟨D, ⟨es, clock, (hb.block b hB).trans h1, r1⟩, r⟩
theorem MapAt.drew {w : World} {b n : Nat} {H : Nat → Option Mg} (h : MapAt w b H n) : MapAt w.drew b H n := ⟨h.ex⟩
theorem MapAt.alloc {w : World} {b n : Nat} {H : Nat → Option Mg} (h : MapAt w b H n) (o : Obj) : MapAt (w.alloc o) b H n := h.grown (World.grownBy_alloc w o none) (by simp)
theorem MapAt.setCell {w : World} {b n : Nat} {H : Nat → Option Mg} (h : MapAt w b H n) {a : Addr} (ha : b ≠ a.block) (u : Value) : MapAt (w.setCell a u) b H n := by
  obtain ⟨D, ho, r⟩ := h
  exact ⟨D, ho.setCell ha u, r⟩
theorem MapAt.congr {w : World} {b n : Nat} {H H' : Nat → Option Mg} (h : MapAt w b H n) (he : ∀ k, k < 4294967296 → H k = H' k) : MapAt w b H' n := by
  obtain ⟨D, ho, h1, h2, h3⟩ := h
  exact ⟨D, ho, h1, fun k hk e => h2 k hk ((he k hk).trans e), fun k hk m e => h3 k hk m ((he k hk).trans e)⟩

def setF (H : Nat → Option Mg) (k : Nat) (x : Option Mg) : Nat → Option Mg := fun j => if j = k then x else H j
theorem setF_same (H : Nat → Option Mg) (k : Nat) (x : Option Mg) : setF H k x k = x := if_pos rfl
theorem setF_other (H : Nat → Option Mg) (k : Nat) (x : Option Mg) {j : Nat} (h : j ≠ k) : setF H k x j = H j := if_neg h
theorem lit_ne {j k : Nat} (h : j ≠ k) : Lit.int .u32 (j : Int) ≠ Lit.int .u32 (k : Int) := by
  intro e
  injection e with _ e
  omega

end Go.Proofs.Ytfocjcdfpnbkjaa

/- A stream in memory: its block, its map; what a call leaves of the rest; New, Count, Held, Lacks, holds. -/
set_option linter.unusedVariables false
set_option linter.unusedSimpArgs false
namespace Go.Proofs.Ytfocjcdfpnbkjaa
open Go.RowKit Go.Sort Go.Maps

/-- Nothing of what was there has turned but blocks g and b. -/
structure Mv (g b : Nat) (w w' : World) : Prop where
  os : w'.os = w.os
  tape : w'.tape = w.tape
  output : w'.output = w.output
  size : w.heap.size ≤ w'.heap.size
  block : ∀ k, k < w.heap.size → k ≠ g → k ≠ b → w'.heap[k]? = w.heap[k]?
theorem Mv.refl (g b : Nat) (w : World) : Mv g b w w := ⟨rfl, rfl, rfl, Nat.le_refl _, fun _ _ _ _ => rfl⟩
theorem Mv.trans {g b : Nat} {w w' w'' : World} (h : Mv g b w w') (k : Mv g b w' w'') : Mv g b w w'' :=
  ⟨k.os.trans h.os, k.tape.trans h.tape, k.output.trans h.output, Nat.le_trans h.size k.size, fun i hi h1 h2 => (k.block i (Nat.lt_of_lt_of_le hi h.size) h1 h2).trans (h.block i hi h1 h2)⟩
theorem Mv.of_below {g b : Nat} {w w' : World} (h : Below w.heap.size w w') : Mv g b w w' := ⟨h.os, h.tape, h.output, h.size, fun k hk _ _ => h.block k hk⟩
theorem Mv.grw {g b : Nat} {w w' : World} (h : Grw w w') : Mv g b w w' := .of_below h.below
/-- A step that turns a block that is new since w, or g, or b. -/
theorem Mv.grown {g b : Nat} {w w' w'' : World} {o : Option Nat} (h : Mv g b w w') (k : w'.grownBy w'' o) (ho : ∀ j, o = some j → w.heap.size ≤ j ∨ j = g ∨ j = b) : Mv g b w w'' :=
  ⟨k.os.trans h.os, k.tape.trans h.tape, k.output.trans h.output, Nat.le_trans h.size k.size, fun i hi h1 h2 => (k.block i (Nat.lt_of_lt_of_le hi h.size) (fun e => by
    rcases ho i e.symm with e1 | e1 | e1
    · omega
    · exact h1 e1
    · exact h2 e1)).trans (h.block i hi h1 h2)⟩
theorem Mv.below {g b : Nat} {w w' : World} (h : Mv g b w w') {B : Nat} (h0 : B ≤ w.heap.size) (h1 : B ≤ g) (h2 : B ≤ b) : Below B w w' :=
  ⟨h.os, h.tape, h.output, h.size, fun k hk => h.block k (by omega) (by omega) (by omega)⟩
theorem grown_set (w : World) (g j : Nat) (v : Value) : w.grownBy (w.setCell ⟨g, j, none⟩ v) (some g) :=
  ⟨rfl, rfl, rfl, by simp, fun k hk ho => heap_setCell_other w ⟨g, j, none⟩ k v (by intro e; apply ho; rw [e])⟩
theorem Mv.set {g b : Nat} {w w' : World} (h : Mv g b w w') (j : Nat) (v : Value) : Mv g b w (w'.setCell ⟨g, j, none⟩ v) := h.grown (grown_set w' g j v) (fun k e => by cases e; exact .inr (.inl rfl))
theorem Mv.turn {g b : Nat} {w w' w'' : World} (h : Mv g b w w') (k : w'.mapTurned w'' b) : Mv g b w w'' := h.grown k.grown (fun k e => by cases e; exact .inr (.inr rfl))
theorem Mv.drew {g b : Nat} {w w' : World} (h : Mv g b w w') : Mv g b w w'.drew := ⟨h.os, h.tape, h.output, h.size, h.block⟩
theorem Mv.alloc {g b : Nat} {w w' : World} (h : Mv g b w w') (o : Obj) : Mv g b w (w'.alloc o) := h.trans (.grw ((Grw.refl _).alloc o))

theorem msg_size : (Try.prog.info? 47).map (·.size) = some 6 := by kernel_rfl

/-- The size, as it counts. -/
def szN (n : Int) : Nat := (if n < 1 then 1 else if 64 < n then 64 else n).toNat
theorem szN_bounds (n : Int) : 1 ≤ szN n ∧ szN n ≤ 64 := by
  unfold szN
  split
  · decide
  · split
    · decide
    · omega

def lackN (c u : Nat) : Nat := if c < u then c + 1 else 0
end Go.Proofs.Ytfocjcdfpnbkjaa

/- A message in memory of its own: slices.Clone of its Deps, own. -/
set_option linter.unusedVariables false
set_option linter.unusedSimpArgs false
namespace Go.Proofs.Ytfocjcdfpnbkjaa
open Go.RowKit Go.Sort Go.Maps

theorem add_lit10 (b o k : Nat) : (⟨b, o, none⟩ : Addr).add k = ⟨b, o + k, none⟩ := by cases k <;> simp [Addr.add]
theorem info32s : (Try.prog.info? 30).map (fun i => (i.zero, i.size, i.bytes)) = some (some (.int .u32 0), 1, 4) := by kernel_rfl
/-- x is m, but for where its Deps lie. -/
def Like (x m : Mg) : Prop := ∃ a dc, x = { m with a := a, dc := dc }
theorem Like.refl (m : Mg) : Like m m := ⟨m.a, m.dc, rfl⟩
theorem Like.q {x m : Mg} (h : Like x m) : x.q = m.q := by obtain ⟨a, dc, rfl⟩ := h; rfl
theorem Like.dl {x m : Mg} (h : Like x m) : x.dl = m.dl := by obtain ⟨a, dc, rfl⟩ := h; rfl
theorem Like.same {x m : Mg} (h : Like x m) : sameG x m = true := by
  obtain ⟨a, dc, rfl⟩ := h
  unfold sameG
  simp
theorem Like.trans {x y m : Mg} (h : Like x y) (k : Like y m) : Like x m := by
  obtain ⟨a, dc, rfl⟩ := h
  obtain ⟨a', dc', rfl⟩ := k
  exact ⟨a, dc, rfl⟩
/-- A copy of m whose Deps lie in blocks from B on. -/
structure CopyOf (w : World) (B : Nat) (m x : Mg) : Prop where
  like : Like x m
  deps : DpIn w x
  new : ∀ ad, x.a = some ad → B ≤ ad.block

def encW (n : Int) : List Value := [.int .u32 n]
set_option maxHeartbeats 2000000 in
set_option maxRecDepth 100000 in
theorem cloneW_some (ad : Addr) (n c : Nat) (l : List Int) (w : World) (hn : n ≤ 1048576) (hc : Lst (fun n : Int => [.int .u32 n]) 1 w (some ad) n l) :
    Calls Try.prog 99 #[.slice (some ad) n c] w fun e w' => ∃ a' dc', e = .returned (.slice a' n dc') ∧ Lst (fun n : Int => [.int .u32 n]) 1 w' a' n l ∧ (∀ x, a' = some x → w.heap.size ≤ x.block) ∧ Below w.heap.size w w' := by
  obtain ⟨i0, hi, hz0, hz1, hz2⟩ := info_parts info32s
  have q : ∀ (w : World) (a : Option Addr) (n c n' c' : Nat), (binOp .eql 45 (.slice a n c) (.slice none n' c')).run Try.prog w = .ok (.bool a.isNone) w := fun w a n c n' c' => Lib.run_eql_slice_nil w _ _ a n c n' c' Try.underlying45
  have HC := Lib.hid hc
  clear hc
  go_enter Try.func99, Try.ntmps99
  go_wp2_with (at_builtin; refine wpList_append_own _ rfl _ _ 45 rfl w.heap.size 30 i0 (.int .u32 0) 1 4 Try.underlying45 hi hz0 hz1 hz2 rfl (by decide) _ _ _ rfl (World.ownsRow_made w #[] 0 (Nat.le_refl _) (Nat.zero_le _) (by simp)) ad n c (flat encW l) rfl ?qc1 ?qc2 ?qc3 ?qc4 ?qc5 ?qc6 ?_)
  case qc1 => rw [flat_length encW 1 (fun _ => rfl), HC.out.size]
  case qc2 =>
    intro j u hj
    have hj' : j < l.length * 1 := by have := (List.getElem?_eq_some_iff.1 hj).1; rwa [flat_length encW 1 (fun _ => rfl)] at this
    obtain ⟨b, o, e, R⟩ := HC.out.src (by rw [← HC.out.size]; omega)
    injection e with e
    subst e
    rw [add_lit10]
    exact cell_later ((Grw.refl w).alloc _).below (RowAt.flat (enc := encW) (fun _ => rfl) R j u hj)
  case qc3 =>
    intro u hu
    unfold flat at hu
    obtain ⟨c, hc, huc⟩ := List.mem_flatten.1 hu
    obtain ⟨m, _, rfl⟩ := List.mem_map.1 hc
    simp only [encW, List.mem_singleton] at huc
    subst huc
    rfl
  case qc4 => rw [Nat.zero_add]; unfold maxLen; omega
  case qc5 => rw [Nat.zero_add]; omega
  case qc6 => simp
  intro v' w1 hown hgrow hnil
  have hown2 := own_eq (n' := n) (xs' := flat encW l) hown (by first | rfl | omega) (by first | rfl | exact List.nil_append _)
  obtain ⟨a', dc', rfl⟩ := own_form' hown2
  have HL := Lib.hid (own_lst' (enc := encW) (fun _ => rfl) HC.out.size hown2)
  have HN : Hid (∀ x, a' = some x → w.heap.size ≤ x.block) := Lib.hid fun x hx => (hown2.lt x.block (by rw [hx]; rfl)).1
  have HB := Lib.hid (((Below.refl _ w).alloc (Nat.le_refl _) (.cells #[] 30)).grown hgrow (by simp) (by intro k hk; simp [Value.ownBlock] at hk; omega))
  clear hown hown2 hgrow hnil
  go_wp2
  go_ret
  exact ⟨a', ⟨dc', rfl⟩, HL.out, HN.out, HB.out⟩
set_option maxHeartbeats 1000000 in
theorem cloneW_nil (n c : Nat) (w : World) : Calls Try.prog 99 #[.slice none n c] w fun e w' => e = .returned (.slice none 0 0) ∧ w = w' := by
  have q : ∀ (w : World) (a : Option Addr) (n c n' c' : Nat), (binOp .eql 45 (.slice a n c) (.slice none n' c')).run Try.prog w = .ok (.bool a.isNone) w := fun w a n c n' c' => Lib.run_eql_slice_nil w _ _ a n c n' c' Try.underlying45
  go_enter Try.func99, Try.ntmps99
  go_wp2
  go_ret
  exact ⟨rfl, rfl⟩
theorem cloneW (a : Option Addr) (n c : Nat) (l : List Int) (w : World) (hn : n ≤ 1048576) (hc : Lst (fun n : Int => [.int .u32 n]) 1 w a n l) :
    Calls Try.prog 99 #[.slice a n c] w fun e w' => ∃ a' dc', e = .returned (.slice a' n dc') ∧ Lst (fun n : Int => [.int .u32 n]) 1 w' a' n l ∧ (∀ x, a' = some x → w.heap.size ≤ x.block) ∧ Below w.heap.size w w' := by
  cases a with
  | some ad => exact cloneW_some ad n c l w hn hc
  | none =>
    have h0 : n = 0 := by
      rcases Nat.eq_zero_or_pos n with e | e
      · exact e
      · obtain ⟨_, _, e', _⟩ := hc.src e; cases e'
    subst h0
    refine (cloneW_nil 0 c w).mono ?_
    rintro e w' ⟨rfl, rfl⟩
    exact ⟨none, 0, rfl, hc, (fun x hx => by cases hx), Below.refl _ _⟩

/-- A message's block. -/
def MgB (w : World) (g : Nat) (m : Mg) : Prop := Own w g 47 (encG m).toArray
theorem MgB.own {w : World} {g : Nat} {m : Mg} (h : MgB w g m) : Own w g 47 #[.int .i64 m.f, .int .u32 m.q, .int .u64 m.s, .int .i64 m.v, .slice m.a m.dl m.dc, .string m.text] := h
theorem MgB.new (w : World) (m : Mg) : MgB (w.alloc (.cells #[.int .i64 m.f, .int .u32 m.q, .int .u64 m.s, .int .i64 m.v, .slice m.a m.dl m.dc, .string m.text] 47)) w.heap.size m := Own.new w _ _
theorem MgB.later {w w' : World} {g : Nat} {m : Mg} (h : MgB w g m) (hb : Below w.heap.size w w') : MgB w' g m := Own.below h hb (Own.lt h)
theorem MgB.row {w : World} {g : Nat} {m : Mg} (h : MgB w g m) (x : Mg) : MgB (w.setRow g (encG x).toArray) g x := setRow_heap _ _ _ _ _ _ h
theorem MgB.lt {w : World} {g : Nat} {m : Mg} (h : MgB w g m) : g < w.heap.size := Own.lt h
theorem mg_one (m : Mg) : (encG m).toArray.all (·.oneCell') = true := by simp [encG, Value.oneCell']
theorem store_mg {ops : Array Oper} {rest : List Oper} {o : Oper} {A : Act} {w : World} {Q : Exit → Act → World → Prop} (hgd : o.guard = none) (x y : Operand) (ho : o.op = .store 47 x y)
    (g : Nat) (m : Mg) (hx : A.eval x = .pointer (some ⟨g, 0, none⟩)) (hy : A.eval y = valG m) {m0 : Mg} (hg : MgB w g m0)
    (h : wpList Try.prog ops Q rest (A.put o.dst undef) (w.setRow g (encG m).toArray)) : wpList Try.prog ops Q (o :: rest) A w :=
  wpList_store_row hgd 47 x y ho g _ hx hy 47 _ hg msg_size rfl (mg_one m) h
theorem load_mg {ops : Array Oper} {rest : List Oper} {o : Oper} {A : Act} {w : World} {Q : Exit → Act → World → Prop} (hgd : o.guard = none) (x : Operand) (ho : o.op = .load 47 x)
    (g : Nat) (hx : A.eval x = .pointer (some ⟨g, 0, none⟩)) {m : Mg} (hg : MgB w g m)
    (h : wpList Try.prog ops Q rest (A.put o.dst (valG m)) w) : wpList Try.prog ops Q (o :: rest) A w :=
  wpList_load_row hgd 47 x ho g hx 47 _ _ _ hg Try.underlying47 rfl msg_size h
theorem results_mg {fn : Func} {p : Tmp} (h : fn.results = #[.cell p 47]) (tmps : Array Value) (w : World) (g : Nat) {m : Mg} (hp : tmps.getD p undef = .pointer (some ⟨g, 0, none⟩)) (hg : MgB w g m) :
    (results fn tmps).run Try.prog w = .ok (valG m) w :=
  results_cell_row h tmps w g 47 _ (0, 0) _ hp hg Try.underlying47 rfl msg_size
theorem belowRow10 {B : Nat} {a w : World} (h : Go.RowKit.Below B a w) (g : Nat) (hg : B ≤ g) (cs : Array Value) : Go.RowKit.Below B a (w.setRow g cs) :=
  ⟨h.os, h.tape, h.output, by rw [size_setRow]; exact h.size, fun k hk => (setRow_other _ _ _ _ (by omega)).trans (h.block k hk)⟩

end Go.Proofs.Ytfocjcdfpnbkjaa

/- Rows of messages of the call's own: append, at the operation and in a drawn region. -/
set_option linter.unusedVariables false
set_option linter.unusedSimpArgs false
namespace Go.Proofs.Ytfocjcdfpnbkjaa
open Go.RowKit Go.Sort Go.Maps

theorem encG_oneC (m : Mg) : ∀ u ∈ encG m, u.oneCell' = true := encG_one m
theorem flatG_one {l : List Mg} : ∀ u ∈ flat encG l, u.oneCell' = true := by
  intro u hu
  unfold flat at hu
  obtain ⟨c, hc, huc⟩ := List.mem_flatten.1 hu
  obtain ⟨m, _, rfl⟩ := List.mem_map.1 hc
  exact encG_one m u huc
def zeroMg : Value := .agg #[.int .i64 0, .int .u32 0, .int .u64 0, .int .i64 0, .slice none 0 0, .string { data := #[] }]
theorem infoMg : (Try.prog.info? 47).map (fun i => (i.zero, i.size, i.bytes)) = some (some zeroMg, 6, 72) := by kernel_rfl
/-- 'append' onto a row of the call's own, whatever slice of messages the source is. -/
theorem wp_append_mg (w : World) {o : Oper} {a : Act} {K : Act → World → Prop} {Q : Exit → Act → World → Prop} (s x : Operand)
    (ho : o.op = .call { callee := .builtin .append, args := #[s, x], argTypes := #[29, 29] })
    (base : Nat) (v : Value) (n : Nat) (xs : List Value) (hs : a.eval s = v) (hown : w.ownsRow base 47 6 v n xs)
    (ao : Option Addr) (m c : Nat) (l : List Mg) (hx : a.eval x = .slice ao m c) (hnil : ao = none → c = 0) (hl : Lst encG 6 w ao m l) (hn : n + m ≤ 200000) (hbase : base ≤ w.heap.size)
    (h : ∀ v' w', w'.ownsRow base 47 6 v' (n + m) (xs ++ flat encG l) → w.grownBy w' v.ownBlock → K (a.put o.dst v') w') : o.wp Try.prog a w K Q := by
  obtain ⟨i0, hi, hz0, hz1, hz2⟩ := info_parts infoMg
  have ht := Try.underlying29
  cases ao with
  | none =>
    have hm : m = 0 := by
      rcases Nat.eq_zero_or_pos m with e | e
      · exact e
      · obtain ⟨b, o', e', _⟩ := hl.src e; cases e'
    subst hm
    have hc := hnil rfl
    subst hc
    have hl0 : l = [] := List.eq_nil_of_length_eq_zero hl.size
    subst hl0
    have hrun := run_append_owned_none (P := Try.prog) (w := w) base 29 o.type 47 i0 6 ht hi v n xs hown
    unfold Oper.wp
    simp [execOp, ho, resolve, invoke, builtin, hs, hx, hrun, Result.andThen]
    exact h v w (by simpa [flat_nil] using hown) (World.grownBy.refl w _)
  | some ad =>
    refine wp_append_own w s x 29 ho base 47 i0 zeroMg 6 72 ht hi hz0 hz1 hz2 rfl (by decide) v n xs hs hown ad m c (flat encG l) hx (by rw [flat_length encG 6 encG_length, hl.size]) (fun j u hu => ?_) flatG_one (by unfold maxLen; omega) (by omega) hbase (fun v' w' h1 h2 _ => h v' w' h1 h2)
    have hj : j < m * 6 := by have := (List.getElem?_eq_some_iff.1 hu).1; rw [flat_length encG 6 encG_length, hl.size] at this; exact this
    obtain ⟨b, o', e', R⟩ := hl.src (by omega)
    cases e'
    rw [add_lit10]
    exact R.flat encG_length j u hu
/-- The same for the walk. -/
theorem append_mg (w : World) {ops : Array Oper} {rest : List Oper} {o : Oper} {a : Act} {Q : Exit → Act → World → Prop} (hgd : o.guard = none) (s x : Operand)
    (ho : o.op = .call { callee := .builtin .append, args := #[s, x], argTypes := #[29, 29] })
    (base : Nat) (v : Value) (n : Nat) (xs : List Value) (hs : a.eval s = v) (hown : w.ownsRow base 47 6 v n xs)
    (ao : Option Addr) (m c : Nat) (l : List Mg) (hx : a.eval x = .slice ao m c) (hnil : ao = none → c = 0) (hl : Lst encG 6 w ao m l) (hn : n + m ≤ 200000) (hbase : base ≤ w.heap.size)
    (h : ∀ v' w', w'.ownsRow base 47 6 v' (n + m) (xs ++ flat encG l) → w.grownBy w' v.ownBlock → wpList Try.prog ops Q rest (a.put o.dst v') w') : wpList Try.prog ops Q (o :: rest) a w :=
  wpList_plain hgd fun K' hK' => wp_append_mg w s x ho base v n xs hs hown ao m c l hx hnil hl hn hbase fun v' w' h1 h2 => hK' _ _ (h v' w' h1 h2)

theorem own_behind {w : World} {base n k : Nat} {t : TypeId} {v : Value} {xs : List Value} (h : w.ownsRow base t k v n xs) : ∀ g, v.ownBlock = some g → base ≤ g := by
  intro g hg
  rcases h.2 with ⟨rfl, _⟩ | ⟨g', c, cur, rfl, hb, _⟩
  · simp [Value.ownBlock] at hg
  · simp [Value.ownBlock] at hg; omega
/-- A row stays where its block does. -/
theorem own_stays {w w' : World} {base n k : Nat} {t : TypeId} {v : Value} {xs : List Value} (h : w.ownsRow base t k v n xs) (hb : ∀ g, v.ownBlock = some g → g < w.heap.size → w'.heap[g]? = w.heap[g]?) : w'.ownsRow base t k v n xs := by
  refine ⟨h.1, ?_⟩
  rcases h.2 with h1 | ⟨g, c, cur, h1, h2, h3, h4⟩
  · exact .inl h1
  · exact .inr ⟨g, c, cur, h1, h2, (hb g (by rw [h1]; rfl) (Array.getElem?_eq_some_iff.1 h3).1).trans h3, h4⟩
theorem own_mv {w w' : World} {base n k g b : Nat} {t : TypeId} {v : Value} {xs : List Value} (h : w.ownsRow base t k v n xs) (m : Mv g b w w') (hg : g < base) (hb : b < base) : w'.ownsRow base t k v n xs :=
  own_stays h fun j hj hl => m.block j hl (by have := own_behind h j hj; omega) (by have := own_behind h j hj; omega)
theorem own_below {w w' : World} {base n k : Nat} {t : TypeId} {v : Value} {xs : List Value} (h : w.ownsRow base t k v n xs) (hb : Below w.heap.size w w') : w'.ownsRow base t k v n xs :=
  own_stays h fun j hj hl => hb.block j hl
theorem own_lt {w : World} {base n nb c : Nat} {t : TypeId} {xs : List Value} {k : Nat} (h : w.ownsRow base t k (.slice (some ⟨nb, 0, none⟩) n c) n xs) : nb < w.heap.size := by
  rcases h.2 with ⟨h1, _⟩ | ⟨g, c, cur, h1, _, h3, _⟩
  · cases h1
  · injection h1 with h1; injection h1 with h1; injection h1 with h1; subst h1; exact (Array.getElem?_eq_some_iff.1 h3).1
/-- A block of one message, as a slice of one. -/
theorem lst_one {w : World} {g : Nat} {m : Mg} (h : MgB w g m) : Lst encG 6 w (some ⟨g, 0, none⟩) 1 [m] := by
  refine ⟨rfl, fun _ => ⟨g, 0, rfl, fun i x hx c v hv => ?_⟩⟩
  have hi : i < 1 := (List.getElem?_eq_some_iff.1 hx).1
  obtain rfl : i = 0 := by omega
  cases hx
  rw [show 0 + 0 * 6 + c = c by omega]
  exact Own.at_ h c v (by rw [List.getElem?_toArray]; exact hv)
/-- Take an operation first; its slot by its number. -/
theorem stake {P : Program} {md : Region.Mode} {ops : Array Oper} {Q : Exit → Act → World → Prop} {S : World → Prop} {i : Nat} {oi : Oper} {v : Value} {fuel : Nat} {listed : Array Bool} {a : Act} {w : World} (d : Nat) (hi : ops[i]? = some oi) (hd : oi.dst = some d)
    (hs : Region.noSelect ops = true) (hf : Region.free md ops listed i = true) (hr : (Region.ready md ops listed).contains i = true)
    (hQ : ∀ c a w, Q (.panic c) (a.put oi.dst v) w → Q (.panic c) a w) (hy : YieldsIf P ops S oi v a) (hS : S w)
    (h : wpAnyH P md ops Q S fuel (listed.setIfInBounds i true) (a.put (some d) v) w) : wpAnyH P md ops Q S (fuel + 1) listed a w :=
  wpAnyH_take hi hs hf hr hQ hy hS (by rw [hd]; exact h)
theorem MapAt.pos {w : World} {b n : Nat} {H : Nat → Option Mg} (h : MapAt w b H n) (k : Nat) (hk : k < 4294967296) {m : Mg} (hH : H k = some m) : 0 < n := by
  obtain ⟨D, ho, h1, h2, h3⟩ := h
  rcases Nat.eq_zero_or_pos n with e | e
  · exfalso
    obtain ⟨es, rfl⟩ := ho.isMap
    have hes : es = [] := List.eq_nil_of_length_eq_zero (by rw [← e, ← h1]; rfl)
    have := h3 k hk m hH .nil
    rw [hes] at this
    cases this
  · exact e
/-- Without what goes on behind c, k of them. -/
def cutF (H : Nat → Option Mg) (c k : Nat) : Nat → Option Mg := fun j => if c < j ∧ j ≤ c + k then none else H j
theorem cutF_zero (H : Nat → Option Mg) (c : Nat) : cutF H c 0 = H := by
  funext j
  unfold cutF
  rw [if_neg (by omega)]
theorem cutF_next (H : Nat → Option Mg) (c k : Nat) : setF (cutF H c k) (c + k + 1) none = cutF H c (k + 1) := by
  funext j
  unfold setF cutF
  by_cases e : j = c + k + 1
  · rw [if_pos e, if_pos (by omega)]
  · rw [if_neg e]
    by_cases e2 : c < j ∧ j ≤ c + k
    · rw [if_pos e2, if_pos (by omega)]
    · rw [if_neg e2, if_neg (by omega)]
theorem cutF_at (H : Nat → Option Mg) (c k : Nat) : cutF H c k (c + k + 1) = H (c + k + 1) := by
  unfold cutF
  rw [if_neg (by omega)]
def lenOf : Value → Nat
  | .slice _ n _ => n
  | _ => 0
end Go.Proofs.Ytfocjcdfpnbkjaa

/- Rows of messages that lie anywhere in their block; which blocks may turn. -/
set_option linter.unusedVariables false
set_option linter.unusedSimpArgs false
namespace Go.Proofs.Ytfocjcdfpnbkjaa
open Go.RowKit Go.Sort

/-- Of what was there only blocks of D have turned. -/
structure Chg (D : Nat → Prop) (w w' : World) : Prop where
  os : w'.os = w.os
  tape : w'.tape = w.tape
  output : w'.output = w.output
  size : w.heap.size ≤ w'.heap.size
  block : ∀ k, k < w.heap.size → ¬ D k → w'.heap[k]? = w.heap[k]?
theorem Chg.refl (D : Nat → Prop) (w : World) : Chg D w w := ⟨rfl, rfl, rfl, Nat.le_refl _, fun _ _ _ => rfl⟩
theorem Chg.to {D E : Nat → Prop} {a b c : World} (h : Chg D a b) (k : Chg E b c) (hE : ∀ i, i < a.heap.size → E i → D i) : Chg D a c :=
  ⟨k.os.trans h.os, k.tape.trans h.tape, k.output.trans h.output, Nat.le_trans h.size k.size, fun i hi hn => (k.block i (Nat.lt_of_lt_of_le hi h.size) (fun e => hn (hE i hi e))).trans (h.block i hi hn)⟩
theorem Chg.trans {D : Nat → Prop} {a b c : World} (h : Chg D a b) (k : Chg D b c) : Chg D a c := h.to k fun _ _ e => e
theorem Chg.mono {D E : Nat → Prop} {a b : World} (h : Chg D a b) (hE : ∀ i, i < a.heap.size → D i → E i) : Chg E a b :=
  ⟨h.os, h.tape, h.output, h.size, fun i hi hn => h.block i hi (fun e => hn (hE i hi e))⟩
theorem Chg.of_below {D : Nat → Prop} {w w' : World} (h : Below w.heap.size w w') : Chg D w w' := ⟨h.os, h.tape, h.output, h.size, fun k hk _ => h.block k hk⟩
theorem Chg.grown {D : Nat → Prop} {w w' : World} {o : Option Nat} (h : w.grownBy w' o) (ho : ∀ k, o = some k → D k) : Chg D w w' :=
  ⟨h.os, h.tape, h.output, h.size, fun k hk hn => h.block k hk (fun e => hn (ho k e.symm))⟩
theorem Chg.below {D : Nat → Prop} {B : Nat} {w w' : World} (h : Chg D w w') (h0 : B ≤ w.heap.size) (hD : ∀ k, D k → B ≤ k) : Below B w w' :=
  ⟨h.os, h.tape, h.output, h.size, fun k hk => h.block k (by omega) (fun e => by have := hD k e; omega)⟩
theorem Chg.alloc {D : Nat → Prop} {a b : World} (h : Chg D a b) (o : Obj) : Chg D a (b.alloc o) := h.to (Chg.of_below (D := fun _ => False) (((Grw.refl b).alloc o).below)) fun _ _ e => e.elim
theorem Chg.then {D : Nat → Prop} {a b c : World} (h : Chg D a b) (k : Below b.heap.size b c) : Chg D a c := h.to (Chg.of_below (D := fun _ => False) k) fun _ _ e => e.elim
theorem Chg.after {D : Nat → Prop} {a b c : World} (h : Below a.heap.size a b) (k : Chg D b c) : Chg D a c := (Chg.of_below (D := fun _ => False) h).mono (fun _ _ e => e.elim) |>.to k fun _ _ e => e

/-- A message, but for where its Deps lie. -/
def strip (m : Mg) : Mg := { m with a := none, dc := 0 }
theorem strip_same {x y : Mg} (h : strip x = strip y) : sameG x y = true := by
  obtain ⟨f, q, s, v, a, dl, dc, deps, text⟩ := x
  obtain ⟨f', q', s', v', a', dl', dc', deps', text'⟩ := y
  unfold strip at h
  injection h with h1 h2 h3 h4 _ h5 _ h6 h7
  simp only at h1 h2 h3 h4 h5 h6 h7
  subst h1 h2 h3 h4 h5 h6 h7
  unfold sameG; simp
theorem strip_like {x y : Mg} (h : Like x y) : strip x = strip y := by obtain ⟨a, dc, rfl⟩ := h; rfl
theorem strip_f {x y : Mg} (h : strip x = strip y) : x.f = y.f := by have := congrArg Mg.f h; exact this
theorem strip_q {x y : Mg} (h : strip x = strip y) : x.q = y.q := by have := congrArg Mg.q h; exact this
theorem strip_s {x y : Mg} (h : strip x = strip y) : x.s = y.s := by have := congrArg Mg.s h; exact this
theorem strip_strip (x : Mg) : strip (strip x) = strip x := rfl

/-- A slice. -/
structure Sl where
  a : Option Addr
  n : Nat
  c : Nat
  deriving Inhabited
def Sl.v (s : Sl) : Value := .slice s.a s.n s.c
def slNil : Sl := ⟨none, 0, 0⟩
/-- A row of messages in the block b, from the cell 'off' on. -/
structure MRow (w : World) (b off n cap : Nat) (X : List Mg) : Prop where
  ex : ∃ cur : Array Value, w.heap[b]? = some (.cells cur 47 (0, 0)) ∧ off + cap * 6 ≤ cur.size ∧ ∀ j u, (flat encG X)[j]? = some u → cur[off + j]? = some u
  len : X.length = n
  le : n ≤ cap
  max : cap ≤ maxLen
section
variable {w : World} {b off n cap : Nat} {X : List Mg}
theorem MRow.lt (h : MRow w b off n cap X) : b < w.heap.size := by
  obtain ⟨cur, h1, _⟩ := h.ex
  exact (Array.getElem?_eq_some_iff.1 h1).1
theorem MRow.kept {w' : World} (h : MRow w b off n cap X) (hb : w'.heap[b]? = w.heap[b]?) : MRow w' b off n cap X := by
  obtain ⟨cur, h1, h2⟩ := h.ex
  exact ⟨⟨cur, hb.trans h1, h2⟩, h.len, h.le, h.max⟩
theorem MRow.below {w' : World} (h : MRow w b off n cap X) (hb : Below w.heap.size w w') : MRow w' b off n cap X := h.kept (hb.block b h.lt)
theorem MRow.cell (h : MRow w b off n cap X) (j : Nat) (u : Value) (hu : (flat encG X)[j]? = some u) : w.cell? ⟨b, off + j, none⟩ = some u := by
  obtain ⟨cur, h1, _, h3⟩ := h.ex
  rw [cell_of_row _ _ _ _ _ _ h1]
  exact h3 j u hu
theorem MRow.free (h : MRow w b off n cap X) (j : Nat) : w.frozen? ⟨b, j, none⟩ = false := by
  obtain ⟨cur, h1, _⟩ := h.ex
  exact frozen_of_row w b j cur _ h1
theorem MRow.there (h : MRow w b off n cap X) (j : Nat) (hj : j < cap * 6) : (w.cell? ⟨b, off + j, none⟩).isSome = true := by
  obtain ⟨cur, h1, h2, _⟩ := h.ex
  rw [cell_of_row _ _ _ _ _ _ h1, Array.getElem?_eq_getElem (by omega)]
  rfl
theorem MRow.lst (h : MRow w b off n cap X) : Lst encG 6 w (some ⟨b, off, none⟩) n X := by
  refine ⟨h.len, fun h0 => ⟨b, off, rfl, fun i x hx c v hv => ?_⟩⟩
  have hc : c < 6 := by have := (List.getElem?_eq_some_iff.1 hv).1; rwa [encG_length] at this
  rw [Nat.add_assoc]
  exact h.cell _ _ (by rw [flat_at encG 6 encG_length X i x hx c hc]; exact hv)
theorem MRow.take (h : MRow w b off n cap X) (k : Nat) (hk : k ≤ n) : MRow w b off k cap (X.take k) := by
  obtain ⟨cur, h1, h2, h3⟩ := h.ex
  refine ⟨⟨cur, h1, h2, fun j u hu => h3 j u ?_⟩, by rw [List.length_take, h.len]; omega, by have := h.le; omega, h.max⟩
  have e : flat encG X = flat encG (X.take k) ++ flat encG (X.drop k) := by rw [← flat_append, List.take_append_drop]
  rw [e, List.getElem?_append_left (List.getElem?_eq_some_iff.1 hu).1]
  exact hu
theorem flat_drop (X : List Mg) (k j : Nat) (hk : k ≤ X.length) : (flat encG (X.drop k))[j]? = (flat encG X)[k * 6 + j]? := by
  have e : flat encG X = flat encG (X.take k) ++ flat encG (X.drop k) := by rw [← flat_append, List.take_append_drop]
  have hl : (flat encG (X.take k)).length = k * 6 := by rw [flat_length encG 6 encG_length, List.length_take, Nat.min_eq_left hk]
  rw [e, List.getElem?_append_right (by omega), hl, Nat.add_sub_cancel_left]
theorem MRow.drop (h : MRow w b off n cap X) (k : Nat) (hk : k ≤ n) : MRow w b (off + k * 6) (n - k) (cap - k) (X.drop k) := by
  obtain ⟨cur, h1, h2, h3⟩ := h.ex
  have hle := h.le
  have hmx := h.max
  have hc : k * 6 + (cap - k) * 6 = cap * 6 := by rw [← Nat.add_mul]; congr 1; omega
  refine ⟨⟨cur, h1, by omega, fun j u hu => ?_⟩, by rw [List.length_drop, h.len], by omega, by omega⟩
  rw [flat_drop X k j (by rw [h.len]; exact hk)] at hu
  rw [Nat.add_assoc]
  exact h3 _ u hu
/-- An empty row at the same block. -/
theorem MRow.none (h : MRow w b off n cap X) : MRow w b off 0 0 [] := by
  obtain ⟨cur, h1, h2, h3⟩ := h.ex
  exact ⟨⟨cur, h1, by omega, fun j u hu => by simp [flat] at hu⟩, rfl, Nat.le_refl _, Nat.zero_le _⟩
theorem MRow.of_own {base : Nat} (h : w.ownsRow base 47 6 (.slice (some ⟨b, 0, Option.none⟩) n cap) n (flat encG X)) (hl : X.length = n) : MRow w b 0 n cap X := by
  rcases h.2 with ⟨h1, _⟩ | ⟨g, c, cur, h1, _, h3, h4, h5, h6, h7⟩
  · cases h1
  · injection h1 with e1 e2 e3
    injection e1 with e1
    injection e1 with e1
    subst e1 e3
    refine ⟨⟨cur, h3, by omega, fun j u hu => ?_⟩, hl, h4, h5⟩
    rw [Nat.zero_add, ← Array.getElem?_toList]
    rw [← h7, List.getElem?_take] at hu
    split at hu
    · exact hu
    · cases hu
/-- Cells of the block written elsewhere than where the row lies. -/
theorem MRow.cells (h : MRow w b off n cap X) (o : Nat) (vs : List Value) (ho : o + vs.length ≤ off + cap * 6) (hap : o + vs.length ≤ off ∨ off + n * 6 ≤ o) : MRow (w.setCells b o vs) b off n cap X := by
  obtain ⟨cur, h1, h2, h3⟩ := h.ex
  obtain ⟨cur', k1, k2⟩ := heap_setCells vs o w cur h1 (by omega)
  have hs : cur'.size = cur.size := by
    have := congrArg List.length k2
    simp only [List.length_append, List.length_take, List.length_drop, Array.length_toList] at this
    omega
  refine ⟨⟨cur', k1, by omega, fun j u hu => ?_⟩, h.len, h.le, h.max⟩
  have hj : j < n * 6 := by have := (List.getElem?_eq_some_iff.1 hu).1; rwa [flat_length encG 6 encG_length, h.len] at this
  rw [← Array.getElem?_toList, k2]
  have h4 := h3 j u hu
  have hjs : off + j < cur.size := (Array.getElem?_eq_some_iff.1 h4).1
  rw [← Array.getElem?_toList] at h4
  rcases hap with ha | ha
  · rw [List.getElem?_append_right (by simp only [List.length_append, List.length_take, Array.length_toList]; omega), List.getElem?_drop]
    simp only [List.length_append, List.length_take, Array.length_toList]
    rw [show o + vs.length + (off + j - (min o cur.size + vs.length)) = off + j by omega]
    exact h4
  · rw [List.append_assoc, List.getElem?_append_left (by simp only [List.length_take, Array.length_toList]; omega), List.getElem?_take, if_pos (by omega)]
    exact h4
/-- The row with some behind it, written into its room. -/
theorem MRow.more (h : MRow w b off n cap X) (L : List Mg) (hr : n + L.length ≤ cap) : MRow (w.setCells b (off + n * 6) (flat encG L)) b off (n + L.length) cap (X ++ L) := by
  have hfl := flat_length encG 6 encG_length L
  have hfx := flat_length encG 6 encG_length X
  have hc : n * 6 + L.length * 6 ≤ cap * 6 := by rw [← Nat.add_mul]; exact Nat.mul_le_mul_right _ hr
  have h0 := h.cells (off + n * 6) (flat encG L) (by omega) (.inr (Nat.le_refl _))
  obtain ⟨cur, h1, h2, h3⟩ := h.ex
  obtain ⟨cur', k1, k2⟩ := heap_setCells (flat encG L) (off + n * 6) w cur h1 (by omega)
  have hs : cur'.size = cur.size := by
    have := congrArg List.length k2
    simp only [List.length_append, List.length_take, List.length_drop, Array.length_toList] at this
    omega
  refine ⟨⟨cur', k1, by omega, fun j u hu => ?_⟩, by rw [List.length_append, h.len], hr, h.max⟩
  rw [flat_append] at hu
  by_cases hj : j < n * 6
  · rw [List.getElem?_append_left (by rw [hfx, h.len]; exact hj)] at hu
    obtain ⟨cur2, q1, _, q3⟩ := h0.ex
    rw [k1] at q1
    cases q1
    exact q3 j u hu
  · rw [List.getElem?_append_right (by rw [hfx, h.len]; omega), hfx, h.len] at hu
    have hj2 := (List.getElem?_eq_some_iff.1 hu).1
    rw [← Array.getElem?_toList, k2, List.append_assoc, List.getElem?_append_right (by simp only [List.length_take, Array.length_toList]; omega), List.getElem?_append_left (by simp only [List.length_take, Array.length_toList]; omega)]
    simp only [List.length_take, Array.length_toList]
    rw [show off + j - min (off + n * 6) cur.size = j - n * 6 by omega]
    exact hu
/-- One cell of one of them is another one. -/
theorem MRow.set (h : MRow w b off n cap X) (i c : Nat) (x y : Mg) (v : Value) (hx : X[i]? = some x) (hc : c < 6) (hv : (encG y)[c]? = some v) (hk : ∀ d, d ≠ c → (encG y)[d]? = (encG x)[d]?) : MRow (w.setCell ⟨b, off + i * 6 + c, Option.none⟩ v) b off n cap (X.set i y) := by
  obtain ⟨cur, h1, h2, h3⟩ := h.ex
  have hi := (List.getElem?_eq_some_iff.1 hx).1
  have k1 := heap_setCell_same w b (off + i * 6 + c) cur _ v h1
  have hin : off + i * 6 + c < cur.size := by
    have := h3 (i * 6 + c) ((encG x)[c]?.getD (Value.bool true)) (by
      rw [flat_at encG 6 encG_length X i x hx c hc]
      rw [List.getElem?_eq_getElem (by rw [encG_length]; exact hc)]; rfl)
    have := (Array.getElem?_eq_some_iff.1 this).1
    omega
  refine ⟨⟨_, k1, by simpa using h2, fun j u hu => ?_⟩, by rw [List.length_set]; exact h.len, h.le, h.max⟩
  obtain ⟨i', x', c', hx', hc', hlt', rfl⟩ := flat_split encG 6 encG_length _ j u hu
  rw [Array.getElem?_setIfInBounds]
  rw [List.getElem?_set] at hx'
  by_cases he : i = i'
  · subst he
    rw [if_pos rfl, if_pos hi] at hx'
    cases hx'
    by_cases hcc : c = c'
    · subst hcc
      rw [if_pos (by omega), if_pos (by omega)]
      exact hv.symm.trans hc'
    · rw [if_neg (by omega)]
      refine h3 _ u ?_
      rw [flat_at encG 6 encG_length X i x hx c' hlt', ← hk c' (fun e => hcc e.symm)]
      exact hc'
  · rw [if_neg he] at hx'
    rw [if_neg (by omega)]
    refine h3 _ u ?_
    rw [flat_at encG 6 encG_length X i' x' hx' c' hlt']
    exact hc'
end

/-- A slice of messages of which nobody else has the block. -/
def SlotAt (w : World) (s : Sl) (X : List Mg) : Prop := (s = slNil ∧ X = []) ∨ ∃ b off, s.a = some ⟨b, off, none⟩ ∧ MRow w b off s.n s.c X
theorem SlotAt.nil (w : World) : SlotAt w slNil [] := .inl ⟨rfl, rfl⟩
theorem SlotAt.len {w : World} {s : Sl} {X : List Mg} (h : SlotAt w s X) : X.length = s.n := by
  rcases h with ⟨rfl, rfl⟩ | ⟨b, off, _, h⟩
  · rfl
  · exact h.len
theorem SlotAt.le {w : World} {s : Sl} {X : List Mg} (h : SlotAt w s X) : s.n ≤ s.c := by
  rcases h with ⟨rfl, rfl⟩ | ⟨b, off, _, h⟩
  · exact Nat.le_refl _
  · exact h.le
theorem SlotAt.cap0 {w : World} {s : Sl} {X : List Mg} (h : SlotAt w s X) : s.a = none → s.c = 0 := by
  intro e
  rcases h with ⟨rfl, rfl⟩ | ⟨b, off, e2, h⟩
  · rfl
  · rw [e] at e2; cases e2
theorem SlotAt.lst {w : World} {s : Sl} {X : List Mg} (h : SlotAt w s X) : Lst encG 6 w s.a s.n X := by
  rcases h with ⟨rfl, rfl⟩ | ⟨b, off, e, h⟩
  · exact ⟨rfl, fun h0 => by simp [slNil] at h0⟩
  · rw [e]; exact h.lst
theorem SlotAt.lt {w : World} {s : Sl} {X : List Mg} (h : SlotAt w s X) (x : Addr) (hx : s.a = some x) : x.block < w.heap.size := by
  rcases h with ⟨rfl, rfl⟩ | ⟨b, off, e, h⟩
  · cases hx
  · rw [e] at hx; cases hx; exact h.lt
theorem SlotAt.typ {w : World} {s : Sl} {X : List Mg} (h : SlotAt w s X) (x : Addr) (hx : s.a = some x) : ∃ cur, w.heap[x.block]? = some (.cells cur 47 (0, 0)) := by
  rcases h with ⟨rfl, rfl⟩ | ⟨b, off, e, h⟩
  · cases hx
  · rw [e] at hx; cases hx; obtain ⟨cur, h1, _⟩ := h.ex; exact ⟨cur, h1⟩
theorem SlotAt.kept {w w' : World} {s : Sl} {X : List Mg} (h : SlotAt w s X) (hb : ∀ x, s.a = some x → w'.heap[x.block]? = w.heap[x.block]?) : SlotAt w' s X := by
  rcases h with h | ⟨b, off, e, h⟩
  · exact .inl h
  · exact .inr ⟨b, off, e, h.kept (hb _ e)⟩
theorem SlotAt.below {w w' : World} {s : Sl} {X : List Mg} (h : SlotAt w s X) (hb : Below w.heap.size w w') : SlotAt w' s X := h.kept fun x hx => hb.block _ (h.lt x hx)
theorem SlotAt.max {w : World} {s : Sl} {X : List Mg} (h : SlotAt w s X) : s.c ≤ maxLen := by
  rcases h with ⟨rfl, rfl⟩ | ⟨b, off, e, h⟩
  · exact Nat.zero_le _
  · exact h.max
theorem flatG_one12 {l : List Mg} : ∀ u ∈ flat encG l, u.oneCell' = true := flatG_one
theorem grownCells12 (b : Nat) : ∀ (vs : List Value) (o : Nat) (w : World), w.grownBy (w.setCells b o vs) (some b)
  | [], o, w => World.grownBy.refl w _
  | v :: r, o, w => by
    have h1 := grown_set w b o v
    have h2 := grownCells12 b r (o + 1) (w.setCell ⟨b, o, none⟩ v)
    exact ⟨h2.os.trans h1.os, h2.tape.trans h1.tape, h2.output.trans h1.output, Nat.le_trans h1.size h2.size, fun i hi hn => (h2.block i (Nat.lt_of_lt_of_le hi h1.size) hn).trans (h1.block i hi hn)⟩
/-- 'append' of some messages onto such a slice. -/
theorem run_append_h {w : World} {s : Sl} {X : List Mg} (h : SlotAt w s X) (ty : TypeId) (ad : Addr) (m c : Nat) (L : List Mg) (hl : Lst encG 6 w (some ad) m L) (hm : 0 < m) (hn : s.n + m ≤ 200000) :
    ∃ s' w', (Builtin.append_ #[29, 29] ty #[s.v, .slice (some ad) m c]).run Try.prog w = .ok s'.v w' ∧ SlotAt w' s' (X ++ L) ∧ s'.n = s.n + m ∧ w.grownBy w' s.v.ownBlock ∧
      (∃ x, s'.a = some x ∧ ((∃ y, s.a = some y ∧ y.block = x.block) ∨ w.heap.size ≤ x.block)) := by
  obtain ⟨i0, hi, hz0, hz1, hz2⟩ := info_parts infoMg
  have ht := Try.underlying29
  have hfl : (flat encG L).length = m * 6 := by rw [flat_length encG 6 encG_length, hl.size]
  have hnews : ∀ j u, (flat encG L)[j]? = some u → w.cell? (ad.add j) = some u := fun j u hu => by
    obtain ⟨b, o', e', R⟩ := hl.src hm
    cases e'
    rw [add_lit10]
    exact R.flat encG_length j u hu
  rcases h with ⟨rfl, rfl⟩ | ⟨b, off, e, h⟩
  · obtain ⟨v', w', hr, h2, h3, _⟩ := run_append_own (P := Try.prog) w w.heap.size 29 ty 47 i0 zeroMg 6 72 ht hi hz0 hz1 hz2 rfl (by decide) (.slice none 0 0) 0 [] (World.ownsRow_nil w _ _ _) ad m c (flat encG L) hfl hnews flatG_one (by unfold maxLen; simp [slNil] at hn; omega) (by simp [slNil] at hn; omega) (Nat.le_refl _)
    rw [List.nil_append] at h2 ⊢
    rcases h2.2 with ⟨_, h0⟩ | ⟨g, cap, cur, rfl, hb, _⟩
    · omega
    · refine ⟨⟨some ⟨g, 0, none⟩, 0 + m, cap⟩, w', hr, .inr ⟨g, 0, rfl, ?_⟩, rfl, h3, ⟨_, rfl, .inr hb⟩⟩
      exact MRow.of_own h2 (by rw [hl.size, Nat.zero_add])
  · obtain ⟨sa, sn, sc⟩ := s
    simp only at e h hn ⊢
    subst e
    by_cases hroom : sn + m ≤ sc
    · have hc : sn * 6 + m * 6 ≤ sc * 6 := by rw [← Nat.add_mul]; exact Nat.mul_le_mul_right _ hroom
      have hr := run_append_room_cells (P := Try.prog) w 29 ty 47 i0 ht hi b off sn sc ad m c (flat encG L) (by rw [hfl, hz1]) hnews flatG_one hroom (fun j hj => by rw [hz1, Nat.add_assoc]; exact h.there _ (by omega)) (fun j hj => h.free _)
      rw [hz1] at hr
      have := h.more L (by rw [hl.size]; exact hroom)
      rw [hl.size] at this
      exact ⟨⟨some ⟨b, off, none⟩, sn + m, sc⟩, _, hr, .inr ⟨b, off, rfl, this⟩, rfl, grownCells12 b _ _ w, ⟨_, rfl, .inl ⟨_, rfl, rfl⟩⟩⟩
    · obtain ⟨v', w', hr, h2, h3⟩ := run_append_arg_grows (P := Try.prog) w 29 ty 47 i0 zeroMg 6 72 ht hi hz0 hz1 hz2 rfl (by decide) ⟨b, off, none⟩ sn sc (flat encG X) (by rw [flat_length encG 6 encG_length, h.len]) (fun j u hu => by rw [add_lit10]; exact h.cell j u hu) ad m c (flat encG L) hfl hnews (by omega) (by unfold maxLen; omega) (by omega)
      rw [← flat_append] at h2
      rcases h2.2 with ⟨_, h0⟩ | ⟨g, cap, cur, rfl, hb, _⟩
      · omega
      · refine ⟨⟨some ⟨g, 0, none⟩, sn + m, cap⟩, w', hr, .inr ⟨g, 0, rfl, ?_⟩, rfl, ⟨h3.os, h3.tape, h3.output, h3.size, fun k hk _ => h3.block k hk (by simp)⟩, ⟨_, rfl, .inr hb⟩⟩
        exact MRow.of_own h2 (by rw [List.length_append, hl.size, h.len])
/-- The same at the operation. -/
theorem wp_append_h {w : World} {o : Oper} {a : Act} {K : Act → World → Prop} {Q : Exit → Act → World → Prop} (sx x : Operand)
    (ho : o.op = .call { callee := .builtin .append, args := #[sx, x], argTypes := #[29, 29] })
    (s : Sl) (X : List Mg) (hs : a.eval sx = s.v) (h : SlotAt w s X) (ad : Addr) (m c : Nat) (L : List Mg) (hx : a.eval x = .slice (some ad) m c) (hl : Lst encG 6 w (some ad) m L) (hm : 0 < m) (hn : s.n + m ≤ 200000)
    (hK : ∀ s' w', SlotAt w' s' (X ++ L) → s'.n = s.n + m → w.grownBy w' s.v.ownBlock → (∃ x, s'.a = some x ∧ ((∃ y, s.a = some y ∧ y.block = x.block) ∨ w.heap.size ≤ x.block)) → K (a.put o.dst s'.v) w') : o.wp Try.prog a w K Q := by
  obtain ⟨s', w', hr, h2, h3, h4, h5⟩ := run_append_h h o.type ad m c L hl hm hn
  unfold Oper.wp execOp
  simp only [ho, resolve, invoke, builtin, Sem.run_bind, Sem.run_pure, Result.andThen_ok, List.map_toArray, List.map_cons, List.map_nil, hs, hx, hr]
  exact hK s' w' h2 h3 h4 h5
theorem wpList_append_h {w : World} {ops : Array Oper} {rest : List Oper} {o : Oper} {a : Act} {Q : Exit → Act → World → Prop} (hgd : o.guard = none) (sx x : Operand)
    (ho : o.op = .call { callee := .builtin .append, args := #[sx, x], argTypes := #[29, 29] })
    (s : Sl) (X : List Mg) (hs : a.eval sx = s.v) (h : SlotAt w s X) (ad : Addr) (m c : Nat) (L : List Mg) (hx : a.eval x = .slice (some ad) m c) (hl : Lst encG 6 w (some ad) m L) (hm : 0 < m) (hn : s.n + m ≤ 200000)
    (hK : ∀ s' w', SlotAt w' s' (X ++ L) → s'.n = s.n + m → w.grownBy w' s.v.ownBlock → (∃ x, s'.a = some x ∧ ((∃ y, s.a = some y ∧ y.block = x.block) ∨ w.heap.size ≤ x.block)) → wpList Try.prog ops Q rest (a.put o.dst s'.v) w') : wpList Try.prog ops Q (o :: rest) a w :=
  wpList_plain hgd fun K hK' => wp_append_h sx x ho s X hs h ad m c L hx hl hm hn fun s' w' h2 h3 h4 h5 => hK' _ _ (hK s' w' h2 h3 h4 h5)
/-- 'clear' of the first k of a row. -/
theorem run_clear_h {w : World} {b off n cap : Nat} {X : List Mg} (h : MRow w b off n cap X) (k c : Nat) (hk : k ≤ n) :
    ∃ vs : List Value, vs.length = k * 6 ∧ ∀ ty : TypeId, (Builtin.clear_ #[29] ty #[.slice (some ⟨b, off, none⟩) k c]).run Try.prog w = .ok (.tuple #[]) (w.setCells b off vs) := by
  have hv : ∀ w, (zeroValue 47).run Try.prog w = .ok zeroMg w := fun w => by kernel_rfl
  have hle := h.le
  rcases Nat.eq_zero_or_pos k with rfl | hk0
  · refine ⟨[], rfl, fun ty => ?_⟩
    simp [Builtin.clear_, run_underlying Try.underlying29]
    rfl
  · refine ⟨(Builtin.zeroCells zeroMg.cells k).toList, by simp [size_zeroCells]; rfl, fun ty => ?_⟩
    have hlen : (Builtin.zeroCells zeroMg.cells k).toList.length = k * 6 := by simp [size_zeroCells]; rfl
    have hkc : k * 6 ≤ cap * 6 := Nat.mul_le_mul_right _ (by omega)
    have hst := run_storeCells_cells (P := Try.prog) b off (Builtin.zeroCells zeroMg.cells k).toList 0 w (fun j hj => by rw [Nat.add_zero]; exact h.there j (by omega)) (fun j hj => h.free _) (fun v hv' => by
      simp only [Builtin.zeroCells, Array.toList_map, List.mem_map] at hv'
      obtain ⟨i, _, rfl⟩ := hv'
      have hlt : i % zeroMg.cells.size < 6 := Nat.mod_lt _ (by decide)
      generalize i % zeroMg.cells.size = r at hlt
      have : r = 0 ∨ r = 1 ∨ r = 2 ∨ r = 3 ∨ r = 4 ∨ r = 5 := by omega
      rcases this with rfl | rfl | rfl | rfl | rfl | rfl <;> rfl)
    simp only [Nat.add_zero] at hst
    have hk1 : k ≠ 0 := by omega
    cases k with
    | zero => omega
    | succ k => simp [Builtin.clear_, run_underlying Try.underlying29, hv, hst]
end Go.Proofs.Ytfocjcdfpnbkjaa

/- A hold in memory: its block of 128 cells, its rows, their Deps; process, Low, of, Count, New. -/
set_option linter.unusedVariables false
set_option linter.unusedSimpArgs false
namespace Go.Proofs.Ytfocjcdfpnbkjaa
open Go.RowKit Go.Sort

def updF {α : Type} (f : Nat → α) (p : Nat) (x : α) : Nat → α := fun q => if q = p then x else f q
theorem updF_same {α : Type} (f : Nat → α) (p : Nat) (x : α) : updF f p x p = x := if_pos rfl
theorem updF_other {α : Type} (f : Nat → α) (p q : Nat) (x : α) (h : q ≠ p) : updF f p x q = f q := if_neg h
def rowF {α : Type} (v : α → Value) (f : Nat → α) : List Value := (List.range 64).map fun p => v (f p)
theorem rowF_length {α : Type} (v : α → Value) (f : Nat → α) : (rowF v f).length = 64 := by simp [rowF]
theorem rowF_at {α : Type} (v : α → Value) (f : Nat → α) (p : Nat) (hp : p < 64) : (rowF v f)[p]? = some (v (f p)) := by
  unfold rowF; rw [List.getElem?_map, List.getElem?_range hp]; rfl
theorem rowF_set {α : Type} (v : α → Value) (f : Nat → α) (p : Nat) (x : α) (hp : p < 64) : (rowF v f).set p (v x) = rowF v (updF f p x) := by
  apply List.ext_getElem?
  intro i
  rw [List.getElem?_set]
  by_cases hi : i < 64
  · rw [rowF_at _ _ i hi, rowF_at _ _ i hi]
    by_cases e : p = i
    · subst e; rw [if_pos rfl, if_pos (by rw [rowF_length]; exact hp), updF_same]
    · rw [if_neg e, updF_other _ _ _ _ (fun h => e h.symm)]
  · rw [if_neg (by omega), List.getElem?_eq_none (by rw [rowF_length]; omega), List.getElem?_eq_none (by rw [rowF_length]; omega)]
def vU (n : Nat) : Value := .int .u32 (n : Int)
/-- The cells of a hold. -/
def hC (lo : Nat → Nat) (sl : Nat → Sl) : List Value := rowF vU lo ++ rowF Sl.v sl
theorem hC_length (lo : Nat → Nat) (sl : Nat → Sl) : (hC lo sl).length = 128 := by unfold hC; rw [List.length_append, rowF_length, rowF_length]
theorem hC_lo (lo : Nat → Nat) (sl : Nat → Sl) (p : Nat) (hp : p < 64) : (hC lo sl)[p]? = some (.int .u32 (lo p : Int)) := by
  unfold hC; rw [List.getElem?_append_left (by rw [rowF_length]; exact hp), rowF_at _ _ _ hp]; rfl
theorem hC_sl (lo : Nat → Nat) (sl : Nat → Sl) (p : Nat) (hp : p < 64) : (hC lo sl)[64 + p]? = some (sl p).v := by
  unfold hC; rw [List.getElem?_append_right (by rw [rowF_length]; omega), rowF_length, Nat.add_sub_cancel_left, rowF_at _ _ _ hp]
theorem hC_set_lo (lo : Nat → Nat) (sl : Nat → Sl) (p n : Nat) (hp : p < 64) : (hC lo sl).toArray.setIfInBounds p (.int .u32 (n : Int)) = (hC (updF lo p n) sl).toArray := by
  rw [List.setIfInBounds_toArray]; congr 1
  unfold hC
  rw [List.set_append_left _ _ (by rw [rowF_length]; exact hp)]
  congr 1
  exact rowF_set vU lo p n hp
theorem hC_set_sl (lo : Nat → Nat) (sl : Nat → Sl) (p : Nat) (s : Sl) (hp : p < 64) : (hC lo sl).toArray.setIfInBounds (64 + p) s.v = (hC lo (updF sl p s)).toArray := by
  rw [List.setIfInBounds_toArray]; congr 1
  unfold hC
  rw [List.set_append_right _ _ (by rw [rowF_length]; omega), rowF_length, Nat.add_sub_cancel_left, rowF_set _ _ _ _ hp]
theorem hC_one (lo : Nat → Nat) (sl : Nat → Sl) : (hC lo sl).toArray.all (·.oneCell') = true := by
  simp [hC, rowF, vU, Sl.v, Value.oneCell']

/-- A message whose Deps lie in blocks of F. -/
structure DpT (w : World) (F : Nat → Prop) (x : Mg) : Prop where
  deps : DpIn w x
  few : x.dl ≤ 1048576
  typ : ∀ ad, x.a = some ad → F ad.block ∧ ∃ cur, w.heap[ad.block]? = some (.cells cur 30 (0, 0))
theorem DpIn.moved {w w' : World} {x : Mg} (h : DpIn w x) (hb : ∀ ad, x.a = some ad → w'.heap[ad.block]? = w.heap[ad.block]?) : DpIn w' x := by
  refine ⟨h.size, fun h0 => ?_⟩
  obtain ⟨b, o, e, R⟩ := h.src h0
  exact ⟨b, o, e, fun i y hy c v hv => (World.cell?_of_block (a := ⟨b, o + i * 1 + c, none⟩) (by exact hb ⟨b, o, none⟩ e)).trans (R i y hy c v hv)⟩
theorem DpT.kept {w w' : World} {F : Nat → Prop} {x : Mg} (h : DpT w F x) (hb : ∀ ad, x.a = some ad → w'.heap[ad.block]? = w.heap[ad.block]?) : DpT w' F x :=
  ⟨h.deps.moved hb, h.few, fun ad e => ⟨(h.typ ad e).1, by obtain ⟨cur, hc⟩ := (h.typ ad e).2; exact ⟨cur, (hb ad e).trans hc⟩⟩⟩
theorem DpT.lt {w : World} {F : Nat → Prop} {x : Mg} (h : DpT w F x) (ad : Addr) (e : x.a = some ad) : ad.block < w.heap.size := by
  obtain ⟨cur, hc⟩ := (h.typ ad e).2
  exact (Array.getElem?_eq_some_iff.1 hc).1
theorem DpT.below {w w' : World} {F : Nat → Prop} {x : Mg} (h : DpT w F x) (hb : Below w.heap.size w w') : DpT w' F x := h.kept fun ad e => hb.block _ (h.lt ad e)
theorem DpT.more {w : World} {F E : Nat → Prop} {x : Mg} (h : DpT w F x) (hE : ∀ k, k < w.heap.size → F k → E k) : DpT w E x :=
  ⟨h.deps, h.few, fun ad e => ⟨hE _ (h.lt ad e) (h.typ ad e).1, (h.typ ad e).2⟩⟩
/-- Its Deps don't lie in a block of messages. -/
theorem DpT.ne {w : World} {F : Nat → Prop} {x : Mg} (h : DpT w F x) (ad : Addr) (e : x.a = some ad) {b : Nat} {cur : Array Value} (hb : w.heap[b]? = some (.cells cur 47 (0, 0))) : ad.block ≠ b := by
  rintro rfl
  obtain ⟨c, hc⟩ := (h.typ ad e).2
  rw [hc] at hb
  injection hb with hb
  injection hb with _ hb _
  exact absurd hb (by decide)
theorem DpT.ne_hold {w : World} {F : Nat → Prop} {x : Mg} (h : DpT w F x) (ad : Addr) (e : x.a = some ad) {b : Nat} {cur : Array Value} (hb : w.heap[b]? = some (.cells cur 186 (0, 0))) : ad.block ≠ b := by
  rintro rfl
  obtain ⟨c, hc⟩ := (h.typ ad e).2
  rw [hc] at hb
  injection hb with hb
  injection hb with _ hb _
  exact absurd hb (by decide)

/-- A hold: its block g; how many were dropped; its rows; all in blocks of F. -/
structure HAt (w : World) (F : Nat → Prop) (g N : Nat) (lo : Nat → Nat) (sl : Nat → Sl) (X : Nat → List Mg) : Prop where
  own : Own w g 186 (hC lo sl).toArray
  fg : F g
  lim : ∀ k, F k → k < w.heap.size
  slot : ∀ p, p < 64 → SlotAt w (sl p) (X p)
  inF : ∀ p, p < 64 → ∀ x, (sl p).a = some x → F x.block
  apart : ∀ p q, p < 64 → q < 64 → p ≠ q → ∀ x y, (sl p).a = some x → (sl q).a = some y → x.block ≠ y.block
  deps : ∀ p, p < 64 → ∀ x ∈ X p, DpT w F x
  bnd : ∀ p, p < 64 → lo p + (X p).length ≤ N
section
variable {w : World} {F : Nat → Prop} {g N : Nat} {lo : Nat → Nat} {sl : Nat → Sl} {X : Nat → List Mg}
theorem HAt.lt (h : HAt w F g N lo sl X) : g < w.heap.size := h.own.lt
theorem HAt.kept {w' : World} (h : HAt w F g N lo sl X) (hs : w.heap.size ≤ w'.heap.size) (hb : ∀ k, F k → w'.heap[k]? = w.heap[k]?) : HAt w' F g N lo sl X :=
  ⟨(hb g h.fg).trans h.own, h.fg, fun k hk => Nat.lt_of_lt_of_le (h.lim k hk) hs, fun p hp => (h.slot p hp).kept fun x hx => hb _ (h.inF p hp x hx), h.inF, h.apart,
    fun p hp x hx => (h.deps p hp x hx).kept fun ad e => hb _ ((h.deps p hp x hx).typ ad e).1, h.bnd⟩
theorem HAt.below {w' : World} (h : HAt w F g N lo sl X) (hb : Below w.heap.size w w') : HAt w' F g N lo sl X := h.kept hb.size fun k hk => hb.block k (h.lim k hk)
theorem HAt.chg {w' : World} {D : Nat → Prop} (h : HAt w F g N lo sl X) (hb : Chg D w w') (hD : ∀ k, F k → ¬ D k) : HAt w' F g N lo sl X := h.kept hb.size fun k hk => hb.block k (h.lim k hk) (hD k hk)
theorem HAt.cl (h : HAt w F g N lo sl X) (p : Nat) (hp : p < 64) : w.cell? ⟨g, p, none⟩ = some (.int .u32 (lo p : Int)) := h.own.at_ p _ (by rw [List.getElem?_toArray]; exact hC_lo _ _ _ hp)
theorem HAt.cs (h : HAt w F g N lo sl X) (p : Nat) (hp : p < 64) : w.cell? ⟨g, 64 + p, none⟩ = some (.slice (sl p).a (sl p).n (sl p).c) := h.own.at_ (64 + p) _ (by rw [List.getElem?_toArray]; exact hC_sl _ _ _ hp)
theorem HAt.free (h : HAt w F g N lo sl X) (j : Nat) : w.frozen? ⟨g, j, none⟩ = false := h.own.free j
theorem HAt.rangeS (h : HAt w F g N lo sl X) : w.rangeAt g 64 (rowF Sl.v sl) := fun j v hv => by
  refine h.own.at_ (64 + j) _ ?_
  rw [List.getElem?_toArray]; unfold hC
  rw [List.getElem?_append_right (by rw [rowF_length]; omega), rowF_length, Nat.add_sub_cancel_left]
  exact hv
theorem HAt.rangeL (h : HAt w F g N lo sl X) : w.rangeAt g 0 (rowF vU lo) := fun j v hv => by
  have hj : j < 64 := by have := (List.getElem?_eq_some_iff.1 hv).1; rwa [rowF_length] at this
  rw [Nat.zero_add]
  refine h.own.at_ j _ ?_
  rw [List.getElem?_toArray]; unfold hC
  rw [List.getElem?_append_left (by rw [rowF_length]; exact hj)]
  exact hv
theorem HAt.len (h : HAt w F g N lo sl X) (p : Nat) (hp : p < 64) : (X p).length = (sl p).n := (h.slot p hp).len
end

/-- Of a process; z of what is none. -/
def onP {α : Type} (z : α) (f : Nat → α) (p : Int) : α := if 0 ≤ p ∧ p < 64 then f p.toNat else z
theorem onP_yes {α : Type} (z : α) (f : Nat → α) (k : Nat) (hk : k < 64) : onP z f (k : Int) = f k := by
  unfold onP; rw [if_pos (by omega), Int.toNat_natCast]
theorem onP_no {α : Type} (z : α) (f : Nat → α) (p : Int) (hp : ¬ (0 ≤ p ∧ p < 64)) : onP z f p = z := if_neg hp
theorem proc_cases (p : Int) : (∃ k : Nat, p = (k : Int) ∧ k < 64) ∨ ¬ (0 ≤ p ∧ p < 64) := by
  by_cases h : 0 ≤ p ∧ p < 64
  · obtain ⟨k, rfl⟩ := Int.eq_ofNat_of_zero_le h.1
    exact .inl ⟨k, rfl, by omega⟩
  · exact .inr h
set_option maxHeartbeats 1000000 in
theorem hproc_yes (k : Nat) (hk : k < 64) (w : World) : Calls Try.prog 119 #[.int .i64 (k : Int)] w fun e w' => e = .returned (.bool true) ∧ w = w' := by
  have d1 : decide ((k : Int) < 64) = true := by simp; omega
  go_enter Try.func119, Try.ntmps119
  go_wp2
  go_ret
  exact ⟨rfl, rfl⟩
set_option maxHeartbeats 1000000 in
theorem hproc_no (p : Int) (hp : ¬ (0 ≤ p ∧ p < 64)) (w : World) : Calls Try.prog 119 #[.int .i64 p] w fun e w' => e = .returned (.bool false) ∧ w = w' := by
  by_cases h0 : p < 0
  · have d0 : decide (0 ≤ p) = false := by simp; omega
    clear hp
    go_enter Try.func119, Try.ntmps119
    go_wp2
    go_ret
    exact ⟨rfl, rfl⟩
  · have h1 : 64 ≤ p := by omega
    have d1 : decide (p < 64) = false := by simp; omega
    clear hp
    go_enter Try.func119, Try.ntmps119
    go_wp2
    go_ret
    exact ⟨rfl, rfl⟩
section
variable {w : World} {F : Nat → Prop} {g N : Nat} {lo : Nat → Nat} {sl : Nat → Sl} {X : Nat → List Mg}
set_option maxHeartbeats 1000000 in
theorem hlow_yes (h : HAt w F g N lo sl X) (k : Nat) (hk : k < 64) : Calls Try.prog 140 #[.pointer (some ⟨g, 0, none⟩), .int .i64 (k : Int)] w fun e w' => e = .returned (.int .u32 (lo k : Int)) ∧ w = w' := by
  have c := h.cl k hk
  have P := hproc_yes k hk w
  clear h
  go_enter Try.func140, Try.ntmps140
  go_wp2_with (go_at_call 119; refine P.mono ?_; rintro e w' ⟨rfl, rfl⟩)
  go_ret
  exact ⟨rfl, rfl⟩
set_option maxHeartbeats 1000000 in
theorem hlow_no (g : Nat) (p : Int) (hp : ¬ (0 ≤ p ∧ p < 64)) (w : World) : Calls Try.prog 140 #[.pointer (some ⟨g, 0, none⟩), .int .i64 p] w fun e w' => e = .returned (.int .u32 0) ∧ w = w' := by
  have P := hproc_no p hp w
  clear hp
  go_enter Try.func140, Try.ntmps140
  go_wp2_with (go_at_call 119; refine P.mono ?_; rintro e w' ⟨rfl, rfl⟩)
  go_ret
  exact ⟨rfl, rfl⟩
theorem hlow (h : HAt w F g N lo sl X) (p : Int) : Calls Try.prog 140 #[.pointer (some ⟨g, 0, none⟩), .int .i64 p] w fun e w' => e = .returned (.int .u32 (onP 0 lo p : Nat)) ∧ w = w' := by
  rcases proc_cases p with ⟨k, rfl, hk⟩ | hp
  · rw [onP_yes _ _ _ hk]; exact hlow_yes h k hk
  · rw [onP_no _ _ _ hp]; exact hlow_no g p hp w
set_option maxHeartbeats 1000000 in
theorem hof_yes (h : HAt w F g N lo sl X) (k : Nat) (hk : k < 64) : Calls Try.prog 141 #[.pointer (some ⟨g, 0, none⟩), .int .i64 (k : Int)] w fun e w' => e = .returned (.slice (sl k).a (sl k).n (sl k).c) ∧ w = w' := by
  have c := h.cs k hk
  have P := hproc_yes k hk w
  clear h
  go_enter Try.func141, Try.ntmps141
  go_wp2_with (go_at_call 119; refine P.mono ?_; rintro e w' ⟨rfl, rfl⟩)
  go_ret
  exact ⟨rfl, rfl⟩
set_option maxHeartbeats 1000000 in
theorem hof_no (g : Nat) (p : Int) (hp : ¬ (0 ≤ p ∧ p < 64)) (w : World) : Calls Try.prog 141 #[.pointer (some ⟨g, 0, none⟩), .int .i64 p] w fun e w' => e = .returned (.slice none 0 0) ∧ w = w' := by
  have P := hproc_no p hp w
  clear hp
  go_enter Try.func141, Try.ntmps141
  go_wp2_with (go_at_call 119; refine P.mono ?_; rintro e w' ⟨rfl, rfl⟩)
  go_ret
  exact ⟨rfl, rfl⟩
/-- The count. -/
def cntF (lo : Nat → Nat) (X : Nat → List Mg) : Nat → Nat := fun p => lo p + (X p).length
set_option maxHeartbeats 1000000 in
theorem hcount_yes (h : HAt w F g N lo sl X) (hN : N ≤ 1000) (k : Nat) (hk : k < 64) : Calls Try.prog 120 #[.pointer (some ⟨g, 0, none⟩), .int .i64 (k : Int)] w fun e w' => e = .returned (.int .u32 (cntF lo X k : Nat)) ∧ w = w' := by
  have P1 := hlow_yes h k hk
  have P2 := hof_yes h k hk
  have hb := h.bnd k hk
  have hl := h.len k hk
  unfold cntF
  rw [hl] at hb ⊢
  clear h hl
  generalize sl k = s at *
  obtain ⟨sa, sn, sc⟩ := s
  simp only at P2 hb ⊢
  generalize lo k = l at *
  obtain ⟨c, hc⟩ : ∃ c, c = l + sn := ⟨_, rfl⟩
  have hl0 : l ≤ 1000 := by omega
  have hs0 : sn ≤ 1000 := by omega
  have hc0 : (c : Int) = (l : Int) + (sn : Int) := by omega
  rw [← hc]
  have HC := Lib.hid hc0
  clear hb hc hc0
  go_enter Try.func120, Try.ntmps120
  go_wp2_with (first | (go_at_call 140; refine P1.mono ?_; rintro e w' ⟨rfl, rfl⟩) | (go_at_call 141; refine P2.mono ?_; rintro e w' ⟨rfl, rfl⟩))
  go_ret
  exact ⟨by rw [HC.out]; rfl, rfl⟩
set_option maxHeartbeats 1000000 in
theorem hcount_no (g : Nat) (p : Int) (hp : ¬ (0 ≤ p ∧ p < 64)) (w : World) : Calls Try.prog 120 #[.pointer (some ⟨g, 0, none⟩), .int .i64 p] w fun e w' => e = .returned (.int .u32 0) ∧ w = w' := by
  have P1 := hlow_no g p hp w
  have P2 := hof_no g p hp w
  clear hp
  go_enter Try.func120, Try.ntmps120
  go_wp2_with (first | (go_at_call 140; refine P1.mono ?_; rintro e w' ⟨rfl, rfl⟩) | (go_at_call 141; refine P2.mono ?_; rintro e w' ⟨rfl, rfl⟩))
  go_ret
  exact ⟨rfl, rfl⟩
theorem hcount (h : HAt w F g N lo sl X) (hN : N ≤ 1000) (p : Int) : Calls Try.prog 120 #[.pointer (some ⟨g, 0, none⟩), .int .i64 p] w fun e w' => e = .returned (.int .u32 (onP 0 (cntF lo X) p : Nat)) ∧ w = w' := by
  rcases proc_cases p with ⟨k, rfl, hk⟩ | hp
  · rw [onP_yes _ _ _ hk]; exact hcount_yes h hN k hk
  · rw [onP_no _ _ _ hp]; exact hcount_no g p hp w
end
theorem hold_zero (w : World) : (zeroValue 186).run Try.prog w = .ok (.agg (hC (fun _ => 0) (fun _ => slNil)).toArray) w := by kernel_rfl
set_option maxHeartbeats 1000000 in
theorem hnew (w : World) : Calls Try.prog 63 #[] w fun e w' => e = .returned (.pointer (some ⟨w.heap.size, 0, none⟩)) ∧ HAt w' (fun k => k = w.heap.size) w.heap.size 0 (fun _ => 0) (fun _ => slNil) (fun _ => []) ∧ Below w.heap.size w w' := by
  have hb := hold_zero
  have fin : HAt (w.alloc (.cells (hC (fun _ => 0) (fun _ => slNil)).toArray 186)) (fun k => k = w.heap.size) w.heap.size 0 (fun _ => 0) (fun _ => slNil) (fun _ => []) :=
    ⟨Own.new w _ _, rfl, fun k hk => by subst hk; simp, fun _ _ => SlotAt.nil _, fun _ _ x hx => by simp [slNil] at hx, fun _ _ _ _ _ x y hx => by simp [slNil] at hx, fun _ _ x hx => by simp at hx, fun _ _ => Nat.le_refl _⟩
  have FIN := Lib.hid fin
  have FB := Lib.hid (((Grw.refl w).alloc (.cells (hC (fun _ => 0) (fun _ => slNil)).toArray 186)).below)
  clear fin
  generalize (hC (fun _ => 0) (fun _ => slNil)).toArray = C at *
  go_enter Try.func63, Try.ntmps63
  go_wp2
  go_ret
  exact ⟨rfl, FIN.out, FB.out⟩
end Go.Proofs.Ytfocjcdfpnbkjaa

/- own: messages in memory of their own. -/
set_option linter.unusedVariables false
set_option linter.unusedSimpArgs false
namespace Go.Proofs.Ytfocjcdfpnbkjaa
open Go.RowKit Go.Sort

set_option maxHeartbeats 2000000 in
set_option maxRecDepth 100000 in
theorem cloneT_some (ad : Addr) (n c : Nat) (l : List Int) (w : World) (hn : n ≤ 1048576) (hc : Lst (fun n : Int => [.int .u32 n]) 1 w (some ad) n l) :
    Calls Try.prog 99 #[.slice (some ad) n c] w fun e w' => ∃ a' dc', e = .returned (.slice a' n dc') ∧ Lst (fun n : Int => [.int .u32 n]) 1 w' a' n l ∧ (∀ x, a' = some x → w.heap.size ≤ x.block ∧ ∃ cur, w'.heap[x.block]? = some (.cells cur 30 (0, 0))) ∧ Below w.heap.size w w' := by
  obtain ⟨i0, hi, hz0, hz1, hz2⟩ := info_parts info32s
  have q : ∀ (w : World) (a : Option Addr) (n c n' c' : Nat), (binOp .eql 45 (.slice a n c) (.slice none n' c')).run Try.prog w = .ok (.bool a.isNone) w := fun w a n c n' c' => Lib.run_eql_slice_nil w _ _ a n c n' c' Try.underlying45
  have HC := Lib.hid hc
  clear hc
  go_enter Try.func99, Try.ntmps99
  go_wp2_with (at_builtin; refine wpList_append_own _ rfl _ _ 45 rfl w.heap.size 30 i0 (.int .u32 0) 1 4 Try.underlying45 hi hz0 hz1 hz2 rfl (by decide) _ _ _ rfl (World.ownsRow_made w #[] 0 (Nat.le_refl _) (Nat.zero_le _) (by simp)) ad n c (flat encW l) rfl ?qc1 ?qc2 ?qc3 ?qc4 ?qc5 ?qc6 ?_)
  case qc1 => rw [flat_length encW 1 (fun _ => rfl), HC.out.size]
  case qc2 =>
    intro j u hj
    have hj' : j < l.length * 1 := by have := (List.getElem?_eq_some_iff.1 hj).1; rwa [flat_length encW 1 (fun _ => rfl)] at this
    obtain ⟨b, o, e, R⟩ := HC.out.src (by rw [← HC.out.size]; omega)
    injection e with e
    subst e
    rw [add_lit10]
    exact cell_later ((Grw.refl w).alloc _).below (RowAt.flat (enc := encW) (fun _ => rfl) R j u hj)
  case qc3 =>
    intro u hu
    unfold flat at hu
    obtain ⟨c, hc, huc⟩ := List.mem_flatten.1 hu
    obtain ⟨m, _, rfl⟩ := List.mem_map.1 hc
    simp only [encW, List.mem_singleton] at huc
    subst huc
    rfl
  case qc4 => rw [Nat.zero_add]; unfold maxLen; omega
  case qc5 => rw [Nat.zero_add]; omega
  case qc6 => simp
  intro v' w1 hown hgrow hnil
  have hown2 := own_eq (n' := n) (xs' := flat encW l) hown (by first | rfl | omega) (by first | rfl | exact List.nil_append _)
  obtain ⟨a', dc', rfl⟩ := own_form' hown2
  have HL := Lib.hid (own_lst' (enc := encW) (fun _ => rfl) HC.out.size hown2)
  have HN : Hid (∀ x, a' = some x → w.heap.size ≤ x.block ∧ ∃ cur, w1.heap[x.block]? = some (.cells cur 30 (0, 0))) := Lib.hid fun x hx => ⟨(hown2.lt x.block (by rw [hx]; rfl)).1, by
    subst hx
    rcases hown2.2 with ⟨h1, _⟩ | ⟨g, c, cur, h1, _, h3, _⟩
    · cases h1
    · injection h1 with h1 _ _
      injection h1 with h1
      subst h1
      exact ⟨cur, h3⟩⟩
  have HB := Lib.hid (((Below.refl _ w).alloc (Nat.le_refl _) (.cells #[] 30)).grown hgrow (by simp) (by intro k hk; simp [Value.ownBlock] at hk; omega))
  clear hown hown2 hgrow hnil
  go_wp2
  go_ret
  exact ⟨a', ⟨dc', rfl⟩, HL.out, HN.out, HB.out⟩
theorem cloneT (a : Option Addr) (n c : Nat) (l : List Int) (w : World) (hn : n ≤ 1048576) (hc : Lst (fun n : Int => [.int .u32 n]) 1 w a n l) :
    Calls Try.prog 99 #[.slice a n c] w fun e w' => ∃ a' dc', e = .returned (.slice a' n dc') ∧ Lst (fun n : Int => [.int .u32 n]) 1 w' a' n l ∧ (∀ x, a' = some x → w.heap.size ≤ x.block ∧ ∃ cur, w'.heap[x.block]? = some (.cells cur 30 (0, 0))) ∧ Below w.heap.size w w' := by
  cases a with
  | some ad => exact cloneT_some ad n c l w hn hc
  | none =>
    have h0 : n = 0 := by
      rcases Nat.eq_zero_or_pos n with e | e
      · exact e
      · obtain ⟨_, _, e', _⟩ := hc.src e; cases e'
    subst h0
    refine (cloneW_nil 0 c w).mono ?_
    rintro e w' ⟨rfl, rfl⟩
    exact ⟨none, 0, rfl, hc, (fun x hx => by cases hx), Below.refl _ _⟩

set_option maxHeartbeats 2000000 in
set_option maxRecDepth 100000 in
theorem cloneM_some (ad : Addr) (n c : Nat) (l : List Mg) (w : World) (hn : n ≤ 100000) (hc : Lst encG 6 w (some ad) n l) :
    Calls Try.prog 133 #[.slice (some ad) n c] w fun e w' => ∃ g cap, e = .returned (.slice (some ⟨g, 0, none⟩) n cap) ∧ MRow w' g 0 n cap l ∧ w.heap.size ≤ g ∧ Below w.heap.size w w' := by
  obtain ⟨i0, hi, hz0, hz1, hz2⟩ := info_parts infoMg
  have q : ∀ (w : World) (a : Option Addr) (n c n' c' : Nat), (binOp .eql 29 (.slice a n c) (.slice none n' c')).run Try.prog w = .ok (.bool a.isNone) w := fun w a n c n' c' => Lib.run_eql_slice_nil w _ _ a n c n' c' Try.underlying29
  have HC := Lib.hid hc
  clear hc
  go_enter Try.func133, Try.ntmps133
  go_wp2_with (at_builtin; refine wpList_append_own _ rfl _ _ 29 rfl w.heap.size 47 i0 zeroMg 6 72 Try.underlying29 hi hz0 hz1 hz2 rfl (by decide) _ _ _ rfl (World.ownsRow_made w #[] 0 (Nat.le_refl _) (Nat.zero_le _) (by simp)) ad n c (flat encG l) rfl ?qc1 ?qc2 ?qc3 ?qc4 ?qc5 ?qc6 ?_)
  case qc1 => rw [flat_length encG 6 encG_length, HC.out.size]
  case qc2 =>
    intro j u hj
    have hj' : j < l.length * 6 := by have := (List.getElem?_eq_some_iff.1 hj).1; rwa [flat_length encG 6 encG_length] at this
    obtain ⟨b, o, e, R⟩ := HC.out.src (by rw [← HC.out.size]; omega)
    injection e with e
    subst e
    rw [add_lit10]
    exact cell_later ((Grw.refl w).alloc _).below (RowAt.flat (enc := encG) encG_length R j u hj)
  case qc3 => exact flatG_one
  case qc4 => rw [Nat.zero_add]; unfold maxLen; omega
  case qc5 => rw [Nat.zero_add]; omega
  case qc6 => simp
  intro v' w1 hown hgrow hnil
  have hown2 := own_eq (n' := n) (xs' := flat encG l) hown (by first | rfl | omega) (by first | rfl | exact List.nil_append _)
  have hne : v' ≠ .slice none 0 0 := fun e => by simp [e] at hnil
  rcases own_cases hown2 with ⟨h1, _⟩ | ⟨g, cap, h1, _, _⟩
  · exact absurd h1 hne
  subst h1
  have HR := Lib.hid (MRow.of_own hown2 HC.out.size)
  have hg := (hown2.lt g rfl).1
  have HB := Lib.hid (((Below.refl _ w).alloc (Nat.le_refl _) (.cells #[] 47)).grown hgrow (by simp) (by intro k hk; simp [Value.ownBlock] at hk; omega))
  clear hown hown2 hgrow hnil hne
  go_wp2
  go_ret
  exact ⟨g, cap, rfl, HR.out, hg, HB.out⟩
set_option maxHeartbeats 1000000 in
theorem cloneM_nil (n c : Nat) (w : World) : Calls Try.prog 133 #[.slice none n c] w fun e w' => e = .returned (.slice none 0 0) ∧ w = w' := by
  have q : ∀ (w : World) (a : Option Addr) (n c n' c' : Nat), (binOp .eql 29 (.slice a n c) (.slice none n' c')).run Try.prog w = .ok (.bool a.isNone) w := fun w a n c n' c' => Lib.run_eql_slice_nil w _ _ a n c n' c' Try.underlying29
  go_enter Try.func133, Try.ntmps133
  go_wp2
  go_ret
  exact ⟨rfl, rfl⟩

/-- A row that is handed out: all of it in blocks from B on. -/
structure OutR (w : World) (B : Nat) (s : Sl) (X : List Mg) : Prop where
  slot : SlotAt w s X
  new : ∀ x, s.a = some x → B ≤ x.block
  deps : ∀ x ∈ X, DpT w (fun k => B ≤ k) x
theorem OutR.kept {w w' : World} {B : Nat} {s : Sl} {X : List Mg} (h : OutR w B s X) (hb : ∀ k, B ≤ k → k < w.heap.size → w'.heap[k]? = w.heap[k]?) : OutR w' B s X :=
  ⟨h.slot.kept fun x hx => hb _ (h.new x hx) (h.slot.lt x hx), h.new, fun x hx => (h.deps x hx).kept fun ad e => hb _ ((h.deps x hx).typ ad e).1 ((h.deps x hx).lt ad e)⟩
theorem OutR.below {w w' : World} {B : Nat} {s : Sl} {X : List Mg} (h : OutR w B s X) (hb : Below w.heap.size w w') : OutR w' B s X := h.kept fun k _ hk => hb.block k hk
theorem OutR.nil (w : World) (B : Nat) : OutR w B slNil [] := ⟨SlotAt.nil w, fun x hx => by simp [slNil] at hx, fun x hx => by simp at hx⟩
theorem OutR.base {w : World} {B C : Nat} {s : Sl} {X : List Mg} (h : OutR w B s X) (hc : C ≤ B) : OutR w C s X :=
  ⟨h.slot, fun x hx => Nat.le_trans hc (h.new x hx), fun x hx => (h.deps x hx).more fun k _ hk => Nat.le_trans hc hk⟩

/-- Amid 'own'. -/
structure OwnSt (w wr : World) (g n cap : Nat) (L : List Mg) (k : Nat) (Z : List Mg) : Prop where
  bel : Below w.heap.size w wr
  row : MRow wr g 0 n cap Z
  new : w.heap.size ≤ g
  str : Z.map strip = L.map strip
  old : ∀ i, k ≤ i → Z[i]? = L[i]?
  deps : ∀ i x, i < k → Z[i]? = some x → DpT wr (fun b => w.heap.size ≤ b) x
theorem OwnSt.start {w w1 : World} {g n cap : Nat} {L : List Mg} (hb : Below w.heap.size w w1) (hr : MRow w1 g 0 n cap L) (hg : w.heap.size ≤ g) : OwnSt w w1 g n cap L 0 L :=
  ⟨hb, hr, hg, rfl, fun _ _ => rfl, fun i x h => by omega⟩
theorem OwnSt.next {w wr w6 : World} {g n cap : Nat} {L : List Mg} {k : Nat} {Z : List Mg} {x : Mg} (h : OwnSt w wr g n cap L k Z) (hx : L[k]? = some x) (hk : k < n) (hdl : x.dl ≤ 1048576) (B6 : Below wr.heap.size wr w6) {a' : Option Addr} {dc' : Nat}
    (hl : Lst (fun n : Int => [.int .u32 n]) 1 w6 a' x.dl x.deps) (ht : ∀ y, a' = some y → wr.heap.size ≤ y.block ∧ ∃ cur, w6.heap[y.block]? = some (.cells cur 30 (0, 0))) :
    ∃ Z', OwnSt w (w6.setCell ⟨g, 0 + k * 6 + 4, none⟩ (.slice a' x.dl dc')) g n cap L (k + 1) Z' := by
  have hZ : Z[k]? = some x := by rw [h.old k (Nat.le_refl _)]; exact hx
  have R6 := h.row.below B6
  have R7 := R6.set k 4 x { x with a := a', dc := dc' } (.slice a' x.dl dc') hZ (by decide) rfl (fun d hd => by
    unfold encG
    match d with
    | 0 => rfl
    | 1 => rfl
    | 2 => rfl
    | 3 => rfl
    | 4 => omega
    | 5 => rfl
    | d + 6 => rfl)
  have hs := h.bel.size
  have hs6 := B6.size
  have hg := h.new
  obtain ⟨cur, hcur, _⟩ := R6.ex
  have hset : ∀ j, j ≠ g → (w6.setCell ⟨g, 0 + k * 6 + 4, none⟩ (.slice a' x.dl dc')).heap[j]? = w6.heap[j]? := fun j hj => heap_setCell_other w6 _ j _ hj
  refine ⟨Z.set k { x with a := a', dc := dc' }, ?_, R7, hg, ?_, fun i hi => ?_, fun i y hi hy => ?_⟩
  · exact (h.bel.trans (B6.mono hs)).setCell hg _
  · rw [← h.str, List.map_set]
    apply List.ext_getElem?
    intro i
    rw [List.getElem?_set]
    by_cases e : k = i
    · subst e
      rw [if_pos rfl, if_pos (by rw [List.length_map]; exact (List.getElem?_eq_some_iff.1 hZ).1), List.getElem?_map, hZ]
      rfl
    · rw [if_neg e]
  · rw [List.getElem?_set_ne (by omega)]
    exact h.old i (by omega)
  · by_cases e : k = i
    · subst e
      rw [List.getElem?_set_self (List.getElem?_eq_some_iff.1 hZ).1] at hy
      cases hy
      have hne : ∀ ad, a' = some ad → ad.block ≠ g := fun ad e => by
        have := (ht ad e).1
        have := h.row.lt
        omega
      refine DpT.kept (w := w6) ⟨hl, hdl, fun ad e => ⟨?_, (ht ad e).2⟩⟩ fun ad e => hset _ (hne ad e)
      have := (ht ad e).1
      show w.heap.size ≤ ad.block
      omega
    · rw [List.getElem?_set_ne e] at hy
      have h1 := (h.deps i y (by omega) hy).below B6
      exact h1.kept fun ad e => hset _ (h1.ne ad e hcur)

set_option maxHeartbeats 4000000 in
set_option maxRecDepth 100000 in
theorem hown_some (ad : Addr) (n c : Nat) (L : List Mg) (w : World) (hl : Lst encG 6 w (some ad) n L) (hd : ∀ x ∈ L, DpIn w x ∧ x.dl ≤ 1048576) (hn : n ≤ 100000) :
    Calls Try.prog 115 #[.slice (some ad) n c] w fun e w' => ∃ s X, e = .returned s.v ∧ OutR w' w.heap.size s X ∧ X.map strip = L.map strip ∧ Below w.heap.size w w' ∧ s.a ≠ none := by
  have P := cloneM_some ad n c L w hn hl
  have HL := Lib.hid hl.size
  have HD := Lib.hid hd
  clear hl hd
  go_enter Try.func115, Try.ntmps115
  go_wp2_with fail
  refine P.mono ?_
  rintro e w1 ⟨g, cap, rfl, R1, hg, B1⟩
  have S1 := Lib.hid (OwnSt.start B1 R1 hg)
  clear P R1 B1
  go_wp2_with fail
  go_loopw [10] (fun si wr => ∃ (k : Nat) (Z : List Mg), k ≤ n ∧ si = .int .i64 k ∧ Hid (OwnSt w wr g n cap L k Z)) (fun si _ => n - (intOf si).toNat)
  case atStart => exact ⟨0, L, Nat.zero_le _, rfl, S1⟩
  case round =>
    obtain ⟨k, Z, hk, rfl, HS⟩ := hrel
    by_cases hlt : k < n
    · have hkl : k < L.length := by rw [HL.out]; exact hlt
      obtain ⟨x, hx⟩ : ∃ x, L[k]? = some x := ⟨_, List.getElem?_eq_getElem hkl⟩
      have hZ : Z[k]? = some x := by rw [HS.out.old k (Nat.le_refl _)]; exact hx
      obtain ⟨hdx, hdl⟩ := HD.out x (List.mem_of_getElem? hx)
      have hdr : DpIn wr x := hdx.below HS.out.bel
      have hc : ∀ j v, (encG x)[j]? = some v → wr.cell? ⟨g, 0 + k * 6 + j, none⟩ = some v := fun j v hv => by
        have hj : j < 6 := by have := (List.getElem?_eq_some_iff.1 hv).1; rwa [encG_length] at this
        rw [Nat.add_assoc]
        exact HS.out.row.cell (k * 6 + j) v (by rw [flat_at encG 6 encG_length Z k x hZ j hj]; exact hv)
      have c0 := hc 0 _ rfl
      have c1 := hc 1 _ rfl
      have c2 := hc 2 _ rfl
      have c3 := hc 3 _ rfl
      have c4 := hc 4 _ rfl
      have c5 := hc 5 _ rfl
      simp only [Nat.zero_add, Nat.add_zero] at c0 c1 c2 c3 c4 c5
      have HX := Lib.hid hx
      have hlg := HS.out.row.lt
      clear hc hkl hx hZ hdx
      obtain ⟨f, q, s, v, a, dl, dc, deps, text⟩ := x
      simp only at c0 c1 c2 c3 c4 c5 hdl
      have LR := Lib.hid ((Grw.refl wr).alloc (.cells #[.int .i64 f, .int .u32 q, .int .u64 s, .int .i64 v, .slice a dl dc, .string text] 47)).below
      have P2 := cloneT a dl dc deps (wr.alloc (.cells #[.int .i64 f, .int .u32 q, .int .u64 s, .int .i64 v, .slice a dl dc, .string text] 47)) hdl (hdr.below LR.out)
      have M5 := MgB.new wr ⟨f, q, s, v, a, dl, dc, deps, text⟩
      clear hdr
      go_wp2_with fail
      refine P2.mono ?_
      rintro e w6 ⟨a', dc', rfl, hl6, ht6, B6⟩
      have B := LR.out.trans (B6.mono LR.out.size)
      have c4' := cell_later B c4
      have f4' : w6.frozen? ⟨g, k * 6 + 4, none⟩ = false := (HS.out.row.below B).free _
      obtain ⟨Z', HS'⟩ := HS.out.next (dc' := dc') HX.out hlt hdl B hl6 (fun y e => ⟨by have := (ht6 y e).1; simp at this; omega, (ht6 y e).2⟩)
      rw [Nat.zero_add] at HS'
      have HS2 := Lib.hid HS'
      clear P2 M5 LR hl6 ht6 B6 B HS' c0 c1 c2 c3 c4 c5
      go_wp2_with fail
      go_roundw
      case rel => exact ⟨k + 1, Z', by omega, by go_num, HS2⟩
      case measure => simp [intOf]; omega
    · have hs := HS.out
      go_wp2
      go_ret
      refine ⟨⟨some ⟨g, 0, none⟩, n, cap⟩, Z, rfl, ⟨.inr ⟨g, 0, rfl, hs.row⟩, fun x hx => by cases hx; exact hg, fun x hx => ?_⟩, hs.str, hs.bel, fun h => by cases h⟩
      obtain ⟨i, hi, hxi⟩ := List.getElem_of_mem hx
      have hrl := hs.row.len
      exact hs.deps i x (by omega) (by rw [List.getElem?_eq_getElem hi, hxi])
set_option maxHeartbeats 1000000 in
theorem hown_nil (w : World) : Calls Try.prog 115 #[.slice none 0 0] w fun e w' => e = .returned (.slice none 0 0) ∧ w = w' := by
  have P := cloneM_nil 0 0 w
  go_enter Try.func115, Try.ntmps115
  go_wp2_with fail
  refine P.mono ?_
  rintro e w1 ⟨rfl, rfl⟩
  clear P
  go_wp2_with fail
  go_loop [10] (fun si => si = .int .i64 0) (fun si => 0)
  case atStart => rfl
  case round =>
    subst hrel
    go_wp2
    go_ret
    exact ⟨rfl, rfl⟩
theorem hown_any (s : Sl) (L : List Mg) (w : World) (hl : Lst encG 6 w s.a s.n L) (h0 : s.a = none → s.c = 0) (hd : ∀ x ∈ L, DpIn w x ∧ x.dl ≤ 1048576) (hn : s.n ≤ 100000) :
    Calls Try.prog 115 #[.slice s.a s.n s.c] w fun e w' => ∃ s' X, e = .returned (.slice s'.a s'.n s'.c) ∧ OutR w' w.heap.size s' X ∧ X.map strip = L.map strip ∧ Below w.heap.size w w' ∧ (s.a ≠ none → s'.a ≠ none) := by
  obtain ⟨a, n, c⟩ := s
  simp only at hl h0 hn ⊢
  cases a with
  | some ad =>
    refine (hown_some ad n c L w hl hd hn).mono ?_
    rintro e w' ⟨s, X, h1, h2, h3, h4, h5⟩
    exact ⟨s, X, h1, h2, h3, h4, fun _ => h5⟩
  | none =>
    obtain rfl := h0 rfl
    have hn0 : n = 0 := by
      rcases Nat.eq_zero_or_pos n with e | e
      · exact e
      · obtain ⟨_, _, e', _⟩ := hl.src e; cases e'
    subst hn0
    obtain rfl : L = [] := List.eq_nil_of_length_eq_zero hl.size
    refine (hown_nil w).mono ?_
    rintro e w' ⟨rfl, rfl⟩
    exact ⟨slNil, [], rfl, OutR.nil _ _, rfl, Below.refl _ _, fun h => absurd rfl h⟩
end Go.Proofs.Ytfocjcdfpnbkjaa

/- From, Get. -/
set_option linter.unusedVariables false
set_option maxRecDepth 100000
set_option linter.unusedSimpArgs false
namespace Go.Proofs.Ytfocjcdfpnbkjaa
open Go.RowKit Go.Sort

theorem step_min2 {P : Program} {ops : Array Oper} {rest : List Oper} {o : Oper} {A : Act} {w : World} {Q : Exit → Act → World → Prop} (hgd : o.guard = none) (x y : Operand) (t u : TypeId) (ho : o.op = .call { callee := .builtin .min, args := #[x, y], argTypes := #[t, u] })
    (k : IntKind) (a b z : Int) (hx : A.eval x = .int k a) (hy : A.eval y = .int k b) (hz : (if b < a then b else a) = z) (h : wpList P ops Q rest (A.put o.dst (.int k z)) w) : wpList P ops Q (o :: rest) A w :=
  wpList_plain hgd fun _ hK => by
    unfold Oper.wp execOp
    have hr := run_min_int2 (P := P) (w := w) #[t, u] o.type k k a b
    simp only [ho, resolve, invoke, builtin, Sem.run_bind, Sem.run_pure, Result.andThen_ok, List.map_toArray, List.map_cons, List.map_nil, hx, hy, hr, hz]
    exact hK _ _ h
theorem step_max2 {P : Program} {ops : Array Oper} {rest : List Oper} {o : Oper} {A : Act} {w : World} {Q : Exit → Act → World → Prop} (hgd : o.guard = none) (x y : Operand) (t u : TypeId) (ho : o.op = .call { callee := .builtin .max, args := #[x, y], argTypes := #[t, u] })
    (k : IntKind) (a b z : Int) (hx : A.eval x = .int k a) (hy : A.eval y = .int k b) (hz : (if b > a then b else a) = z) (h : wpList P ops Q rest (A.put o.dst (.int k z)) w) : wpList P ops Q (o :: rest) A w :=
  wpList_plain hgd fun _ hK => by
    unfold Oper.wp execOp
    have hr := run_max_int2 (P := P) (w := w) #[t, u] o.type k k a b
    simp only [ho, resolve, invoke, builtin, Sem.run_bind, Sem.run_pure, Result.andThen_ok, List.map_toArray, List.map_cons, List.map_nil, hx, hy, hr, hz]
    exact hK _ _ h

/-- Without its first m. -/
def Sl.from_ (s : Sl) (m : Nat) : Sl := ⟨if s.c = m then s.a else s.a.map (·.add (m * 6)), s.n - m, s.c - m⟩
/-- Its first m. -/
def Sl.to_ (s : Sl) (m : Nat) : Sl := ⟨s.a, m, s.c⟩
theorem SlotAt.from_ {w : World} {s : Sl} {X : List Mg} (h : SlotAt w s X) (m : Nat) (hm : m ≤ s.n) : SlotAt w (s.from_ m) (X.drop m) := by
  have hle := h.le
  have hln := h.len
  rcases h with ⟨rfl, rfl⟩ | ⟨b, off, e, h⟩
  · have : m = 0 := by simp [slNil] at hm; exact hm
    subst this
    exact .inl ⟨rfl, rfl⟩
  · obtain ⟨sa, sn, sc⟩ := s
    simp only at e h hm hle hln ⊢
    subst e
    by_cases hc : sc = m
    · refine .inr ⟨b, off, by unfold Sl.from_; rw [if_pos hc], ?_⟩
      have e1 : X.drop m = [] := List.drop_eq_nil_of_le (by omega)
      have e2 : sn - m = 0 := by omega
      have e3 : sc - m = 0 := by omega
      show MRow w b off (sn - m) (sc - m) _
      rw [e1, e2, e3]
      exact h.none
    · refine .inr ⟨b, off + m * 6, by unfold Sl.from_; rw [if_neg hc]; simp only [Option.map_some]; rw [add_lit10], ?_⟩
      exact h.drop m hm
theorem SlotAt.to_ {w : World} {s : Sl} {X : List Mg} (h : SlotAt w s X) (m : Nat) (hm : m ≤ s.n) : SlotAt w (s.to_ m) (X.take m) := by
  rcases h with ⟨rfl, rfl⟩ | ⟨b, off, e, h⟩
  · have : m = 0 := by simp [slNil] at hm; exact hm
    subst this
    exact .inl ⟨rfl, rfl⟩
  · exact .inr ⟨b, off, e, h.take m hm⟩
theorem from_block {s : Sl} {m : Nat} {x : Addr} (h : (s.from_ m).a = some x) : ∃ y, s.a = some y ∧ y.block = x.block := by
  unfold Sl.from_ at h
  simp only at h
  split at h
  · exact ⟨x, h, rfl⟩
  · cases hs : s.a with
    | none => rw [hs] at h; cases h
    | some y =>
      rw [hs] at h
      simp only [Option.map_some, Option.some.injEq] at h
      refine ⟨y, rfl, ?_⟩
      rw [← h]
      obtain ⟨b, o, sp⟩ := y
      unfold Addr.add
      split <;> rfl
theorem step_from {ops : Array Oper} {rest : List Oper} {o : Oper} {A : Act} {w : World} {Q : Exit → Act → World → Prop} (hgd : o.guard = none) (x y : Operand) (ho : o.op = .slice 29 x (some y) none none)
    (s : Sl) (m : Nat) (k : IntKind) (hx : A.eval x = .slice s.a s.n s.c) (hy : A.eval y = .int k (m : Int)) (hm : m ≤ s.n) (h : wpList Try.prog ops Q rest (A.put o.dst (.slice (s.from_ m).a (s.from_ m).n (s.from_ m).c)) w) : wpList Try.prog ops Q (o :: rest) A w :=
  wpList_plain hgd fun _ hK => by
    unfold Oper.wp execOp
    have ht := Try.underlying29
    have h6 : (sizeOf (Try.prog.elem 29)).run Try.prog w = .ok 6 w := by kernel_rfl
    have hr := run_slice_l (P := Try.prog) w 29 s.a s.n s.c ht k (m : Int) (by omega) (by omega)
    rw [h6] at hr
    simp only [Result.andThen_ok, Int.toNat_natCast] at hr
    simp only [ho, Option.map_some, Option.map_none, hx, hy, run_sliceAt_slice _ _ _ _ _ _ ht, hr, Sem.run_bind, Sem.run_pure, Result.andThen_ok, sliced]
    exact hK _ _ h
theorem step_to {ops : Array Oper} {rest : List Oper} {o : Oper} {A : Act} {w : World} {Q : Exit → Act → World → Prop} (hgd : o.guard = none) (x y : Operand) (ho : o.op = .slice 29 x none (some y) none)
    (s : Sl) (X : List Mg) (hs : SlotAt w s X) (m : Nat) (k : IntKind) (hx : A.eval x = .slice s.a s.n s.c) (hy : A.eval y = .int k (m : Int)) (hm : m ≤ s.n) (h : wpList Try.prog ops Q rest (A.put o.dst (.slice (s.to_ m).a (s.to_ m).n (s.to_ m).c)) w) : wpList Try.prog ops Q (o :: rest) A w :=
  wpList_plain hgd fun _ hK => by
    unfold Oper.wp execOp
    have ht := Try.underlying29
    have hle := hs.le
    have h6 : (sizeOf (Try.prog.elem 29)).run Try.prog w = .ok 6 w := by kernel_rfl
    have hr := run_slice_h (P := Try.prog) w 29 s.a s.n s.c ht k (m : Int) (by omega) (by omega)
    rw [h6] at hr
    simp only [Result.andThen_ok, Int.toNat_natCast] at hr
    have ha : (if s.c = 0 then s.a else s.a.map (·.add (0 * 6))) = s.a := by
      split
      · rfl
      · rcases hs with ⟨rfl, _⟩ | ⟨b, off, e, _⟩
        · rfl
        · rw [e]; simp only [Option.map_some]; rw [add_lit10]; rfl
    have hv : sliced s.a 0 m s.c 6 = .slice (s.to_ m).a (s.to_ m).n (s.to_ m).c := by
      unfold sliced
      rw [ha]
      rfl
    rw [hv] at hr
    simp only [ho, Option.map_some, Option.map_none, hx, hy, run_sliceAt_slice _ _ _ _ _ _ ht, hr, Sem.run_bind, Sem.run_pure, Result.andThen_ok]
    exact hK _ _ h

/-- What 'From' answers: of a row whose first number is lo + 1. -/
def fromX (lo : Nat) (L : List Mg) (seq : Nat) (most : Int) : List Mg := (L.drop (seq - lo - 1)).take most.toNat
/-- A row that is handed out, of messages like those of L. -/
def Hands (w : World) (L : List Mg) (e : Ending) (w' : World) : Prop := ∃ s X, e = .returned (.slice s.a s.n s.c) ∧ OutR w' w.heap.size s X ∧ X.map strip = L.map strip ∧ Below w.heap.size w w'
set_option maxHeartbeats 4000000 in
theorem hfrom_core (g : Nat) (p : Int) (s : Sl) (lo : Nat) (L : List Mg) (w : World) (hs : SlotAt w s L) (hd : ∀ x ∈ L, DpIn w x ∧ x.dl ≤ 1048576) (hn : s.n ≤ 1000)
    (P1 : Calls Try.prog 141 #[.pointer (some ⟨g, 0, none⟩), .int .i64 p] w fun e w' => e = .returned (.slice s.a s.n s.c) ∧ w = w')
    (P2 : Calls Try.prog 140 #[.pointer (some ⟨g, 0, none⟩), .int .i64 p] w fun e w' => e = .returned (.int .u32 (lo : Int)) ∧ w = w')
    (seq : Nat) (hq : seq < 4294967296) (most : Int) (m0 : -9223372036854775808 ≤ most) (m1 : most ≤ 9223372036854775807) :
    Calls Try.prog 132 #[.pointer (some ⟨g, 0, none⟩), .int .i64 p, .int .u32 (seq : Int), .int .i64 most] w (Hands w (fromX lo L seq most)) := by
  have hL := hs.len
  obtain ⟨mx, hmx⟩ : ∃ mx : Nat, mx = most.toNat := ⟨_, rfl⟩
  have hmx1 : (if (0 : Int) > most then 0 else most) = (mx : Int) := by rw [hmx]; split <;> omega
  by_cases hlt : lo < seq
  · obtain ⟨d, hd1⟩ : ∃ d : Nat, d = seq - lo - 1 := ⟨_, rfl⟩
    obtain ⟨m, hm⟩ : ∃ m : Nat, m = min d s.n := ⟨_, rfl⟩
    have hmin : (if (s.n : Int) < ((seq : Int) - (lo : Int) - 1) then (s.n : Int) else ((seq : Int) - (lo : Int) - 1)) = (m : Int) := by rw [hm]; split <;> omega
    have hms : m ≤ s.n := by omega
    obtain ⟨t, ht⟩ : ∃ t : Nat, t = min mx (s.n - m) := ⟨_, rfl⟩
    have hmin2 : (if ((s.from_ m).n : Int) < (mx : Int) then ((s.from_ m).n : Int) else (mx : Int)) = (t : Int) := by
      rw [ht]; show (if (((s.n - m : Nat)) : Int) < (mx : Int) then ((s.n - m : Nat) : Int) else (mx : Int)) = _
      split <;> omega
    have S1 := hs.from_ m hms
    have hts : t ≤ (s.from_ m).n := by show t ≤ s.n - m; omega
    have S2 := S1.to_ t hts
    have hr : fromX lo L seq most = (L.drop m).take t := by
      unfold fromX
      rw [← hmx, ← hd1]
      rcases Nat.le_total d s.n with h1 | h1
      · have : m = d := by omega
        subst this
        rcases Nat.le_total mx (s.n - m) with h2 | h2
        · rw [show t = mx by omega]
        · rw [show t = s.n - m by omega, List.take_of_length_le (by rw [List.length_drop]; omega), List.take_of_length_le (by rw [List.length_drop]; omega)]
      · rw [List.drop_eq_nil_of_le (by omega), show m = s.n by omega, List.drop_eq_nil_of_le (by omega)]
        simp
    rw [hr]
    have P3 := hown_any ((s.from_ m).to_ t) ((L.drop m).take t) w S2.lst (S2.cap0) (fun x hx => hd x (List.mem_of_mem_drop (List.mem_of_mem_take hx))) (by show t ≤ 100000; omega)
    have HD : Hid ((d : Int) = (seq : Int) - (lo : Int) - 1) := Lib.hid (by omega)
    have HS1 := Lib.hid S1
    have HM1 := Lib.hid hmx1
    have HM2 := Lib.hid hmin
    have HM3 := Lib.hid hmin2
    have HMS := Lib.hid hms
    have HTS := Lib.hid hts
    have hz : (lo : Int) < (seq : Int) := by omega
    have hz2 : 0 ≤ (seq : Int) - (lo : Int) - 1 := by omega
    clear hs hd hmx hmx1 hd1 hm hmin ht hmin2 S1 S2 hr hL hms hts hlt
    obtain ⟨s1, hs1⟩ : ∃ s1, s1 = s.from_ m := ⟨_, rfl⟩
    rw [← hs1] at P3 HM3 HS1 HTS
    have HS0 := Lib.hid hs1
    obtain ⟨s2, hs2⟩ : ∃ s2, s2 = s1.to_ t := ⟨_, rfl⟩
    rw [← hs2] at P3
    have HS2 := Lib.hid hs2
    clear hs1 hs2
    go_enter Try.func132, Try.ntmps132
    go_wp2_with (first | (go_at_call 140; refine P2.mono ?_; rintro e w' ⟨rfl, rfl⟩) | (go_at_call 141; refine P1.mono ?_; rintro e w' ⟨rfl, rfl⟩) | (first | (refine step_min2 rfl (.tmp 25) (.tmp 28) _ _ rfl .u64 _ _ (m : Int) rfl rfl HM2.out ?_) | (refine step_max2 rfl (.tmp 32) _ _ _ rfl .i64 _ _ (mx : Int) rfl rfl HM1.out ?_) | (refine step_min2 rfl (.tmp 33) (.tmp 35) _ _ rfl .i64 _ _ (t : Int) rfl rfl HM3.out ?_)) | (refine step_from rfl (.tmp 20) (.tmp 29) rfl s m .u64 rfl rfl HMS.out ?_; rw [← HS0.out]) | (refine step_to rfl (.tmp 31) (.tmp 36) rfl s1 _ HS1.out t .i64 rfl rfl HTS.out ?_; rw [← HS2.out]))
    refine P3.mono ?_
    rintro e w1 ⟨s', X, rfl, h1, h2, h3, h4⟩
    have FIN := Lib.hid (And.intro h1 (And.intro h2 h3))
    clear P1 P2 P3 h1 h2 h3 h4
    go_wp2_with fail
    go_ret
    exact ⟨s', X, rfl, FIN.out.1, FIN.out.2.1, FIN.out.2.2⟩
  · obtain ⟨t, ht⟩ : ∃ t : Nat, t = min mx s.n := ⟨_, rfl⟩
    have hmin2 : (if (s.n : Int) < (mx : Int) then (s.n : Int) else (mx : Int)) = (t : Int) := by rw [ht]; split <;> omega
    have hts : t ≤ s.n := by omega
    have S2 := hs.to_ t hts
    have hr : fromX lo L seq most = L.take t := by
      unfold fromX
      rw [← hmx, show seq - lo - 1 = 0 by omega, List.drop_zero]
      rcases Nat.le_total mx s.n with h2 | h2
      · rw [show t = mx by omega]
      · rw [show t = s.n by omega, List.take_of_length_le (by omega), List.take_of_length_le (by omega)]
    rw [hr]
    have P3 := hown_any (s.to_ t) (L.take t) w S2.lst (S2.cap0) (fun x hx => hd x (List.mem_of_mem_take hx)) (by show t ≤ 100000; omega)
    have HS1 := Lib.hid hs
    have HM1 := Lib.hid hmx1
    have HM3 := Lib.hid hmin2
    have HTS := Lib.hid hts
    have hz : ¬ ((lo : Int) < (seq : Int)) := by omega
    clear hs hd hmx hmx1 ht hmin2 S2 hr hL hts hlt
    obtain ⟨s2, hs2⟩ : ∃ s2, s2 = s.to_ t := ⟨_, rfl⟩
    rw [← hs2] at P3
    have HS2 := Lib.hid hs2
    clear hs2
    go_enter Try.func132, Try.ntmps132
    go_wp2_with (first | (go_at_call 140; refine P2.mono ?_; rintro e w' ⟨rfl, rfl⟩) | (go_at_call 141; refine P1.mono ?_; rintro e w' ⟨rfl, rfl⟩) | (first | (refine step_max2 rfl (.tmp 32) _ _ _ rfl .i64 _ _ (mx : Int) rfl rfl HM1.out ?_) | (refine step_min2 rfl (.tmp 33) (.tmp 35) _ _ rfl .i64 _ _ (t : Int) rfl rfl HM3.out ?_)) | (refine step_to rfl (.tmp 31) (.tmp 36) rfl s _ HS1.out t .i64 rfl rfl HTS.out ?_; rw [← HS2.out]))
    refine P3.mono ?_
    rintro e w1 ⟨s', X, rfl, h1, h2, h3, h4⟩
    have FIN := Lib.hid (And.intro h1 (And.intro h2 h3))
    clear P1 P2 P3 h1 h2 h3 h4
    go_wp2_with fail
    go_ret
    exact ⟨s', X, rfl, FIN.out.1, FIN.out.2.1, FIN.out.2.2⟩
section
variable {w : World} {F : Nat → Prop} {g N : Nat} {lo : Nat → Nat} {sl : Nat → Sl} {X : Nat → List Mg}
theorem hfrom (h : HAt w F g N lo sl X) (hN : N ≤ 1000) (p : Int) (seq : Nat) (hq : seq < 4294967296) (most : Int) (m0 : -9223372036854775808 ≤ most) (m1 : most ≤ 9223372036854775807) :
    Calls Try.prog 132 #[.pointer (some ⟨g, 0, none⟩), .int .i64 p, .int .u32 (seq : Int), .int .i64 most] w (Hands w (fromX (onP 0 lo p) (onP [] X p) seq most)) := by
  rcases proc_cases p with ⟨k, rfl, hk⟩ | hp
  · rw [onP_yes _ _ _ hk, onP_yes _ _ _ hk]
    have := h.bnd k hk
    have := h.len k hk
    exact hfrom_core g k (sl k) (lo k) (X k) w (h.slot k hk) (fun x hx => ⟨(h.deps k hk x hx).deps, (h.deps k hk x hx).few⟩) (by omega) (hof_yes h k hk) (hlow_yes h k hk) seq hq most m0 m1
  · rw [onP_no _ _ _ hp, onP_no _ _ _ hp]
    exact hfrom_core g p slNil 0 [] w (SlotAt.nil w) (fun x hx => by simp at hx) (by decide) (hof_no g p hp w) (hlow_no g p hp w) seq hq most m0 m1
end
theorem results_mg2 {fn : Func} {p u : Tmp} (h : fn.results = #[.cell p 47, .tmp u]) (tmps : Array Value) (w : World) (g : Nat) {m : Mg}
    (hp : tmps.getD p undef = .pointer (some ⟨g, 0, none⟩)) (hg : MgB w g m) :
    (results fn tmps).run Try.prog w = .ok (.tuple #[valG m, tmps.getD u undef]) w := by
  rw [results_cell_tmp h, hp]
  have hl := run_loadVar_row (P := Try.prog) w g 47 47 (encG m).toArray (0, 0) _ hg Try.underlying47 rfl msg_size
  simp [asAddr, hl, Result.andThen]
  rfl
/-- What 'Get' finds. -/
def getX (lo : Nat) (L : List Mg) (seq : Nat) : Option Mg := if lo < seq then L[seq - lo - 1]? else none
/-- What 'Get' answers. -/
inductive GetSaid (w : World) : Option Mg → Ending → World → Prop
  | no (w' : World) (h : Below w.heap.size w w') : GetSaid w none (.returned (.tuple #[valG zeroG, .bool false])) w'
  | yes (m x : Mg) (w' : World) (h1 : strip x = strip m) (h2 : DpT w' (fun k => w.heap.size ≤ k) x) (h3 : Below w.heap.size w w') : GetSaid w (some m) (.returned (.tuple #[valG x, .bool true])) w'
section
variable {w : World} {F : Nat → Prop} {g N : Nat} {lo : Nat → Nat} {sl : Nat → Sl} {X : Nat → List Mg}
end
end Go.Proofs.Ytfocjcdfpnbkjaa
