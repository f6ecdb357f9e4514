/- A map of messages by their numbers: what stands in it as a function of the number. -/
import Derived.Test.YtmaiphgmnammgaaDoorZSMsg
import Derived.Maps.RangeWalk
import Derived.Deep.RegionHeld3
import Derived.Lib.SliceRun
import Derived.Lib.Slices
import Derived.Lib.Walk
import Derived.Deep.Slices
import Derived.Deep.DeepCutAuto
import Derived.Laws.ResultCell
import Derived.Laws.AppendOwnNone
import Derived.ArgAppend
import Derived.Deep.MidRow
import Derived.Deep.RegionWith
import Derived.BigQuiet
import Derived.StillTailTactics
set_option linter.unusedVariables false
set_option linter.unusedSimpArgs false
namespace Go.Proofs.YtmaiphgmnammgaaDoor
open Go.RowKit Go.Sort Go.Maps

theorem key32 : Keyed Tryd.prog 52 := int_keyed Tryd.underlying52
theorem wf_u32' (k : Nat) (h : k < 4294967296) : (Lit.int .u32 (k : Int)).wf = true := by
  have h1 : IntKind.u32.min = 0 := by decide
  have h2 : IntKind.u32.max = 4294967295 := by decide
  simp [Lit.wf, h1, h2]
  omega
theorem keyOf32 (k : Nat) (h : k < 4294967296) : keyOf Tryd.prog 52 (.int .u32 (k : Int)) = some (.int .u32 (k : Int)) := keyOf_int_mk Tryd.underlying52 (wf_u32' k h)
theorem isKey32 (k : Nat) (h : k < 4294967296) : WideAt.IsKeyLit (.int .u32 (k : Int)) := key32.key (keyOf32 k h)

/-- A message's value. -/
def valG (m : Mg) : Value := .agg (encG m).toArray
/-- The message of nought. -/
def zeroG : Mg := ⟨0, 0, 0, 0, none, 0, 0, [], { data := #[] }⟩
/-- How a message in a map reads: as itself. -/
noncomputable def rdG (v : Value) : Option (DataW Value × List MemPlace) :=
  open Classical in if ∃ m : Mg, v = valG m then some (.held v, []) else none
theorem rdG_mk (m : Mg) : rdG (valG m) = some (.held (valG m), []) := by unfold rdG; rw [if_pos ⟨m, rfl⟩]
theorem rdG_inv {v : Value} {y : DataW Value × List MemPlace} (h : rdG v = some y) : (∃ m : Mg, v = valG m) ∧ y = (.held v, []) := by
  unfold rdG at h
  split at h
  · rename_i hm; injection h with h; exact ⟨hm, h.symm⟩
  · cases h

/-- Block b is a map of n messages, of which at k stands H k. -/
structure MapAt (w : World) (b : Nat) (H : Nat → Option Mg) (n : Nat) : Prop where
  ex : ∃ D : DataW Value, w.ownsMap Tryd.prog 52 rdG b n D ∧ size D = n ∧
    (∀ k : Nat, k < 4294967296 → H k = none → has D (.int .u32 (k : Int)) = false) ∧ (∀ k : Nat, k < 4294967296 → ∀ m, H k = some m → ∀ z, D.atKey (.int .u32 (k : Int)) z = .held (valG m))

theorem owns_tight {w : World} {b n : Nat} {D : DataW Value} (h : w.ownsMap Tryd.prog 52 rdG b n D) : w.ownsMap Tryd.prog 52 rdG b (size D) D := by
  obtain ⟨es, clock, hb, F, hs, rfl⟩ := h
  refine ⟨es, clock, hb, F, ?_, rfl⟩
  simp [Maps.size, length_sorted]
theorem MapAt.made (w : World) : MapAt (w.alloc (.map #[] 0)) w.heap.size (fun _ => none) 0 :=
  ⟨_, World.ownsMap_made w _ _ _, rfl, fun k _ _ => rfl, fun k _ m h => by cases h⟩
theorem MapAt.lt {w : World} {b n : Nat} {H : Nat → Option Mg} (h : MapAt w b H n) : b < w.heap.size := by
  obtain ⟨D, ho, _⟩ := h
  exact ho.lt
theorem MapAt.grown {w w' : World} {b n : Nat} {H : Nat → Option Mg} {row : Option Nat} (h : MapAt w b H n) (hg : w.grownBy w' row) (hne : some b ≠ row) : MapAt w' b H n := by
  obtain ⟨D, ho, r⟩ := h
  exact ⟨D, ho.kept hg hne, r⟩
theorem MapAt.below {w w' : World} {b n B : Nat} {H : Nat → Option Mg} (h : MapAt w b H n) (hb : Below B w w') (hB : b < B) : MapAt w' b H n := by
  obtain ⟨D, ⟨es, clock, h1, r1⟩, r⟩ := h
  exact ⟨D, ⟨es, clock, (hb.block b hB).trans h1, r1⟩, r⟩
theorem MapAt.drew {w : World} {b n : Nat} {H : Nat → Option Mg} (h : MapAt w b H n) : MapAt w.drew b H n := ⟨h.ex⟩
theorem MapAt.alloc {w : World} {b n : Nat} {H : Nat → Option Mg} (h : MapAt w b H n) (o : Obj) : MapAt (w.alloc o) b H n := h.grown (World.grownBy_alloc w o none) (by simp)
theorem MapAt.setCell {w : World} {b n : Nat} {H : Nat → Option Mg} (h : MapAt w b H n) {a : Addr} (ha : b ≠ a.block) (u : Value) : MapAt (w.setCell a u) b H n := by
  obtain ⟨D, ho, r⟩ := h
  exact ⟨D, ho.setCell ha u, r⟩
theorem MapAt.congr {w : World} {b n : Nat} {H H' : Nat → Option Mg} (h : MapAt w b H n) (he : ∀ k, k < 4294967296 → H k = H' k) : MapAt w b H' n := by
  obtain ⟨D, ho, h1, h2, h3⟩ := h
  exact ⟨D, ho, h1, fun k hk e => h2 k hk ((he k hk).trans e), fun k hk m e => h3 k hk m ((he k hk).trans e)⟩

def setF (H : Nat → Option Mg) (k : Nat) (x : Option Mg) : Nat → Option Mg := fun j => if j = k then x else H j
theorem setF_same (H : Nat → Option Mg) (k : Nat) (x : Option Mg) : setF H k x k = x := if_pos rfl
theorem setF_other (H : Nat → Option Mg) (k : Nat) (x : Option Mg) {j : Nat} (h : j ≠ k) : setF H k x j = H j := if_neg h
theorem lit_ne {j k : Nat} (h : j ≠ k) : Lit.int .u32 (j : Int) ≠ Lit.int .u32 (k : Int) := by
  intro e
  injection e with _ e
  omega

end Go.Proofs.YtmaiphgmnammgaaDoor

/- A stream in memory: its block, its map; what a call leaves of the rest; New, Count, Held, Lacks, holds. -/
set_option linter.unusedVariables false
set_option linter.unusedSimpArgs false
namespace Go.Proofs.YtmaiphgmnammgaaDoor
open Go.RowKit Go.Sort Go.Maps

/-- Nothing of what was there has turned but blocks g and b. -/
structure Mv (g b : Nat) (w w' : World) : Prop where
  os : w'.os = w.os
  tape : w'.tape = w.tape
  output : w'.output = w.output
  size : w.heap.size ≤ w'.heap.size
  block : ∀ k, k < w.heap.size → k ≠ g → k ≠ b → w'.heap[k]? = w.heap[k]?
theorem Mv.refl (g b : Nat) (w : World) : Mv g b w w := ⟨rfl, rfl, rfl, Nat.le_refl _, fun _ _ _ _ => rfl⟩
theorem Mv.trans {g b : Nat} {w w' w'' : World} (h : Mv g b w w') (k : Mv g b w' w'') : Mv g b w w'' :=
  ⟨k.os.trans h.os, k.tape.trans h.tape, k.output.trans h.output, Nat.le_trans h.size k.size, fun i hi h1 h2 => (k.block i (Nat.lt_of_lt_of_le hi h.size) h1 h2).trans (h.block i hi h1 h2)⟩
theorem Mv.of_below {g b : Nat} {w w' : World} (h : Below w.heap.size w w') : Mv g b w w' := ⟨h.os, h.tape, h.output, h.size, fun k hk _ _ => h.block k hk⟩
theorem Mv.grw {g b : Nat} {w w' : World} (h : Grw w w') : Mv g b w w' := .of_below h.below
/-- A step that turns a block that is new since w, or g, or b. -/
theorem Mv.grown {g b : Nat} {w w' w'' : World} {o : Option Nat} (h : Mv g b w w') (k : w'.grownBy w'' o) (ho : ∀ j, o = some j → w.heap.size ≤ j ∨ j = g ∨ j = b) : Mv g b w w'' :=
  ⟨k.os.trans h.os, k.tape.trans h.tape, k.output.trans h.output, Nat.le_trans h.size k.size, fun i hi h1 h2 => (k.block i (Nat.lt_of_lt_of_le hi h.size) (fun e => by
    rcases ho i e.symm with e1 | e1 | e1
    · omega
    · exact h1 e1
    · exact h2 e1)).trans (h.block i hi h1 h2)⟩
theorem Mv.below {g b : Nat} {w w' : World} (h : Mv g b w w') {B : Nat} (h0 : B ≤ w.heap.size) (h1 : B ≤ g) (h2 : B ≤ b) : Below B w w' :=
  ⟨h.os, h.tape, h.output, h.size, fun k hk => h.block k (by omega) (by omega) (by omega)⟩
theorem grown_set (w : World) (g j : Nat) (v : Value) : w.grownBy (w.setCell ⟨g, j, none⟩ v) (some g) :=
  ⟨rfl, rfl, rfl, by simp, fun k hk ho => heap_setCell_other w ⟨g, j, none⟩ k v (by intro e; apply ho; rw [e])⟩
theorem Mv.set {g b : Nat} {w w' : World} (h : Mv g b w w') (j : Nat) (v : Value) : Mv g b w (w'.setCell ⟨g, j, none⟩ v) := h.grown (grown_set w' g j v) (fun k e => by cases e; exact .inr (.inl rfl))
theorem Mv.turn {g b : Nat} {w w' w'' : World} (h : Mv g b w w') (k : w'.mapTurned w'' b) : Mv g b w w'' := h.grown k.grown (fun k e => by cases e; exact .inr (.inr rfl))
theorem Mv.drew {g b : Nat} {w w' : World} (h : Mv g b w w') : Mv g b w w'.drew := ⟨h.os, h.tape, h.output, h.size, h.block⟩
theorem Mv.alloc {g b : Nat} {w w' : World} (h : Mv g b w w') (o : Obj) : Mv g b w (w'.alloc o) := h.trans (.grw ((Grw.refl _).alloc o))

/-- The size, as it counts. -/
def szN (n : Int) : Nat := (if n < 1 then 1 else if 64 < n then 64 else n).toNat
theorem szN_bounds (n : Int) : 1 ≤ szN n ∧ szN n ≤ 64 := by
  unfold szN
  split
  · decide
  · split
    · decide
    · omega

def lackN (c u : Nat) : Nat := if c < u then c + 1 else 0
end Go.Proofs.YtmaiphgmnammgaaDoor

/- A message in memory of its own: slices.Clone of its Deps, own. -/
set_option linter.unusedVariables false
set_option linter.unusedSimpArgs false
namespace Go.Proofs.YtmaiphgmnammgaaDoor
open Go.RowKit Go.Sort Go.Maps

theorem add_lit10 (b o k : Nat) : (⟨b, o, none⟩ : Addr).add k = ⟨b, o + k, none⟩ := by cases k <;> simp [Addr.add]
theorem info32s : (Tryd.prog.info? 52).map (fun i => (i.zero, i.size, i.bytes)) = some (some (.int .u32 0), 1, 4) := by kernel_rfl
/-- x is m, but for where its Deps lie. -/
def Like (x m : Mg) : Prop := ∃ a dc, x = { m with a := a, dc := dc }
theorem Like.refl (m : Mg) : Like m m := ⟨m.a, m.dc, rfl⟩
theorem Like.q {x m : Mg} (h : Like x m) : x.q = m.q := by obtain ⟨a, dc, rfl⟩ := h; rfl
theorem Like.dl {x m : Mg} (h : Like x m) : x.dl = m.dl := by obtain ⟨a, dc, rfl⟩ := h; rfl
theorem Like.same {x m : Mg} (h : Like x m) : sameG x m = true := by
  obtain ⟨a, dc, rfl⟩ := h
  unfold sameG
  simp
theorem Like.trans {x y m : Mg} (h : Like x y) (k : Like y m) : Like x m := by
  obtain ⟨a, dc, rfl⟩ := h
  obtain ⟨a', dc', rfl⟩ := k
  exact ⟨a, dc, rfl⟩
/-- A copy of m whose Deps lie in blocks from B on. -/
structure CopyOf (w : World) (B : Nat) (m x : Mg) : Prop where
  like : Like x m
  deps : DpIn w x
  new : ∀ ad, x.a = some ad → B ≤ ad.block

def encW (n : Int) : List Value := [.int .u32 n]
set_option maxHeartbeats 2000000 in
set_option maxRecDepth 100000 in
theorem cloneW_some (ad : Addr) (n c : Nat) (l : List Int) (w : World) (hn : n ≤ 1048576) (hc : Lst (fun n : Int => [.int .u32 n]) 1 w (some ad) n l) :
    Calls Tryd.prog 54 #[.slice (some ad) n c] w fun e w' => ∃ a' dc', e = .returned (.slice a' n dc') ∧ Lst (fun n : Int => [.int .u32 n]) 1 w' a' n l ∧ (∀ x, a' = some x → w.heap.size ≤ x.block) ∧ Below w.heap.size w w' := by
  obtain ⟨i0, hi, hz0, hz1, hz2⟩ := info_parts info32s
  have q : ∀ (w : World) (a : Option Addr) (n c n' c' : Nat), (binOp .eql 34 (.slice a n c) (.slice none n' c')).run Tryd.prog w = .ok (.bool a.isNone) w := fun w a n c n' c' => Lib.run_eql_slice_nil w _ _ a n c n' c' Tryd.underlying34
  have HC := Lib.hid hc
  clear hc
  go_enter Tryd.func54, Tryd.ntmps54
  go_wp2_with (at_builtin; refine wpList_append_own _ rfl _ _ 34 rfl w.heap.size 52 i0 (.int .u32 0) 1 4 Tryd.underlying34 hi hz0 hz1 hz2 rfl (by decide) _ _ _ rfl (World.ownsRow_made w #[] 0 (Nat.le_refl _) (Nat.zero_le _) (by simp)) ad n c (flat encW l) rfl ?qc1 ?qc2 ?qc3 ?qc4 ?qc5 ?qc6 ?_)
  case qc1 => rw [flat_length encW 1 (fun _ => rfl), HC.out.size]
  case qc2 =>
    intro j u hj
    have hj' : j < l.length * 1 := by have := (List.getElem?_eq_some_iff.1 hj).1; rwa [flat_length encW 1 (fun _ => rfl)] at this
    obtain ⟨b, o, e, R⟩ := HC.out.src (by rw [← HC.out.size]; omega)
    injection e with e
    subst e
    rw [add_lit10]
    exact cell_later ((Grw.refl w).alloc _).below (RowAt.flat (enc := encW) (fun _ => rfl) R j u hj)
  case qc3 =>
    intro u hu
    unfold flat at hu
    obtain ⟨c, hc, huc⟩ := List.mem_flatten.1 hu
    obtain ⟨m, _, rfl⟩ := List.mem_map.1 hc
    simp only [encW, List.mem_singleton] at huc
    subst huc
    rfl
  case qc4 => rw [Nat.zero_add]; unfold maxLen; omega
  case qc5 => rw [Nat.zero_add]; omega
  case qc6 => simp
  intro v' w1 hown hgrow hnil
  have hown2 := own_eq (n' := n) (xs' := flat encW l) hown (by first | rfl | omega) (by first | rfl | exact List.nil_append _)
  obtain ⟨a', dc', rfl⟩ := own_form' hown2
  have HL := Lib.hid (own_lst' (enc := encW) (fun _ => rfl) HC.out.size hown2)
  have HN : Hid (∀ x, a' = some x → w.heap.size ≤ x.block) := Lib.hid fun x hx => (hown2.lt x.block (by rw [hx]; rfl)).1
  have HB := Lib.hid (((Below.refl _ w).alloc (Nat.le_refl _) (.cells #[] 52)).grown hgrow (by simp) (by intro k hk; simp [Value.ownBlock] at hk; omega))
  clear hown hown2 hgrow hnil
  go_wp2
  go_ret
  exact ⟨a', ⟨dc', rfl⟩, HL.out, HN.out, HB.out⟩
set_option maxHeartbeats 1000000 in
theorem cloneW_nil (n c : Nat) (w : World) : Calls Tryd.prog 54 #[.slice none n c] w fun e w' => e = .returned (.slice none 0 0) ∧ w = w' := by
  have q : ∀ (w : World) (a : Option Addr) (n c n' c' : Nat), (binOp .eql 34 (.slice a n c) (.slice none n' c')).run Tryd.prog w = .ok (.bool a.isNone) w := fun w a n c n' c' => Lib.run_eql_slice_nil w _ _ a n c n' c' Tryd.underlying34
  go_enter Tryd.func54, Tryd.ntmps54
  go_wp2
  go_ret
  exact ⟨rfl, rfl⟩
theorem cloneW (a : Option Addr) (n c : Nat) (l : List Int) (w : World) (hn : n ≤ 1048576) (hc : Lst (fun n : Int => [.int .u32 n]) 1 w a n l) :
    Calls Tryd.prog 54 #[.slice a n c] w fun e w' => ∃ a' dc', e = .returned (.slice a' n dc') ∧ Lst (fun n : Int => [.int .u32 n]) 1 w' a' n l ∧ (∀ x, a' = some x → w.heap.size ≤ x.block) ∧ Below w.heap.size w w' := by
  cases a with
  | some ad => exact cloneW_some ad n c l w hn hc
  | none =>
    have h0 : n = 0 := by
      rcases Nat.eq_zero_or_pos n with e | e
      · exact e
      · obtain ⟨_, _, e', _⟩ := hc.src e; cases e'
    subst h0
    refine (cloneW_nil 0 c w).mono ?_
    rintro e w' ⟨rfl, rfl⟩
    exact ⟨none, 0, rfl, hc, (fun x hx => by cases hx), Below.refl _ _⟩

theorem mg_one (m : Mg) : (encG m).toArray.all (·.oneCell') = true := by simp [encG, Value.oneCell']
theorem belowRow10 {B : Nat} {a w : World} (h : Go.RowKit.Below B a w) (g : Nat) (hg : B ≤ g) (cs : Array Value) : Go.RowKit.Below B a (w.setRow g cs) :=
  ⟨h.os, h.tape, h.output, by rw [size_setRow]; exact h.size, fun k hk => (setRow_other _ _ _ _ (by omega)).trans (h.block k hk)⟩

end Go.Proofs.YtmaiphgmnammgaaDoor

/- Rows of messages of the call's own: append, at the operation and in a drawn region. -/
set_option linter.unusedVariables false
set_option linter.unusedSimpArgs false
namespace Go.Proofs.YtmaiphgmnammgaaDoor
open Go.RowKit Go.Sort Go.Maps

theorem encG_oneC (m : Mg) : ∀ u ∈ encG m, u.oneCell' = true := encG_one m
theorem flatG_one {l : List Mg} : ∀ u ∈ flat encG l, u.oneCell' = true := by
  intro u hu
  unfold flat at hu
  obtain ⟨c, hc, huc⟩ := List.mem_flatten.1 hu
  obtain ⟨m, _, rfl⟩ := List.mem_map.1 hc
  exact encG_one m u huc
def zeroMg : Value := .agg #[.int .i64 0, .int .u32 0, .int .u64 0, .int .i64 0, .slice none 0 0, .string { data := #[] }]
theorem own_behind {w : World} {base n k : Nat} {t : TypeId} {v : Value} {xs : List Value} (h : w.ownsRow base t k v n xs) : ∀ g, v.ownBlock = some g → base ≤ g := by
  intro g hg
  rcases h.2 with ⟨rfl, _⟩ | ⟨g', c, cur, rfl, hb, _⟩
  · simp [Value.ownBlock] at hg
  · simp [Value.ownBlock] at hg; omega
/-- A row stays where its block does. -/
theorem own_stays {w w' : World} {base n k : Nat} {t : TypeId} {v : Value} {xs : List Value} (h : w.ownsRow base t k v n xs) (hb : ∀ g, v.ownBlock = some g → g < w.heap.size → w'.heap[g]? = w.heap[g]?) : w'.ownsRow base t k v n xs := by
  refine ⟨h.1, ?_⟩
  rcases h.2 with h1 | ⟨g, c, cur, h1, h2, h3, h4⟩
  · exact .inl h1
  · exact .inr ⟨g, c, cur, h1, h2, (hb g (by rw [h1]; rfl) (Array.getElem?_eq_some_iff.1 h3).1).trans h3, h4⟩
theorem own_mv {w w' : World} {base n k g b : Nat} {t : TypeId} {v : Value} {xs : List Value} (h : w.ownsRow base t k v n xs) (m : Mv g b w w') (hg : g < base) (hb : b < base) : w'.ownsRow base t k v n xs :=
  own_stays h fun j hj hl => m.block j hl (by have := own_behind h j hj; omega) (by have := own_behind h j hj; omega)
theorem own_below {w w' : World} {base n k : Nat} {t : TypeId} {v : Value} {xs : List Value} (h : w.ownsRow base t k v n xs) (hb : Below w.heap.size w w') : w'.ownsRow base t k v n xs :=
  own_stays h fun j hj hl => hb.block j hl
theorem own_lt {w : World} {base n nb c : Nat} {t : TypeId} {xs : List Value} {k : Nat} (h : w.ownsRow base t k (.slice (some ⟨nb, 0, none⟩) n c) n xs) : nb < w.heap.size := by
  rcases h.2 with ⟨h1, _⟩ | ⟨g, c, cur, h1, _, h3, _⟩
  · cases h1
  · injection h1 with h1; injection h1 with h1; injection h1 with h1; subst h1; exact (Array.getElem?_eq_some_iff.1 h3).1
/-- Take an operation first; its slot by its number. -/
theorem stake {P : Program} {md : Region.Mode} {ops : Array Oper} {Q : Exit → Act → World → Prop} {S : World → Prop} {i : Nat} {oi : Oper} {v : Value} {fuel : Nat} {listed : Array Bool} {a : Act} {w : World} (d : Nat) (hi : ops[i]? = some oi) (hd : oi.dst = some d)
    (hs : Region.noSelect ops = true) (hf : Region.free md ops listed i = true) (hr : (Region.ready md ops listed).contains i = true)
    (hQ : ∀ c a w, Q (.panic c) (a.put oi.dst v) w → Q (.panic c) a w) (hy : YieldsIf P ops S oi v a) (hS : S w)
    (h : wpAnyH P md ops Q S fuel (listed.setIfInBounds i true) (a.put (some d) v) w) : wpAnyH P md ops Q S (fuel + 1) listed a w :=
  wpAnyH_take hi hs hf hr hQ hy hS (by rw [hd]; exact h)
theorem MapAt.pos {w : World} {b n : Nat} {H : Nat → Option Mg} (h : MapAt w b H n) (k : Nat) (hk : k < 4294967296) {m : Mg} (hH : H k = some m) : 0 < n := by
  obtain ⟨D, ho, h1, h2, h3⟩ := h
  rcases Nat.eq_zero_or_pos n with e | e
  · exfalso
    obtain ⟨es, rfl⟩ := ho.isMap
    have hes : es = [] := List.eq_nil_of_length_eq_zero (by rw [← e, ← h1]; rfl)
    have := h3 k hk m hH .nil
    rw [hes] at this
    cases this
  · exact e
/-- Without what goes on behind c, k of them. -/
def cutF (H : Nat → Option Mg) (c k : Nat) : Nat → Option Mg := fun j => if c < j ∧ j ≤ c + k then none else H j
theorem cutF_zero (H : Nat → Option Mg) (c : Nat) : cutF H c 0 = H := by
  funext j
  unfold cutF
  rw [if_neg (by omega)]
theorem cutF_next (H : Nat → Option Mg) (c k : Nat) : setF (cutF H c k) (c + k + 1) none = cutF H c (k + 1) := by
  funext j
  unfold setF cutF
  by_cases e : j = c + k + 1
  · rw [if_pos e, if_pos (by omega)]
  · rw [if_neg e]
    by_cases e2 : c < j ∧ j ≤ c + k
    · rw [if_pos e2, if_pos (by omega)]
    · rw [if_neg e2, if_neg (by omega)]
theorem cutF_at (H : Nat → Option Mg) (c k : Nat) : cutF H c k (c + k + 1) = H (c + k + 1) := by
  unfold cutF
  rw [if_neg (by omega)]
def lenOf : Value → Nat
  | .slice _ n _ => n
  | _ => 0
end Go.Proofs.YtmaiphgmnammgaaDoor

/- Rows of messages that lie anywhere in their block; which blocks may turn. -/
set_option linter.unusedVariables false
set_option linter.unusedSimpArgs false
namespace Go.Proofs.YtmaiphgmnammgaaDoor
open Go.RowKit Go.Sort

/-- Of what was there only blocks of D have turned. -/
structure Chg (D : Nat → Prop) (w w' : World) : Prop where
  os : w'.os = w.os
  tape : w'.tape = w.tape
  output : w'.output = w.output
  size : w.heap.size ≤ w'.heap.size
  block : ∀ k, k < w.heap.size → ¬ D k → w'.heap[k]? = w.heap[k]?
theorem Chg.refl (D : Nat → Prop) (w : World) : Chg D w w := ⟨rfl, rfl, rfl, Nat.le_refl _, fun _ _ _ => rfl⟩
theorem Chg.to {D E : Nat → Prop} {a b c : World} (h : Chg D a b) (k : Chg E b c) (hE : ∀ i, i < a.heap.size → E i → D i) : Chg D a c :=
  ⟨k.os.trans h.os, k.tape.trans h.tape, k.output.trans h.output, Nat.le_trans h.size k.size, fun i hi hn => (k.block i (Nat.lt_of_lt_of_le hi h.size) (fun e => hn (hE i hi e))).trans (h.block i hi hn)⟩
theorem Chg.trans {D : Nat → Prop} {a b c : World} (h : Chg D a b) (k : Chg D b c) : Chg D a c := h.to k fun _ _ e => e
theorem Chg.mono {D E : Nat → Prop} {a b : World} (h : Chg D a b) (hE : ∀ i, i < a.heap.size → D i → E i) : Chg E a b :=
  ⟨h.os, h.tape, h.output, h.size, fun i hi hn => h.block i hi (fun e => hn (hE i hi e))⟩
theorem Chg.of_below {D : Nat → Prop} {w w' : World} (h : Below w.heap.size w w') : Chg D w w' := ⟨h.os, h.tape, h.output, h.size, fun k hk _ => h.block k hk⟩
theorem Chg.grown {D : Nat → Prop} {w w' : World} {o : Option Nat} (h : w.grownBy w' o) (ho : ∀ k, o = some k → D k) : Chg D w w' :=
  ⟨h.os, h.tape, h.output, h.size, fun k hk hn => h.block k hk (fun e => hn (ho k e.symm))⟩
theorem Chg.below {D : Nat → Prop} {B : Nat} {w w' : World} (h : Chg D w w') (h0 : B ≤ w.heap.size) (hD : ∀ k, D k → B ≤ k) : Below B w w' :=
  ⟨h.os, h.tape, h.output, h.size, fun k hk => h.block k (by omega) (fun e => by have := hD k e; omega)⟩
theorem Chg.alloc {D : Nat → Prop} {a b : World} (h : Chg D a b) (o : Obj) : Chg D a (b.alloc o) := h.to (Chg.of_below (D := fun _ => False) (((Grw.refl b).alloc o).below)) fun _ _ e => e.elim
theorem Chg.then {D : Nat → Prop} {a b c : World} (h : Chg D a b) (k : Below b.heap.size b c) : Chg D a c := h.to (Chg.of_below (D := fun _ => False) k) fun _ _ e => e.elim
theorem Chg.after {D : Nat → Prop} {a b c : World} (h : Below a.heap.size a b) (k : Chg D b c) : Chg D a c := (Chg.of_below (D := fun _ => False) h).mono (fun _ _ e => e.elim) |>.to k fun _ _ e => e

/-- A message, but for where its Deps lie. -/
def strip (m : Mg) : Mg := { m with a := none, dc := 0 }
theorem strip_same {x y : Mg} (h : strip x = strip y) : sameG x y = true := by
  obtain ⟨f, q, s, v, a, dl, dc, deps, text⟩ := x
  obtain ⟨f', q', s', v', a', dl', dc', deps', text'⟩ := y
  unfold strip at h
  injection h with h1 h2 h3 h4 _ h5 _ h6 h7
  simp only at h1 h2 h3 h4 h5 h6 h7
  subst h1 h2 h3 h4 h5 h6 h7
  unfold sameG; simp
theorem strip_like {x y : Mg} (h : Like x y) : strip x = strip y := by obtain ⟨a, dc, rfl⟩ := h; rfl
theorem strip_f {x y : Mg} (h : strip x = strip y) : x.f = y.f := by have := congrArg Mg.f h; exact this
theorem strip_q {x y : Mg} (h : strip x = strip y) : x.q = y.q := by have := congrArg Mg.q h; exact this
theorem strip_s {x y : Mg} (h : strip x = strip y) : x.s = y.s := by have := congrArg Mg.s h; exact this
theorem strip_strip (x : Mg) : strip (strip x) = strip x := rfl

/-- A slice. -/
structure Sl where
  a : Option Addr
  n : Nat
  c : Nat
  deriving Inhabited
def Sl.v (s : Sl) : Value := .slice s.a s.n s.c
def slNil : Sl := ⟨none, 0, 0⟩
section
variable {w : World} {b off n cap : Nat} {X : List Mg}
theorem flat_drop (X : List Mg) (k j : Nat) (hk : k ≤ X.length) : (flat encG (X.drop k))[j]? = (flat encG X)[k * 6 + j]? := by
  have e : flat encG X = flat encG (X.take k) ++ flat encG (X.drop k) := by rw [← flat_append, List.take_append_drop]
  have hl : (flat encG (X.take k)).length = k * 6 := by rw [flat_length encG 6 encG_length, List.length_take, Nat.min_eq_left hk]
  rw [e, List.getElem?_append_right (by omega), hl, Nat.add_sub_cancel_left]
end

theorem flatG_one12 {l : List Mg} : ∀ u ∈ flat encG l, u.oneCell' = true := flatG_one
theorem grownCells12 (b : Nat) : ∀ (vs : List Value) (o : Nat) (w : World), w.grownBy (w.setCells b o vs) (some b)
  | [], o, w => World.grownBy.refl w _
  | v :: r, o, w => by
    have h1 := grown_set w b o v
    have h2 := grownCells12 b r (o + 1) (w.setCell ⟨b, o, none⟩ v)
    exact ⟨h2.os.trans h1.os, h2.tape.trans h1.tape, h2.output.trans h1.output, Nat.le_trans h1.size h2.size, fun i hi hn => (h2.block i (Nat.lt_of_lt_of_le hi h1.size) hn).trans (h1.block i hi hn)⟩
end Go.Proofs.YtmaiphgmnammgaaDoor

/- A hold in memory: its block of 128 cells, its rows, their Deps; process, Low, of, Count, New. -/
set_option linter.unusedVariables false
set_option linter.unusedSimpArgs false
namespace Go.Proofs.YtmaiphgmnammgaaDoor
open Go.RowKit Go.Sort

def updF {α : Type} (f : Nat → α) (p : Nat) (x : α) : Nat → α := fun q => if q = p then x else f q
theorem updF_same {α : Type} (f : Nat → α) (p : Nat) (x : α) : updF f p x p = x := if_pos rfl
theorem updF_other {α : Type} (f : Nat → α) (p q : Nat) (x : α) (h : q ≠ p) : updF f p x q = f q := if_neg h
def rowF {α : Type} (v : α → Value) (f : Nat → α) : List Value := (List.range 64).map fun p => v (f p)
theorem rowF_length {α : Type} (v : α → Value) (f : Nat → α) : (rowF v f).length = 64 := by simp [rowF]
theorem rowF_at {α : Type} (v : α → Value) (f : Nat → α) (p : Nat) (hp : p < 64) : (rowF v f)[p]? = some (v (f p)) := by
  unfold rowF; rw [List.getElem?_map, List.getElem?_range hp]; rfl
theorem rowF_set {α : Type} (v : α → Value) (f : Nat → α) (p : Nat) (x : α) (hp : p < 64) : (rowF v f).set p (v x) = rowF v (updF f p x) := by
  apply List.ext_getElem?
  intro i
  rw [List.getElem?_set]
  by_cases hi : i < 64
  · rw [rowF_at _ _ i hi, rowF_at _ _ i hi]
    by_cases e : p = i
    · subst e; rw [if_pos rfl, if_pos (by rw [rowF_length]; exact hp), updF_same]
    · rw [if_neg e, updF_other _ _ _ _ (fun h => e h.symm)]
  · rw [if_neg (by omega), List.getElem?_eq_none (by rw [rowF_length]; omega), List.getElem?_eq_none (by rw [rowF_length]; omega)]
def vU (n : Nat) : Value := .int .u32 (n : Int)
/-- The cells of a hold. -/
def hC (lo : Nat → Nat) (sl : Nat → Sl) : List Value := rowF vU lo ++ rowF Sl.v sl
theorem hC_length (lo : Nat → Nat) (sl : Nat → Sl) : (hC lo sl).length = 128 := by unfold hC; rw [List.length_append, rowF_length, rowF_length]
theorem hC_lo (lo : Nat → Nat) (sl : Nat → Sl) (p : Nat) (hp : p < 64) : (hC lo sl)[p]? = some (.int .u32 (lo p : Int)) := by
  unfold hC; rw [List.getElem?_append_left (by rw [rowF_length]; exact hp), rowF_at _ _ _ hp]; rfl
theorem hC_sl (lo : Nat → Nat) (sl : Nat → Sl) (p : Nat) (hp : p < 64) : (hC lo sl)[64 + p]? = some (sl p).v := by
  unfold hC; rw [List.getElem?_append_right (by rw [rowF_length]; omega), rowF_length, Nat.add_sub_cancel_left, rowF_at _ _ _ hp]
theorem hC_set_lo (lo : Nat → Nat) (sl : Nat → Sl) (p n : Nat) (hp : p < 64) : (hC lo sl).toArray.setIfInBounds p (.int .u32 (n : Int)) = (hC (updF lo p n) sl).toArray := by
  rw [List.setIfInBounds_toArray]; congr 1
  unfold hC
  rw [List.set_append_left _ _ (by rw [rowF_length]; exact hp)]
  congr 1
  exact rowF_set vU lo p n hp
theorem hC_set_sl (lo : Nat → Nat) (sl : Nat → Sl) (p : Nat) (s : Sl) (hp : p < 64) : (hC lo sl).toArray.setIfInBounds (64 + p) s.v = (hC lo (updF sl p s)).toArray := by
  rw [List.setIfInBounds_toArray]; congr 1
  unfold hC
  rw [List.set_append_right _ _ (by rw [rowF_length]; omega), rowF_length, Nat.add_sub_cancel_left, rowF_set _ _ _ _ hp]
theorem hC_one (lo : Nat → Nat) (sl : Nat → Sl) : (hC lo sl).toArray.all (·.oneCell') = true := by
  simp [hC, rowF, vU, Sl.v, Value.oneCell']

/-- A message whose Deps lie in blocks of F. -/
structure DpT (w : World) (F : Nat → Prop) (x : Mg) : Prop where
  deps : DpIn w x
  few : x.dl ≤ 1048576
  typ : ∀ ad, x.a = some ad → F ad.block ∧ ∃ cur, w.heap[ad.block]? = some (.cells cur 52 (0, 0))
theorem DpIn.moved {w w' : World} {x : Mg} (h : DpIn w x) (hb : ∀ ad, x.a = some ad → w'.heap[ad.block]? = w.heap[ad.block]?) : DpIn w' x := by
  refine ⟨h.size, fun h0 => ?_⟩
  obtain ⟨b, o, e, R⟩ := h.src h0
  exact ⟨b, o, e, fun i y hy c v hv => (World.cell?_of_block (a := ⟨b, o + i * 1 + c, none⟩) (by exact hb ⟨b, o, none⟩ e)).trans (R i y hy c v hv)⟩
theorem DpT.kept {w w' : World} {F : Nat → Prop} {x : Mg} (h : DpT w F x) (hb : ∀ ad, x.a = some ad → w'.heap[ad.block]? = w.heap[ad.block]?) : DpT w' F x :=
  ⟨h.deps.moved hb, h.few, fun ad e => ⟨(h.typ ad e).1, by obtain ⟨cur, hc⟩ := (h.typ ad e).2; exact ⟨cur, (hb ad e).trans hc⟩⟩⟩
theorem DpT.lt {w : World} {F : Nat → Prop} {x : Mg} (h : DpT w F x) (ad : Addr) (e : x.a = some ad) : ad.block < w.heap.size := by
  obtain ⟨cur, hc⟩ := (h.typ ad e).2
  exact (Array.getElem?_eq_some_iff.1 hc).1
theorem DpT.below {w w' : World} {F : Nat → Prop} {x : Mg} (h : DpT w F x) (hb : Below w.heap.size w w') : DpT w' F x := h.kept fun ad e => hb.block _ (h.lt ad e)
theorem DpT.more {w : World} {F E : Nat → Prop} {x : Mg} (h : DpT w F x) (hE : ∀ k, k < w.heap.size → F k → E k) : DpT w E x :=
  ⟨h.deps, h.few, fun ad e => ⟨hE _ (h.lt ad e) (h.typ ad e).1, (h.typ ad e).2⟩⟩
section
variable {w : World} {F : Nat → Prop} {g N : Nat} {lo : Nat → Nat} {sl : Nat → Sl} {X : Nat → List Mg}
end

/-- Of a process; z of what is none. -/
def onP {α : Type} (z : α) (f : Nat → α) (p : Int) : α := if 0 ≤ p ∧ p < 64 then f p.toNat else z
theorem onP_yes {α : Type} (z : α) (f : Nat → α) (k : Nat) (hk : k < 64) : onP z f (k : Int) = f k := by
  unfold onP; rw [if_pos (by omega), Int.toNat_natCast]
theorem onP_no {α : Type} (z : α) (f : Nat → α) (p : Int) (hp : ¬ (0 ≤ p ∧ p < 64)) : onP z f p = z := if_neg hp
theorem proc_cases (p : Int) : (∃ k : Nat, p = (k : Int) ∧ k < 64) ∨ ¬ (0 ≤ p ∧ p < 64) := by
  by_cases h : 0 ≤ p ∧ p < 64
  · obtain ⟨k, rfl⟩ := Int.eq_ofNat_of_zero_le h.1
    exact .inl ⟨k, rfl, by omega⟩
  · exact .inr h
section
variable {w : World} {F : Nat → Prop} {g N : Nat} {lo : Nat → Nat} {sl : Nat → Sl} {X : Nat → List Mg}
/-- The count. -/
def cntF (lo : Nat → Nat) (X : Nat → List Mg) : Nat → Nat := fun p => lo p + (X p).length
end
end Go.Proofs.YtmaiphgmnammgaaDoor

/- own: messages in memory of their own. -/
set_option linter.unusedVariables false
set_option linter.unusedSimpArgs false
namespace Go.Proofs.YtmaiphgmnammgaaDoor
open Go.RowKit Go.Sort

set_option maxHeartbeats 2000000 in
set_option maxRecDepth 100000 in
theorem cloneT_some (ad : Addr) (n c : Nat) (l : List Int) (w : World) (hn : n ≤ 1048576) (hc : Lst (fun n : Int => [.int .u32 n]) 1 w (some ad) n l) :
    Calls Tryd.prog 54 #[.slice (some ad) n c] w fun e w' => ∃ a' dc', e = .returned (.slice a' n dc') ∧ Lst (fun n : Int => [.int .u32 n]) 1 w' a' n l ∧ (∀ x, a' = some x → w.heap.size ≤ x.block ∧ ∃ cur, w'.heap[x.block]? = some (.cells cur 52 (0, 0))) ∧ Below w.heap.size w w' := by
  obtain ⟨i0, hi, hz0, hz1, hz2⟩ := info_parts info32s
  have q : ∀ (w : World) (a : Option Addr) (n c n' c' : Nat), (binOp .eql 34 (.slice a n c) (.slice none n' c')).run Tryd.prog w = .ok (.bool a.isNone) w := fun w a n c n' c' => Lib.run_eql_slice_nil w _ _ a n c n' c' Tryd.underlying34
  have HC := Lib.hid hc
  clear hc
  go_enter Tryd.func54, Tryd.ntmps54
  go_wp2_with (at_builtin; refine wpList_append_own _ rfl _ _ 34 rfl w.heap.size 52 i0 (.int .u32 0) 1 4 Tryd.underlying34 hi hz0 hz1 hz2 rfl (by decide) _ _ _ rfl (World.ownsRow_made w #[] 0 (Nat.le_refl _) (Nat.zero_le _) (by simp)) ad n c (flat encW l) rfl ?qc1 ?qc2 ?qc3 ?qc4 ?qc5 ?qc6 ?_)
  case qc1 => rw [flat_length encW 1 (fun _ => rfl), HC.out.size]
  case qc2 =>
    intro j u hj
    have hj' : j < l.length * 1 := by have := (List.getElem?_eq_some_iff.1 hj).1; rwa [flat_length encW 1 (fun _ => rfl)] at this
    obtain ⟨b, o, e, R⟩ := HC.out.src (by rw [← HC.out.size]; omega)
    injection e with e
    subst e
    rw [add_lit10]
    exact cell_later ((Grw.refl w).alloc _).below (RowAt.flat (enc := encW) (fun _ => rfl) R j u hj)
  case qc3 =>
    intro u hu
    unfold flat at hu
    obtain ⟨c, hc, huc⟩ := List.mem_flatten.1 hu
    obtain ⟨m, _, rfl⟩ := List.mem_map.1 hc
    simp only [encW, List.mem_singleton] at huc
    subst huc
    rfl
  case qc4 => rw [Nat.zero_add]; unfold maxLen; omega
  case qc5 => rw [Nat.zero_add]; omega
  case qc6 => simp
  intro v' w1 hown hgrow hnil
  have hown2 := own_eq (n' := n) (xs' := flat encW l) hown (by first | rfl | omega) (by first | rfl | exact List.nil_append _)
  obtain ⟨a', dc', rfl⟩ := own_form' hown2
  have HL := Lib.hid (own_lst' (enc := encW) (fun _ => rfl) HC.out.size hown2)
  have HN : Hid (∀ x, a' = some x → w.heap.size ≤ x.block ∧ ∃ cur, w1.heap[x.block]? = some (.cells cur 52 (0, 0))) := Lib.hid fun x hx => ⟨(hown2.lt x.block (by rw [hx]; rfl)).1, by
    subst hx
    rcases hown2.2 with ⟨h1, _⟩ | ⟨g, c, cur, h1, _, h3, _⟩
    · cases h1
    · injection h1 with h1 _ _
      injection h1 with h1
      subst h1
      exact ⟨cur, h3⟩⟩
  have HB := Lib.hid (((Below.refl _ w).alloc (Nat.le_refl _) (.cells #[] 52)).grown hgrow (by simp) (by intro k hk; simp [Value.ownBlock] at hk; omega))
  clear hown hown2 hgrow hnil
  go_wp2
  go_ret
  exact ⟨a', ⟨dc', rfl⟩, HL.out, HN.out, HB.out⟩
theorem cloneT (a : Option Addr) (n c : Nat) (l : List Int) (w : World) (hn : n ≤ 1048576) (hc : Lst (fun n : Int => [.int .u32 n]) 1 w a n l) :
    Calls Tryd.prog 54 #[.slice a n c] w fun e w' => ∃ a' dc', e = .returned (.slice a' n dc') ∧ Lst (fun n : Int => [.int .u32 n]) 1 w' a' n l ∧ (∀ x, a' = some x → w.heap.size ≤ x.block ∧ ∃ cur, w'.heap[x.block]? = some (.cells cur 52 (0, 0))) ∧ Below w.heap.size w w' := by
  cases a with
  | some ad => exact cloneT_some ad n c l w hn hc
  | none =>
    have h0 : n = 0 := by
      rcases Nat.eq_zero_or_pos n with e | e
      · exact e
      · obtain ⟨_, _, e', _⟩ := hc.src e; cases e'
    subst h0
    refine (cloneW_nil 0 c w).mono ?_
    rintro e w' ⟨rfl, rfl⟩
    exact ⟨none, 0, rfl, hc, (fun x hx => by cases hx), Below.refl _ _⟩

end Go.Proofs.YtmaiphgmnammgaaDoor

/- From, Get. -/
set_option linter.unusedVariables false
set_option maxRecDepth 100000
set_option linter.unusedSimpArgs false
namespace Go.Proofs.YtmaiphgmnammgaaDoor
open Go.RowKit Go.Sort

theorem step_min2 {P : Program} {ops : Array Oper} {rest : List Oper} {o : Oper} {A : Act} {w : World} {Q : Exit → Act → World → Prop} (hgd : o.guard = none) (x y : Operand) (t u : TypeId) (ho : o.op = .call { callee := .builtin .min, args := #[x, y], argTypes := #[t, u] })
    (k : IntKind) (a b z : Int) (hx : A.eval x = .int k a) (hy : A.eval y = .int k b) (hz : (if b < a then b else a) = z) (h : wpList P ops Q rest (A.put o.dst (.int k z)) w) : wpList P ops Q (o :: rest) A w :=
  wpList_plain hgd fun _ hK => by
    unfold Oper.wp execOp
    have hr := run_min_int2 (P := P) (w := w) #[t, u] o.type k k a b
    simp only [ho, resolve, invoke, builtin, Sem.run_bind, Sem.run_pure, Result.andThen_ok, List.map_toArray, List.map_cons, List.map_nil, hx, hy, hr, hz]
    exact hK _ _ h
theorem step_max2 {P : Program} {ops : Array Oper} {rest : List Oper} {o : Oper} {A : Act} {w : World} {Q : Exit → Act → World → Prop} (hgd : o.guard = none) (x y : Operand) (t u : TypeId) (ho : o.op = .call { callee := .builtin .max, args := #[x, y], argTypes := #[t, u] })
    (k : IntKind) (a b z : Int) (hx : A.eval x = .int k a) (hy : A.eval y = .int k b) (hz : (if b > a then b else a) = z) (h : wpList P ops Q rest (A.put o.dst (.int k z)) w) : wpList P ops Q (o :: rest) A w :=
  wpList_plain hgd fun _ hK => by
    unfold Oper.wp execOp
    have hr := run_max_int2 (P := P) (w := w) #[t, u] o.type k k a b
    simp only [ho, resolve, invoke, builtin, Sem.run_bind, Sem.run_pure, Result.andThen_ok, List.map_toArray, List.map_cons, List.map_nil, hx, hy, hr, hz]
    exact hK _ _ h

/-- Without its first m. -/
def Sl.from_ (s : Sl) (m : Nat) : Sl := ⟨if s.c = m then s.a else s.a.map (·.add (m * 6)), s.n - m, s.c - m⟩
/-- Its first m. -/
def Sl.to_ (s : Sl) (m : Nat) : Sl := ⟨s.a, m, s.c⟩
theorem from_block {s : Sl} {m : Nat} {x : Addr} (h : (s.from_ m).a = some x) : ∃ y, s.a = some y ∧ y.block = x.block := by
  unfold Sl.from_ at h
  simp only at h
  split at h
  · exact ⟨x, h, rfl⟩
  · cases hs : s.a with
    | none => rw [hs] at h; cases h
    | some y =>
      rw [hs] at h
      simp only [Option.map_some, Option.some.injEq] at h
      refine ⟨y, rfl, ?_⟩
      rw [← h]
      obtain ⟨b, o, sp⟩ := y
      unfold Addr.add
      split <;> rfl
/-- What 'From' answers: of a row whose first number is lo + 1. -/
def fromX (lo : Nat) (L : List Mg) (seq : Nat) (most : Int) : List Mg := (L.drop (seq - lo - 1)).take most.toNat
section
variable {w : World} {F : Nat → Prop} {g N : Nat} {lo : Nat → Nat} {sl : Nat → Sl} {X : Nat → List Mg}
end
/-- What 'Get' finds. -/
def getX (lo : Nat) (L : List Mg) (seq : Nat) : Option Mg := if lo < seq then L[seq - lo - 1]? else none
/-- What 'Get' answers. -/
inductive GetSaid (w : World) : Option Mg → Ending → World → Prop
  | no (w' : World) (h : Below w.heap.size w w') : GetSaid w none (.returned (.tuple #[valG zeroG, .bool false])) w'
  | yes (m x : Mg) (w' : World) (h1 : strip x = strip m) (h2 : DpT w' (fun k => w.heap.size ≤ k) x) (h3 : Below w.heap.size w w') : GetSaid w (some m) (.returned (.tuple #[valG x, .bool true])) w'
section
variable {w : World} {F : Nat → Prop} {g N : Nat} {lo : Nat → Nat} {sl : Nat → Sl} {X : Nat → List Mg}
end
end Go.Proofs.YtmaiphgmnammgaaDoor
