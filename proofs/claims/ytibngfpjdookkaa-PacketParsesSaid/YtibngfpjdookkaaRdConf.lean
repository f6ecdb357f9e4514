/- Reading a configuration, a key. -/
import Derived.Test.YtibngfpjdookkaaRdKit
set_option linter.unusedVariables false
set_option linter.unusedSimpArgs false
namespace Go.Proofs.Ytibngfpjdookkaa
open Go.RowKit Go.Sort

/-- A cell that stays in each world behind, wherever the reader's own block alone is turned. -/
theorem cell_grown_by {w w' : World} {b : Nat} {p : Addr} {v : Value} (hg : w.grownBy w' (some b)) (hp : p.block ≠ b) (h : w.cell? p = some v) : w'.cell? p = some v := by
  have hl := World.block_lt_of_cell? _ _ h
  rw [World.cell?_of_block (hg.block p.block hl (by intro e; cases e; exact hp rfl))]; exact h
theorem frozen_grown_by {w w' : World} {b : Nat} {p : Addr} (hg : w.grownBy w' (some b)) (hp : p.block ≠ b) (hl : p.block < w.heap.size) (h : w.frozen? p = false) : w'.frozen? p = false := by
  rw [World.frozen?_of_block (hg.block p.block hl (by intro e; cases e; exact hp rfl))]; exact h

/-- A block of the call's own, whole. -/
def Own (w : World) (g : Nat) (ty : TypeId) (cs : Array Value) : Prop := w.heap[g]? = some (.cells cs ty (0, 0))
theorem Own.is {w : World} {g : Nat} {ty : TypeId} {cs : Array Value} (h : Own w g ty cs) : w.heap[g]? = some (.cells cs ty (0, 0)) := h
theorem Own.lt {w : World} {g : Nat} {ty : TypeId} {cs : Array Value} (h : Own w g ty cs) : g < w.heap.size := (Array.getElem?_eq_some_iff.1 h).1
theorem Own.new (w : World) (ty : TypeId) (cs : Array Value) : Own (w.alloc (.cells cs ty)) w.heap.size ty cs := heap_alloc_new w _
theorem Own.at_ {w : World} {g : Nat} {ty : TypeId} {cs : Array Value} (h : Own w g ty cs) (j : Nat) (v : Value) (hv : cs[j]? = some v) : w.cell? ⟨g, j, none⟩ = some v := by rw [cell_of_row _ _ _ _ _ _ h]; exact hv
theorem Own.free {w : World} {g : Nat} {ty : TypeId} {cs : Array Value} (h : Own w g ty cs) (j : Nat) : w.frozen? ⟨g, j, none⟩ = false := frozen_of_row w g j cs ty h
theorem Own.grown {w w' : World} {g : Nat} {ty : TypeId} {cs : Array Value} {o : Option Nat} (h : Own w g ty cs) (hg : w.grownBy w' o) (ho : some g ≠ o) : Own w' g ty cs := (hg.block g h.lt ho).trans h
theorem Own.below {w w' : World} {g : Nat} {ty : TypeId} {cs : Array Value} {B : Nat} (h : Own w g ty cs) (hb : Below B w w') (hB : g < B) : Own w' g ty cs := (hb.block g hB).trans h
theorem Own.set {w : World} {g : Nat} {ty : TypeId} {cs : Array Value} (h : Own w g ty cs) (j : Nat) (v : Value) : Own (w.setCell ⟨g, j, none⟩ v) g ty (cs.setIfInBounds j v) := heap_setCell_same w g j cs ty v h
theorem Own.set_other {w : World} {g : Nat} {ty : TypeId} {cs : Array Value} (h : Own w g ty cs) (k j : Nat) (v : Value) (hk : g ≠ k) : Own (w.setCell ⟨k, j, none⟩ v) g ty cs := (heap_setCell_other w _ _ v hk).trans h
theorem Own.drew {w : World} {g : Nat} {ty : TypeId} {cs : Array Value} (h : Own w g ty cs) : Own w.drew g ty cs := h
theorem grown_set {a w : World} {b g : Nat} (h : a.grownBy w (some b)) (hg : a.heap.size ≤ g) (j : Nat) (v : Value) : a.grownBy (w.setCell ⟨g, j, none⟩ v) (some b) :=
  ⟨h.os, h.tape, h.output, by simp only [World.setCell, Array.size_modify]; exact h.size, fun k hk hn => (heap_setCell_other w _ _ v (by show k ≠ g; omega)).trans (h.block k hk hn)⟩
theorem Rd.set {w : World} {b : Nat} {s : ByteArray} {a : Nat} (h : Rd w b s a) {g : Nat} (hg : g ≠ b) (j : Nat) (v : Value) : Rd (w.setCell ⟨g, j, none⟩ v) b s a := by
  have e := heap_setCell_other w ⟨g, j, none⟩ b v (fun e => hg e.symm)
  exact ⟨(World.cell?_of_block e).trans h.text, (World.cell?_of_block e).trans h.place, (World.frozen?_of_block e).trans h.free, h.size, h.in_⟩
theorem Rd.drew {w : World} {b : Nat} {s : ByteArray} {a : Nat} (h : Rd w b s a) : Rd w.drew b s a := h.drewN 1
theorem grown_drew {a w : World} {o : Option Nat} (h : a.grownBy w o) : a.grownBy w.drew o := ⟨h.os, h.tape, h.output, h.size, h.block⟩

/-- What stands ahead of a reader's method: its own copy of the reader, its result's block. -/
structure Ahead (w W : World) (b : Nat) (s : ByteArray) (a : Nat) (ty : TypeId) (cs : Array Value) : Prop where
  rd : Rd W b s a
  box : W.cell? ⟨w.heap.size, 0, none⟩ = some (.pointer (some ⟨b, 0, none⟩))
  res : Own W (w.heap.size + 1) ty cs
  gr : w.grownBy W (some b)
  lt : b < w.heap.size
theorem Ahead.new {w : World} {b : Nat} {s : ByteArray} {a : Nat} (h : Rd w b s a) (ty ty' : TypeId) (cs : Array Value) :
    Ahead w ((w.alloc (.cells #[.pointer (some ⟨b, 0, none⟩)] ty')).alloc (.cells cs ty)).drew b s a ty cs :=
  ⟨((h.alloc' _).alloc' _).drew, by simp, Own.drew (by have := Own.new (w.alloc (.cells #[.pointer (some ⟨b, 0, none⟩)] ty')) ty cs; simpa using this), grown_drew (grown_tr (grown_alloc _ _ _) (grown_alloc _ _ _)), h.lt⟩
theorem Ahead.go {w W W' : World} {b : Nat} {s : ByteArray} {a a' : Nat} {ty : TypeId} {cs : Array Value} (h : Ahead w W b s a ty cs) (hr : Rd W' b s a') (hg : W.grownBy W' (some b)) : Ahead w W' b s a' ty cs :=
  ⟨hr, cell_grown_by hg (by have := h.lt; show w.heap.size ≠ b; omega) h.box, h.res.grown hg (by intro e; cases e; have := h.lt; omega), grown_tr h.gr hg, h.lt⟩

set_option maxHeartbeats 1000000 in
theorem rconf (w : World) (b : Nat) (s : ByteArray) (a : Nat) (h : Rd w b s a) :
    Calls Try.prog 43 #[.agg #[.pointer (some ⟨b, 0, none⟩)]] w (RP getC (fun _ v val => val = .agg #[.int .u64 (v.e : Int), .int .i64 v.r]) w b s a) := by
  go_enter Try.func43, Try.ntmps43
  go_wp2
  have A0 := Ahead.new h 28 62 #[.int .u64 0, .int .i64 0]
  go_region_held2 (fun w' => w'.cell? ⟨w.heap.size, 0, none⟩ = some (.pointer (some ⟨b, 0, none⟩))) (first | (with_reducible exact A1.box) | (with_reducible exact A2.box) | go_keep)
    (first
      | (go_at_call 45; refine (rnum _ b s a 8 8 (by decide) A0.rd).mono ?_; rintro e w1 (⟨v, _, a1, hG, rfl, rfl, hr, hg⟩ | ⟨q, hG, rfl, hg⟩); rotate_left; exact ⟨rfl, .inr ⟨q, by simp only [getC, hG, andG_err], rfl, grown_tr A0.gr hg⟩⟩; (have A1 := A0.go hr hg); (have HG := Lib.hid hG); clear hG hr hg)
      | (go_at_call 48; refine (rprocess _ b s _ A1.rd).mono ?_; rintro e w2 (⟨v', _, a2, hG', rfl, rfl, hr', hg'⟩ | ⟨q, hG', rfl, hg'⟩); rotate_left; exact ⟨rfl, .inr ⟨q, by simp only [getC, HG.out, hG', andG_ok, andG_err], rfl, grown_tr A1.gr hg'⟩⟩; (have A2 := A1.go hr' hg'); (have HG' := Lib.hid hG'); (have c0 := A2.res.at_ 0 _ rfl); (have c1 := A2.res.at_ 1 _ rfl); (have f0 := A2.res.free 0); (have f1 := A2.res.free 1); clear hG' hr' hg'))
  go_wp2
  (try simp only [Exit.inBlock, Exit.then])
  refine bodyPost_ret (results_cell_row rfl _ _ (w.heap.size + 1) 28 #[.int .u64 (v : Int), .int .i64 v'] (0, 0) _ rfl ((A2.res.set 0 _).set 1 _) Try.underlying28 rfl (by kernel_rfl)) rfl ?_
  have hlt := A2.lt
  exact .inl ⟨⟨v, v'⟩, _, a2, by simp only [getC, HG.out, HG'.out, andG_ok], rfl, rfl, (A2.rd.set (by omega) _ _).set (by omega) _ _, grown_set (grown_set A2.gr (by omega) _ _) (by omega) _ _⟩
set_option maxHeartbeats 1000000 in
theorem rkey (w : World) (b : Nat) (s : ByteArray) (a : Nat) (h : Rd w b s a) :
    Calls Try.prog 78 #[.agg #[.pointer (some ⟨b, 0, none⟩)]] w (RP getC (fun _ v val => val = .agg #[.int .u64 (v.e : Int), .int .i64 v.r]) w b s a) := by
  go_enter Try.func78, Try.ntmps78
  go_wp2
  have A0 := Ahead.new h 48 62 #[.int .u64 0, .int .i64 0]
  go_region_held2 (fun w' => w'.cell? ⟨w.heap.size, 0, none⟩ = some (.pointer (some ⟨b, 0, none⟩))) (first | (with_reducible exact A1.box) | (with_reducible exact A2.box) | go_keep)
    (first
      | (go_at_call 45; refine (rnum _ b s a 8 8 (by decide) A0.rd).mono ?_; rintro e w1 (⟨v, _, a1, hG, rfl, rfl, hr, hg⟩ | ⟨q, hG, rfl, hg⟩); rotate_left; exact ⟨rfl, .inr ⟨q, by simp only [getC, hG, andG_err], rfl, grown_tr A0.gr hg⟩⟩; (have A1 := A0.go hr hg); (have HG := Lib.hid hG); clear hG hr hg)
      | (go_at_call 48; refine (rprocess _ b s _ A1.rd).mono ?_; rintro e w2 (⟨v', _, a2, hG', rfl, rfl, hr', hg'⟩ | ⟨q, hG', rfl, hg'⟩); rotate_left; exact ⟨rfl, .inr ⟨q, by simp only [getC, HG.out, hG', andG_ok, andG_err], rfl, grown_tr A1.gr hg'⟩⟩; (have A2 := A1.go hr' hg'); (have HG' := Lib.hid hG'); (have c0 := A2.res.at_ 0 _ rfl); (have c1 := A2.res.at_ 1 _ rfl); (have f0 := A2.res.free 0); (have f1 := A2.res.free 1); clear hG' hr' hg'))
  go_wp2
  (try simp only [Exit.inBlock, Exit.then])
  refine bodyPost_ret (results_cell_row rfl _ _ (w.heap.size + 1) 48 #[.int .u64 (v : Int), .int .i64 v'] (0, 0) _ rfl ((A2.res.set 0 _).set 1 _) Try.underlying48 rfl (by kernel_rfl)) rfl ?_
  have hlt := A2.lt
  exact .inl ⟨⟨v, v'⟩, _, a2, by simp only [getC, HG.out, HG'.out, andG_ok], rfl, rfl, (A2.rd.set (by omega) _ _).set (by omega) _ _, grown_set (grown_set A2.gr (by omega) _ _) (by omega) _ _⟩
end Go.Proofs.Ytibngfpjdookkaa
