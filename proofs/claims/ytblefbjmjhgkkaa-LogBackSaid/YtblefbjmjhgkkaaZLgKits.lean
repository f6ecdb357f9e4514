/- Layer 19: reading a record's bytes: what a reader's methods answer, each by one function on what is left of the bytes; numbers. -/
import Derived.Test.YtblefbjmjhgkkaaZPanics
import Derived.Test.YtblefbjmjhgkkaaZLogMath
import Derived.Test.YtblefbjmjhgkkaaZBel
import Derived.Test.YtblefbjmjhgkkaaZVoKit
import Derived.Deep.RegionHeld2
import Derived.Deep.RegionHeld3
import Derived.Deep.DeepCutAuto
import Derived.Deep.LoopGhost
set_option linter.unusedVariables false
set_option maxRecDepth 100000
set_option linter.unusedSimpArgs false
namespace Go.Proofs.Ytblefbjmjhgkkaa
open Go.RowKit Go.Sort

/-- 'panic' of an error's number, as it leaves a call. -/
def pan (c : Nat) : List PanicEntry := [{ v := .iface 34 (.int .i64 (c : Int)), recovered := false }]
theorem short_pan : short = pan 2 := rfl

/-- What a reader's method does: it answers the value that stands there, and is behind it; or gives up by its error. -/
def RP {α : Type} (G : List UInt8 → Got α) (D : World → α → Value → Prop) (w : World) (b : Nat) (s : ByteArray) (a : Nat) (e : Ending) (w' : World) : Prop :=
  (∃ v val a', G (restB s a) = .ok (v, restB s a') ∧ e = .returned val ∧ D w' v val ∧ Rd w' b s a' ∧ w.grownBy w' (some b)) ∨
  (∃ c, G (restB s a) = .error c ∧ e = .panicked (pan c) ∧ w.grownBy w' (some b))

theorem grown_drewN (w : World) (n : Nat) (o : Option Nat) : w.grownBy (w.drewN n) o := ⟨rfl, rfl, rfl, Nat.le_refl _, fun _ _ _ => rfl⟩

/-- A number of so many bytes. -/
theorem rnum (w : World) (b : Nat) (s : ByteArray) (a n : Nat) (k : Int) (hk : wid k = n) (h : Rd w b s a) :
    Calls Try.prog 45 #[.pointer (some ⟨b, 0, none⟩), .int .i64 k] w (RP (getN n) (fun _ v val => val = .int .u64 (v : Int)) w b s a) := by
  have hin := h.in_
  by_cases hm : a + n ≤ s.size
  · have := num_yes w b s a k h (by rw [hk]; simpa using hm)
    rw [hk, Int.toNat_natCast] at this
    refine this.mono ?_
    rintro e w' ⟨rfl, hr, hg⟩
    exact .inl ⟨_, _, a + n, getN_at hm, rfl, rfl, hr, hg⟩
  · refine (num_no w b s a k h (by rw [hk]; omega)).mono ?_
    rintro e w' ⟨rfl, i, rfl⟩
    exact .inr ⟨2, getN_short (by omega), rfl, grown_drewN _ _ _⟩

theorem getN_lt {n : Nat} {l : List UInt8} {v : Nat} {r : List UInt8} (h : getN n l = .ok (v, r)) : v < 256 ^ n := (getN_iff.1 h).1

/-- A number that is at most so much, else an error. -/
def getSm (n m c : Nat) (l : List UInt8) : Got Int := andG (getN n l) fun p r => badG c (m < p) (.ok ((p : Int), r))
theorem getP_sm : getP = getSm 1 63 1 := rfl

theorem grown_alloc (w : World) (o : Obj) (x : Option Nat) : w.grownBy (w.alloc o) x := ⟨rfl, rfl, rfl, by simp, fun k hk _ => heap_alloc_old w o hk⟩
theorem grown_tr {a b c : World} {row : Option Nat} (h : a.grownBy b row) (k : b.grownBy c row) : a.grownBy c row :=
  ⟨k.os.trans h.os, k.tape.trans h.tape, k.output.trans h.output, Nat.le_trans h.size k.size, fun i hi hn => (k.block i (Nat.lt_of_lt_of_le hi h.size) hn).trans (h.block i hi hn)⟩
theorem Rd.lt {w : World} {b : Nat} {s : ByteArray} {a : Nat} (h : Rd w b s a) : b < w.heap.size := World.block_lt_of_cell? _ _ h.text
theorem Rd.alloc' {w : World} {b : Nat} {s : ByteArray} {a : Nat} (h : Rd w b s a) (o : Obj) : Rd (w.alloc o) b s a := h.after ((Grw.refl w).alloc o).below

/-- A cell that stays in each world behind, wherever the reader's own block alone is turned. -/
theorem cell_grown_by {w w' : World} {b : Nat} {p : Addr} {v : Value} (hg : w.grownBy w' (some b)) (hp : p.block ≠ b) (h : w.cell? p = some v) : w'.cell? p = some v := by
  have hl := World.block_lt_of_cell? _ _ h
  rw [World.cell?_of_block (hg.block p.block hl (by intro e; cases e; exact hp rfl))]; exact h
theorem frozen_grown_by {w w' : World} {b : Nat} {p : Addr} (hg : w.grownBy w' (some b)) (hp : p.block ≠ b) (hl : p.block < w.heap.size) (h : w.frozen? p = false) : w'.frozen? p = false := by
  rw [World.frozen?_of_block (hg.block p.block hl (by intro e; cases e; exact hp rfl))]; exact h

theorem grown_set {a w : World} {b g : Nat} (h : a.grownBy w (some b)) (hg : a.heap.size ≤ g) (j : Nat) (v : Value) : a.grownBy (w.setCell ⟨g, j, none⟩ v) (some b) :=
  ⟨h.os, h.tape, h.output, by simp only [World.setCell, Array.size_modify]; exact h.size, fun k hk hn => (heap_setCell_other w _ _ v (by show k ≠ g; omega)).trans (h.block k hk hn)⟩
theorem Rd.set {w : World} {b : Nat} {s : ByteArray} {a : Nat} (h : Rd w b s a) {g : Nat} (hg : g ≠ b) (j : Nat) (v : Value) : Rd (w.setCell ⟨g, j, none⟩ v) b s a := by
  have e := heap_setCell_other w ⟨g, j, none⟩ b v (fun e => hg e.symm)
  exact ⟨(World.cell?_of_block e).trans h.text, (World.cell?_of_block e).trans h.place, (World.frozen?_of_block e).trans h.free, h.size, h.in_⟩
theorem Rd.drew {w : World} {b : Nat} {s : ByteArray} {a : Nat} (h : Rd w b s a) : Rd w.drew b s a := h.drewN 1
theorem grown_drew {a w : World} {o : Option Nat} (h : a.grownBy w o) : a.grownBy w.drew o := ⟨h.os, h.tape, h.output, h.size, h.block⟩

/-- What stands ahead of a reader's method: its own copy of the reader, its result's block. -/
structure Ahead (w W : World) (b : Nat) (s : ByteArray) (a : Nat) (ty : TypeId) (cs : Array Value) : Prop where
  rd : Rd W b s a
  box : W.cell? ⟨w.heap.size, 0, none⟩ = some (.pointer (some ⟨b, 0, none⟩))
  res : Own W (w.heap.size + 1) ty cs
  gr : w.grownBy W (some b)
  lt : b < w.heap.size
theorem Ahead.new {w : World} {b : Nat} {s : ByteArray} {a : Nat} (h : Rd w b s a) (ty ty' : TypeId) (cs : Array Value) :
    Ahead w ((w.alloc (.cells #[.pointer (some ⟨b, 0, none⟩)] ty')).alloc (.cells cs ty)).drew b s a ty cs :=
  ⟨((h.alloc' _).alloc' _).drew, by simp, Own.drew (by have := Own.new (w.alloc (.cells #[.pointer (some ⟨b, 0, none⟩)] ty')) ty cs; simpa using this), grown_drew (grown_tr (grown_alloc _ _ _) (grown_alloc _ _ _)), h.lt⟩
theorem Ahead.go {w W W' : World} {b : Nat} {s : ByteArray} {a a' : Nat} {ty : TypeId} {cs : Array Value} (h : Ahead w W b s a ty cs) (hr : Rd W' b s a') (hg : W.grownBy W' (some b)) : Ahead w W' b s a' ty cs :=
  ⟨hr, cell_grown_by hg (by have := h.lt; show w.heap.size ≠ b; omega) h.box, h.res.grown hg (by intro e; cases e; have := h.lt; omega), grown_tr h.gr hg, h.lt⟩

theorem Own.row {w : World} {g : Nat} {ty : TypeId} {cs : Array Value} (h : Own w g ty cs) (cs' : Array Value) : Own (w.setRow g cs') g ty cs' := setRow_heap w g cs cs' ty _ h
theorem Own.row_other {w : World} {g k : Nat} {ty : TypeId} {cs : Array Value} (h : Own w g ty cs) (cs' : Array Value) (hk : g ≠ k) : Own (w.setRow k cs') g ty cs := (setRow_other w k g cs' hk).trans h
theorem grown_row {a w : World} {b g : Nat} (h : a.grownBy w (some b)) (hg : a.heap.size ≤ g) (cs : Array Value) : a.grownBy (w.setRow g cs) (some b) :=
  ⟨h.os, h.tape, h.output, by rw [size_setRow]; exact h.size, fun k hk hn => (setRow_other w g k cs (by omega)).trans (h.block k hk hn)⟩
theorem Rd.row {w : World} {b : Nat} {s : ByteArray} {a : Nat} (h : Rd w b s a) {g : Nat} (hg : g ≠ b) (cs : Array Value) : Rd (w.setRow g cs) b s a := by
  have e := setRow_other w g b cs (fun e => hg e.symm)
  exact ⟨(World.cell?_of_block e).trans h.text, (World.cell?_of_block e).trans h.place, (World.frozen?_of_block e).trans h.free, h.size, h.in_⟩

set_option maxHeartbeats 1000000 in
theorem within_yes (v lo m : Int) (c : Int) (w : World) (h0 : lo ≤ v) (h : v ≤ m) :
    Calls Try.prog 31 #[.int .i64 v, .int .i64 lo, .int .i64 m, .int .i64 c] w fun e w' => e = .returned (.int .i64 v) ∧ w = w' := by
  have h1 : ¬ v < lo := by omega
  have h2 : ¬ m < v := by omega
  clear h0 h
  go_enter Try.func31, Try.ntmps31
  go_wp2
  go_ret
  exact ⟨rfl, rfl⟩
set_option maxHeartbeats 1000000 in
theorem within_no (v lo m c : Int) (w : World) (h : v < lo ∨ m < v) :
    Calls Try.prog 31 #[.int .i64 v, .int .i64 lo, .int .i64 m, .int .i64 c] w fun e w' => e = .panicked [{ v := .iface 34 (.int .i64 c), recovered := false }] ∧ w = w' := by
  by_cases h1 : v < lo
  · clear h
    go_enter Try.func31, Try.ntmps31
    go_wp2
    exact ⟨rfl, rfl, rfl⟩
  · have h2 : m < v := by omega
    clear h
    go_enter Try.func31, Try.ntmps31
    go_wp2
    exact ⟨rfl, rfl, rfl⟩

/-- What a reader's method without a struct begins with: its copy of the reader. -/
theorem rbegin {w : World} {b : Nat} {s : ByteArray} {a : Nat} (h : Rd w b s a) : Rd (w.alloc (.cells #[.pointer (some ⟨b, 0, none⟩)] 67)) b s a ∧ w.grownBy (w.alloc (.cells #[.pointer (some ⟨b, 0, none⟩)] 67)) (some b) :=
  ⟨h.alloc' _, grown_alloc _ _ _⟩
set_option maxHeartbeats 1000000 in
theorem rsmall (w : World) (b : Nat) (s : ByteArray) (a m c : Nat) (h : Rd w b s a) :
    Calls Try.prog 67 #[.agg #[.pointer (some ⟨b, 0, none⟩)], .int .i64 (m : Int), .int .i64 (c : Int)] w (RP (getSm 1 m c) (fun _ v val => val = .int .i64 v) w b s a) := by
  obtain ⟨H, hg0⟩ := rbegin h
  go_enter Try.func67, Try.ntmps67
  go_wp2_with fail
  refine (rnum _ b s a 1 1 (by decide) H).mono ?_
  rintro e w1 (⟨v, _, a1, hG, rfl, rfl, hr, hg⟩ | ⟨q, hG, rfl, hg⟩)
  · have hv' : v < 256 := getN_lt hG
    have HG := Lib.hid hG
    clear hG
    by_cases hm : v ≤ m
    · go_wp2_with fail
      refine (within_yes (v : Int) 0 (m : Int) c _ (by omega) (by omega)).mono ?_
      rintro e w2 ⟨rfl, rfl⟩
      go_wp2
      go_ret
      exact .inl ⟨(v : Int), _, a1, by simp only [getSm, HG.out, andG_ok, badG, if_neg (show ¬ m < v by omega)], rfl, rfl, hr, grown_tr hg0 hg⟩
    · go_wp2_with fail
      refine (within_no (v : Int) 0 (m : Int) c _ (.inr (by omega))).mono ?_
      rintro e w2 ⟨rfl, rfl⟩
      exact ⟨rfl, .inr ⟨c, by simp only [getSm, HG.out, andG_ok, badG, if_pos (show m < v by omega)], rfl, grown_tr hg0 hg⟩⟩
  · exact ⟨rfl, .inr ⟨q, by simp only [getSm, hG, andG_err], rfl, grown_tr hg0 hg⟩⟩
/-- The first byte, which is 1 to most. -/
def getK (m : Nat) (l : List UInt8) : Got Nat := andG (getN 1 l) fun k r => badG 10 (k < 1 ∨ m < k) (.ok (k, r))
set_option maxHeartbeats 1000000 in
theorem rkind (w : World) (b : Nat) (s : ByteArray) (a m : Nat) (h : Rd w b s a) :
    Calls Try.prog 23 #[.agg #[.pointer (some ⟨b, 0, none⟩)], .int .i64 (m : Int)] w (RP (getK m) (fun _ v val => val = .int .i64 (v : Int)) w b s a) := by
  obtain ⟨H, hg0⟩ := rbegin h
  go_enter Try.func23, Try.ntmps23
  go_wp2_with fail
  refine (rnum _ b s a 1 1 (by decide) H).mono ?_
  rintro e w1 (⟨v, _, a1, hG, rfl, rfl, hr, hg⟩ | ⟨q, hG, rfl, hg⟩)
  · have hv' : v < 256 := getN_lt hG
    have HG := Lib.hid hG
    clear hG
    by_cases hm : v < 1 ∨ m < v
    · go_wp2_with fail
      refine (within_no (v : Int) 1 (m : Int) 10 _ (by omega)).mono ?_
      rintro e w2 ⟨rfl, rfl⟩
      exact ⟨rfl, .inr ⟨10, by simp only [getK, HG.out, andG_ok, badG, if_pos hm], rfl, grown_tr hg0 hg⟩⟩
    · go_wp2_with fail
      refine (within_yes (v : Int) 1 (m : Int) 10 _ (by omega) (by omega)).mono ?_
      rintro e w2 ⟨rfl, rfl⟩
      go_wp2
      go_ret
      exact .inl ⟨v, _, a1, by simp only [getK, HG.out, andG_ok, badG, if_neg hm], rfl, rfl, hr, grown_tr hg0 hg⟩
  · exact ⟨rfl, .inr ⟨q, by simp only [getK, hG, andG_err], rfl, grown_tr hg0 hg⟩⟩
set_option maxHeartbeats 1000000 in
theorem rfour (w : World) (b : Nat) (s : ByteArray) (a : Nat) (h : Rd w b s a) :
    Calls Try.prog 46 #[.agg #[.pointer (some ⟨b, 0, none⟩)]] w (RP (getN 4) (fun _ v val => val = .int .u32 (v : Int)) w b s a) := by
  obtain ⟨H, hg0⟩ := rbegin h
  go_enter Try.func46, Try.ntmps46
  go_wp2_with fail
  refine (rnum _ b s a 4 4 (by decide) H).mono ?_
  rintro e w1 (⟨v, _, a1, hG, rfl, rfl, hr, hg⟩ | ⟨q, hG, rfl, hg⟩)
  · have hv : v < 4294967296 := getN_lt hG
    have HG := Lib.hid hG
    clear hG
    go_wp2
    go_ret
    exact .inl ⟨_, _, a1, HG.out, rfl, rfl, hr, grown_tr hg0 hg⟩
  · exact ⟨rfl, .inr ⟨q, hG, rfl, grown_tr hg0 hg⟩⟩
set_option maxHeartbeats 1000000 in
theorem rtwo (w : World) (b : Nat) (s : ByteArray) (a : Nat) (h : Rd w b s a) :
    Calls Try.prog 54 #[.agg #[.pointer (some ⟨b, 0, none⟩)]] w (RP (getN 2) (fun _ v val => val = .int .i64 (v : Int)) w b s a) := by
  obtain ⟨H, hg0⟩ := rbegin h
  go_enter Try.func54, Try.ntmps54
  go_wp2_with fail
  refine (rnum _ b s a 2 2 (by decide) H).mono ?_
  rintro e w1 (⟨v, _, a1, hG, rfl, rfl, hr, hg⟩ | ⟨q, hG, rfl, hg⟩)
  · have hv : v < 65536 := getN_lt hG
    have HG := Lib.hid hG
    clear hG
    go_wp2
    go_ret
    exact .inl ⟨_, _, a1, HG.out, rfl, rfl, hr, grown_tr hg0 hg⟩
  · exact ⟨rfl, .inr ⟨q, hG, rfl, grown_tr hg0 hg⟩⟩
/-- The byte of flags. -/
def getFl (l : List UInt8) : Got Nat := andG (getN 1 l) fun f r => badG 1 (3 < f) (.ok (f, r))
theorem getFl_of {l : List UInt8} : getSm 1 3 1 l = andG (getFl l) fun f r => .ok ((f : Int), r) := by
  unfold getSm getFl
  cases getN 1 l with
  | error e => rfl
  | ok x => 
    obtain ⟨f, r⟩ := x
    simp only [andG_ok, badG]
    split <;> rfl
set_option maxHeartbeats 1000000 in
theorem rflags (w : World) (b : Nat) (s : ByteArray) (a : Nat) (h : Rd w b s a) :
    Calls Try.prog 52 #[.agg #[.pointer (some ⟨b, 0, none⟩)]] w (RP getFl (fun _ f val => f ≤ 3 ∧ val = .tuple #[.bool (decide (f % 2 = 1)), .bool (decide (f / 2 = 1))]) w b s a) := by
  obtain ⟨H, hg0⟩ := rbegin h
  have HS : Calls Try.prog 67 #[.agg #[.pointer (some ⟨b, 0, none⟩)], .int .i64 3, .int .i64 1] (w.alloc (.cells #[.pointer (some ⟨b, 0, none⟩)] 67)) (RP (getSm 1 3 1) (fun _ v val => val = .int .i64 v) _ b s a) := rsmall _ b s a 3 1 H
  go_enter Try.func52, Try.ntmps52
  go_wp2_with fail
  refine HS.mono ?_
  rintro e w1 (⟨v, _, a1, hG, rfl, rfl, hr, hg⟩ | ⟨q, hG, rfl, hg⟩)
  · rw [getFl_of] at hG
    obtain ⟨f, r, hF, hR⟩ := andG_iff.1 hG
    simp only [Except.ok.injEq, Prod.mk.injEq] at hR
    obtain ⟨rfl, rfl⟩ := hR
    have hf : f ≤ 3 := by
      unfold getFl at hF
      simp only [andG_iff, badG_iff, Except.ok.injEq, Prod.mk.injEq] at hF
      obtain ⟨n, r, _, h3, rfl, _⟩ := hF
      omega
    have HF := Lib.hid hF
    have hgr := grown_tr hg0 hg
    clear hG hF HS
    have h4 : f = 0 ∨ f = 1 ∨ f = 2 ∨ f = 3 := by omega
    rcases h4 with rfl | rfl | rfl | rfl
    all_goals
      go_wp2
      go_ret2
      exact .inl ⟨_, _, a1, HF.out, rfl, ⟨by decide, rfl⟩, hr, hgr⟩
  · rw [getFl_of] at hG
    refine ⟨rfl, .inr ⟨q, ?_, rfl, grown_tr hg0 hg⟩⟩
    cases hF : getFl (restB s a) with
    | error x => rw [hF, andG_err] at hG; cases hG; rfl
    | ok x => obtain ⟨f, r⟩ := x; rw [hF, andG_ok] at hG; cases hG
set_option maxHeartbeats 1000000 in
theorem rend (w : World) (b : Nat) (s : ByteArray) (a : Nat) (h : Rd w b s a) :
    Calls Try.prog 25 #[.agg #[.pointer (some ⟨b, 0, none⟩)]] w fun e w' => w.grownBy w' (some b) ∧ ((restB s a = [] ∧ e = .returned (.tuple #[])) ∨ (restB s a ≠ [] ∧ e = .panicked (pan 4))) := by
  obtain ⟨H, hg0⟩ := rbegin h
  have hin := h.in_
  have hl := restB_length s a
  go_enter Try.func25, Try.ntmps25
  go_wp2_with fail
  refine (left_any _ _ _ _ H).mono ?_
  rintro e w1 ⟨rfl, n, rfl⟩
  have hg1 := grown_tr hg0 (grown_drewN (w.alloc (.cells #[.pointer (some ⟨b, 0, none⟩)] 67)) n (some b))
  by_cases hz : a = s.size
  · have HN : Hid (restB s a = []) := Lib.hid (List.eq_nil_of_length_eq_zero (by rw [hl]; omega))
    go_wp2_with fail
    refine (within_yes _ 0 0 4 _ (by omega) (by omega)).mono ?_
    rintro e w2 ⟨rfl, rfl⟩
    go_wp2
    go_end0
    exact ⟨hg1, .inl ⟨HN.out, rfl⟩⟩
  · have HN : Hid (restB s a ≠ []) := Lib.hid (fun e => by rw [e] at hl; simp at hl; omega)
    go_wp2_with fail
    refine (within_no _ 0 0 4 _ (.inr (by omega))).mono ?_
    rintro e w2 ⟨rfl, rfl⟩
    exact ⟨rfl, hg1, .inr ⟨HN.out, rfl⟩⟩
end Go.Proofs.Ytblefbjmjhgkkaa

/- Layer 19: reading a configuration, a view, pending views, a record, a stable record. -/
set_option linter.unusedVariables false
set_option maxRecDepth 100000
set_option linter.unusedSimpArgs false
namespace Go.Proofs.Ytblefbjmjhgkkaa
open Go.RowKit Go.Sort

/-- A configuration: its epoch, its representative. -/
def getCf (l : List UInt8) : Got (Nat × Int) := andG (getN 8 l) fun e r => andG (getP r) fun p r => .ok ((e, p), r)
set_option maxHeartbeats 1000000 in
theorem rconf (w : World) (b : Nat) (s : ByteArray) (a : Nat) (h : Rd w b s a) :
    Calls Try.prog 68 #[.agg #[.pointer (some ⟨b, 0, none⟩)]] w (RP getCf (fun _ v val => val = .agg #[.int .u64 (v.1 : Int), .int .i64 v.2]) w b s a) := by
  go_enter Try.func68, Try.ntmps68
  go_wp2
  have A0 := Ahead.new h 26 67 #[.int .u64 0, .int .i64 0]
  go_region_held2 (fun w' => w'.cell? ⟨w.heap.size, 0, none⟩ = some (.pointer (some ⟨b, 0, none⟩))) (first | (with_reducible exact A1.box) | (with_reducible exact A2.box) | go_keep)
    (first
      | (go_at_call 45; refine (rnum _ b s a 8 8 (by decide) A0.rd).mono ?_; rintro e w1 (⟨v, _, a1, hG, rfl, rfl, hr, hg⟩ | ⟨q, hG, rfl, hg⟩); rotate_left; exact ⟨rfl, .inr ⟨q, by simp only [getCf, hG, andG_err], rfl, grown_tr A0.gr hg⟩⟩; (have A1 := A0.go hr hg); (have HG := Lib.hid hG); clear hG hr hg)
      | (go_at_call 67; refine (rsmall _ b s _ 63 1 A1.rd).mono ?_; rintro e w2 (⟨v', _, a2, hG', rfl, rfl, hr', hg'⟩ | ⟨q, hG', rfl, hg'⟩); rotate_left; exact ⟨rfl, .inr ⟨q, by rw [← getP_sm] at hG'; simp only [getCf, HG.out, hG', andG_ok, andG_err], rfl, grown_tr A1.gr hg'⟩⟩; (have A2 := A1.go hr' hg'); (rw [← getP_sm] at hG'); (have HG' := Lib.hid hG'); (have c0 := A2.res.at_ 0 _ rfl); (have c1 := A2.res.at_ 1 _ rfl); (have f0 := A2.res.free 0); (have f1 := A2.res.free 1); clear hG' hr' hg'))
  go_wp2
  (try simp only [Exit.inBlock, Exit.then])
  refine bodyPost_ret (results_cell_row rfl _ _ (w.heap.size + 1) 26 #[.int .u64 (v : Int), .int .i64 v'] (0, 0) _ rfl ((A2.res.set 0 _).set 1 _) Try.underlying26 rfl (by kernel_rfl)) rfl ?_
  have hlt := A2.lt
  exact .inl ⟨(v, v'), _, a2, by simp only [getCf, HG.out, HG'.out, andG_ok], rfl, rfl, (A2.rd.set (by omega) _ _).set (by omega) _ _, grown_set (grown_set A2.gr (by omega) _ _) (by omega) _ _⟩
theorem getVw_cf (l : List UInt8) : getVw l = andG (getN 8 l) fun n r => andG (getCf r) fun c r => andG (getN 8 r) fun m r => .ok (⟨n, c.1, c.2, m⟩, r) := by
  unfold getVw getCf
  cases h1 : getN 8 l with
  | error e => simp only [andG_err]
  | ok x =>
    obtain ⟨n, r⟩ := x
    simp only [andG_ok]
    cases h2 : getN 8 r with
    | error e => simp only [andG_err]
    | ok x =>
      obtain ⟨e, r2⟩ := x
      simp only [andG_ok]
      cases h3 : getP r2 with
      | error e => simp only [andG_err]
      | ok x =>
        obtain ⟨p, r3⟩ := x
        simp only [andG_ok]
set_option maxHeartbeats 2000000 in
theorem rview (w : World) (b : Nat) (s : ByteArray) (a : Nat) (h : Rd w b s a) :
    Calls Try.prog 53 #[.agg #[.pointer (some ⟨b, 0, none⟩)]] w (RP getVw (fun _ v val => val = .agg #[.int .u64 (v.n : Int), .int .u64 (v.e : Int), .int .i64 v.r, .int .u64 (v.m : Int)]) w b s a) := by
  go_enter Try.func53, Try.ntmps53
  go_wp2
  have A0 := Ahead.new h 28 67 #[.int .u64 0, .int .u64 0, .int .i64 0, .int .u64 0]
  go_region_held2 (fun w' => w'.cell? ⟨w.heap.size, 0, none⟩ = some (.pointer (some ⟨b, 0, none⟩))) (first | (with_reducible exact A1.box) | (with_reducible exact A2.box) | (with_reducible exact A3.box) | go_keep)
    (first
      | (go_at_call 45; (with_reducible refine (rnum _ b s _ 8 8 (by decide) A0.rd).mono ?_); rintro e w1 (⟨v, _, a1, hG, rfl, rfl, hr, hg⟩ | ⟨q, hG, rfl, hg⟩); rotate_left; exact ⟨rfl, .inr ⟨q, by rw [getVw_cf]; simp only [hG, andG_err], rfl, grown_tr A0.gr hg⟩⟩; (have A1 := A0.go hr hg); (have HG := Lib.hid hG); clear hG hr hg)
      | (go_at_call 68; (with_reducible refine (rconf _ b s _ A1.rd).mono ?_); rintro e w2 (⟨v', _, a2, hG', rfl, rfl, hr', hg'⟩ | ⟨q, hG', rfl, hg'⟩); rotate_left; exact ⟨rfl, .inr ⟨q, by rw [getVw_cf]; simp only [HG.out, hG', andG_ok, andG_err], rfl, grown_tr A1.gr hg'⟩⟩; (have A2 := A1.go hr' hg'); (have HG' := Lib.hid hG'); clear hG' hr' hg')
      | (go_at_call 45; (with_reducible refine (rnum _ b s _ 8 8 (by decide) A2.rd).mono ?_); rintro e w3 (⟨v'', _, a3, hG'', rfl, rfl, hr'', hg''⟩ | ⟨q, hG'', rfl, hg''⟩); rotate_left; exact ⟨rfl, .inr ⟨q, by rw [getVw_cf]; simp only [HG.out, HG'.out, hG'', andG_ok, andG_err], rfl, grown_tr A2.gr hg''⟩⟩; (have A3 := A2.go hr'' hg''); (have HG'' := Lib.hid hG''); (have c0 := A3.res.at_ 0 _ rfl); (have c1 := A3.res.at_ 1 _ rfl); (have c2 := A3.res.at_ 2 _ rfl); (have c3 := A3.res.at_ 3 _ rfl); (have f0 := A3.res.free 0); (have f1 := A3.res.free 1); (have f2 := A3.res.free 2); (have f3 := A3.res.free 3); clear hG'' hr'' hg''))
  go_wp2
  (try simp only [Exit.inBlock, Exit.then])
  refine bodyPost_ret (results_cell_row rfl _ _ (w.heap.size + 1) 28 #[.int .u64 (v : Int), .int .u64 (v'.1 : Int), .int .i64 v'.2, .int .u64 (v'' : Int)] (0, 0) _ rfl ((((A3.res.set 0 _).set 1 _).set 2 _).set 3 _) Try.underlying28 rfl (by kernel_rfl)) rfl ?_
  have hlt := A3.lt
  exact .inl ⟨⟨v, v'.1, v'.2, v''⟩, _, a3, by rw [getVw_cf]; simp only [HG.out, HG'.out, HG''.out, andG_ok], rfl, rfl, (((A3.rd.set (by omega) _ _).set (by omega) _ _).set (by omega) _ _).set (by omega) _ _, grown_set (grown_set (grown_set (grown_set A3.gr (by omega) _ _) (by omega) _ _) (by omega) _ _) (by omega) _ _⟩
end Go.Proofs.Ytblefbjmjhgkkaa

/- Layer 19: reading pending views, a record, a stable record; what is left. -/
set_option linter.unusedVariables false
set_option maxRecDepth 100000
set_option linter.unusedSimpArgs false
namespace Go.Proofs.Ytblefbjmjhgkkaa
open Go.RowKit Go.Sort

/-- Pending views: how many, and these. -/
def getPd (l : List UInt8) : Got (List Vw) := andG (getN 1 l) fun n r => badG 3 (32 < n) (getVws n r)
theorem getRec_pd (l : List UInt8) : getRec l = andG (getVw l) fun v r => andG (getPd r) fun vs r => .ok (⟨v, vs⟩, r) := by
  unfold getRec getPd
  cases h1 : getVw l with
  | error e => simp only [andG_err]
  | ok x =>
    obtain ⟨v, r⟩ := x
    simp only [andG_ok]
    cases h2 : getN 1 r with
    | error e => simp only [andG_err]
    | ok x =>
      obtain ⟨n, r2⟩ := x
      simp only [andG_ok, badG]
      split
      · rfl
      · rfl
theorem getPd_sm {l : List UInt8} {n : Int} {r : List UInt8} (h : getSm 1 32 3 l = .ok (n, r)) : ∃ m : Nat, n = (m : Int) ∧ m ≤ 32 ∧ getPd l = getVws m r := by
  unfold getSm at h
  simp only [andG_iff, badG_iff, Except.ok.injEq, Prod.mk.injEq] at h
  obtain ⟨p, r', h1, h2, rfl, rfl⟩ := h
  refine ⟨p, rfl, by omega, ?_⟩
  unfold getPd
  rw [h1, andG_ok, badG, if_neg h2]
theorem getPd_err {l : List UInt8} {q : Nat} (h : getSm 1 32 3 l = .error q) : getPd l = .error q := by
  unfold getSm at h
  unfold getPd
  cases e : getN 1 l with
  | error x => rw [e, andG_err] at h; cases h; rw [andG_err]
  | ok x =>
    obtain ⟨p, r⟩ := x
    rw [e, andG_ok] at h
    rw [andG_ok]
    unfold badG at h ⊢
    split at h
    · cases h; rename_i h3; rw [if_pos h3]
    · cases h
theorem getVws_succ (n : Nat) (l : List UInt8) : getVws (n + 1) l = andG (getVw l) fun v r => andG (getVws n r) fun vs r => .ok (v :: vs, r) := rfl
/-- So many of them were read. -/
structure PdAt (l0 : List UInt8) (n k : Nat) (L : List Vw) (l : List UInt8) : Prop where
  get : getVws n l0 = andG (getVws (n - k) l) fun vs r => .ok (L ++ vs, r)
  len : L.length = k
theorem PdAt.begin (n : Nat) (l : List UInt8) : PdAt l n 0 [] l := ⟨by
  rw [Nat.sub_zero]
  cases getVws n l with
  | error e => rfl
  | ok x => rfl, rfl⟩
theorem PdAt.step {l0 : List UInt8} {n k : Nat} {L : List Vw} {l : List UInt8} {v : Vw} {r : List UInt8} (h : PdAt l0 n k L l) (hk : k < n) (hG : getVw l = .ok (v, r)) : PdAt l0 n (k + 1) (L ++ [v]) r := by
  refine ⟨?_, by rw [List.length_append, h.len]; rfl⟩
  rw [h.get, show n - k = (n - (k + 1)) + 1 by omega, getVws_succ, hG, andG_ok]
  cases getVws (n - (k + 1)) r with
  | error e => simp only [andG_err]
  | ok x =>
    obtain ⟨vs, r2⟩ := x
    simp only [andG_ok, List.append_assoc, List.singleton_append]
theorem PdAt.error {l0 : List UInt8} {n k : Nat} {L : List Vw} {l : List UInt8} {q : Nat} (h : PdAt l0 n k L l) (hk : k < n) (hG : getVw l = .error q) : getVws n l0 = .error q := by
  rw [h.get, show n - k = (n - (k + 1)) + 1 by omega, getVws_succ, hG, andG_err, andG_err]
theorem PdAt.done {l0 : List UInt8} {n : Nat} {L : List Vw} {l : List UInt8} (h : PdAt l0 n n L l) : getVws n l0 = .ok (L, l) := by
  rw [h.get, Nat.sub_self]
  simp [getVws, andG_ok]
/-- A row of views of the call's own stands wherever only a reader's block ahead of it turns. -/
theorem own_by {w w' : World} {B b n k : Nat} {t : TypeId} {v : Value} {xs : List Value} (h : w.ownsRow B t k v n xs) (hg : w.grownBy w' (some b)) (hb : b < B) : w'.ownsRow B t k v n xs := by
  refine ⟨h.1, ?_⟩
  rcases h.2 with h1 | ⟨g, cap, cur, h1, h2, h3, h4⟩
  · exact .inl h1
  · exact .inr ⟨g, cap, cur, h1, h2, (hg.block g (Array.getElem?_eq_some_iff.1 h3).1 (by intro e; injection e with e; omega)).trans h3, h4⟩
theorem grown_over {a w w' : World} {b B n k : Nat} {t : TypeId} {v : Value} {xs : List Value} (h : a.grownBy w (some b)) (ho : w.ownsRow B t k v n xs) (hB : a.heap.size ≤ B) (hg : w.grownBy w' v.ownBlock) : a.grownBy w' (some b) :=
  ⟨hg.os.trans h.os, hg.tape.trans h.tape, hg.output.trans h.output, Nat.le_trans h.size hg.size, fun j hj hn => (hg.block j (Nat.lt_of_lt_of_le hj h.size) (by
    intro e
    have := (own_at18 ho j e.symm).1
    omega)).trans (h.block j hj hn)⟩
theorem Rd.over {w w' : World} {b B n k a : Nat} {s : ByteArray} {t : TypeId} {v : Value} {xs : List Value} (h : Rd w b s a) (ho : w.ownsRow B t k v n xs) (hB : b < B) (hg : w.grownBy w' v.ownBlock) : Rd w' b s a := by
  have e : w'.heap[b]? = w.heap[b]? := hg.block b h.lt (by intro e; have := (own_at18 ho b e.symm).1; omega)
  exact ⟨(World.cell?_of_block e).trans h.text, (World.cell?_of_block e).trans h.place, (World.frozen?_of_block e).trans h.free, h.size, h.in_⟩
theorem cell_over {w w' : World} {B n k g j : Nat} {t : TypeId} {v x : Value} {xs : List Value} (h : w.cell? ⟨g, j, none⟩ = some x) (ho : w.ownsRow B t k v n xs) (hB : g < B) (hg : w.grownBy w' v.ownBlock) : w'.cell? ⟨g, j, none⟩ = some x := by
  have hl := World.block_lt_of_cell? _ _ h
  have e : w'.heap[g]? = w.heap[g]? := hg.block g hl (by intro e; have := (own_at18 ho g e.symm).1; omega)
  exact (World.cell?_of_block e).trans h

/-- Pending views that are being read: k of n. -/
structure PgSt (w W : World) (b : Nat) (s : ByteArray) (l0 : List UInt8) (n k : Nat) (L : List Vw) (v : Value) (a : Nat) : Prop where
  rd : Rd W b s a
  box : W.cell? ⟨w.heap.size, 0, none⟩ = some (.pointer (some ⟨b, 0, none⟩))
  row : W.ownsRow (w.heap.size + 1) 28 4 v k (flat encV L)
  gr : w.grownBy W (some b)
  lt : b < w.heap.size
  z : w.heap.size + 1 ≤ W.heap.size
  at_ : PdAt l0 n k L (restB s a)
/-- What a reader of pending views hands out: a row of the call's own. -/
def OwnV (B : Nat) (w : World) (L : List Vw) (val : Value) : Prop := ∃ a k c, val = .slice a k c ∧ w.ownsRow B 28 4 (.slice a k c) k (flat encV L) ∧ L.length = k ∧ k ≤ 32
set_option maxHeartbeats 4000000 in
theorem rpending (w : World) (b : Nat) (s : ByteArray) (a : Nat) (h : Rd w b s a) :
    Calls Try.prog 65 #[.agg #[.pointer (some ⟨b, 0, none⟩)]] w (RP getPd (fun w' L val => OwnV (w.heap.size + 1) w' L val) w b s a) := by
  have hlt := h.lt
  obtain ⟨H, hg0⟩ := rbegin h
  have hbx : (w.alloc (.cells #[.pointer (some ⟨b, 0, none⟩)] 67)).cell? ⟨w.heap.size, 0, none⟩ = some (.pointer (some ⟨b, 0, none⟩)) := by simp
  have hz0 : (w.alloc (.cells #[.pointer (some ⟨b, 0, none⟩)] 67)).heap.size = w.heap.size + 1 := by simp
  have HS : Calls Try.prog 67 #[.agg #[.pointer (some ⟨b, 0, none⟩)], .int .i64 32, .int .i64 3] (w.alloc (.cells #[.pointer (some ⟨b, 0, none⟩)] 67)) (RP (getSm 1 32 3) (fun _ v val => val = .int .i64 v) _ b s a) := rsmall _ b s a 32 3 H
  go_enter Try.func65, Try.ntmps65
  go_wp2_with fail
  refine HS.mono ?_
  rintro e w1 (⟨v, _, a1, hG, rfl, rfl, hr, hg⟩ | ⟨q, hG, rfl, hg⟩)
  case inr => exact ⟨rfl, .inr ⟨q, getPd_err hG, rfl, grown_tr hg0 hg⟩⟩
  obtain ⟨n, rfl, hn, hG1⟩ := getPd_sm hG
  have hb1 : w1.cell? ⟨w.heap.size, 0, none⟩ = some (.pointer (some ⟨b, 0, none⟩)) := cell_grown_by hg (by show w.heap.size ≠ b; omega) hbx
  have hz1 := hg.size
  rw [hz0] at hz1
  have S0 : PgSt w w1 b s (restB s a1) n 0 [] (.slice none 0 0) a1 := ⟨hr, hb1, World.ownsRow_nil _ _ _ _, grown_tr hg0 hg, hlt, hz1, PdAt.begin _ _⟩
  have HG := Lib.hid hG1
  clear hG hG1 hr hg hg0 H hbx hb1 hz0 HS
  go_wp2_with fail
  have HN : (n : Int) ≤ 32 := by omega
  go_loopw [3, 6] (fun sl si wr => ∃ (k ak : Nat) (L : List Vw) (pa : Option Addr) (pc : Nat), k ≤ n ∧ sl = .slice pa k pc ∧ si = .int .i64 (k : Int) ∧ PgSt w wr b s (restB s a1) n k L (.slice pa k pc) ak) (fun _ si _ => n - (intOf si).toNat)
  case atStart => exact ⟨0, a1, [], none, 0, Nat.zero_le _, rfl, rfl, S0⟩
  case round =>
    clear S0
    obtain ⟨k, ak, L, pa, pc, hk, rfl, rfl, S⟩ := hrel
    have hbox := S.box
    by_cases hlt : k < n
    · go_wp2_with fail
      refine (rview _ b s ak S.rd).mono ?_
      rintro e w3 (⟨x, _, a3, hG, rfl, rfl, hr, hg⟩ | ⟨q, hG, rfl, hg⟩)
      case inr => exact ⟨rfl, .inr ⟨q, by rw [HG.out]; exact S.at_.error hlt hG, rfl, grown_tr S.gr hg⟩⟩
      have hbl := S.lt
      have hzl := S.z
      have B3 : w3.cell? ⟨w.heap.size, 0, none⟩ = some (.pointer (some ⟨b, 0, none⟩)) := cell_grown_by hg (by show w.heap.size ≠ b; omega) hbox
      have O3 := own_by S.row hg (by omega)
      have G3 := grown_tr S.gr hg
      have hz3 : w.heap.size + 1 ≤ w3.heap.size := Nat.le_trans hzl hg.size
      have P3 := S.at_.step hlt hG
      obtain ⟨xn, xe, xr, xm⟩ := x
      have L4 := (Grw.refl w3).alloc (.cells #[.int .u64 xn, .int .u64 xe, .int .i64 xr, .int .u64 xm] 28)
      have N4 := Lib.hid (vw_lst (VwB.new w3 ⟨xn, xe, xr, xm⟩))
      have O4 := Lib.hid (own_grw O3 L4)
      have R4 := Lib.hid (hr.after L4.below)
      have B4 := Lib.hid (cell_later L4.below B3)
      have G4 := Lib.hid (grown_below G3 L4.below)
      have hz4 : w.heap.size + 1 ≤ (w3.alloc (.cells #[.int .u64 xn, .int .u64 xe, .int .i64 xr, .int .u64 xm] 28)).heap.size := Nat.le_trans hz3 L4.below.size
      have HP := Lib.hid P3
      clear hG hr hg hbox S B3 O3 G3 P3 L4 hz3 hzl
      go_wp2_with (at_builtin; refine append_vw _ rfl (.tmp 8) (.tmp 11) rfl (w.heap.size + 1) _ _ _ rfl O4.out (some ⟨w3.heap.size, 0, none⟩) 1 1 _ rfl (fun h => by cases h) N4.out (by omega) hz4 ?_; intro v9 w9 h1 h2; obtain ⟨a9, c9, rfl⟩ := own_form' h1)
      rw [← flat_append] at h1
      have S9 : PgSt w w9 b s (restB s a1) n (k + 1) (L ++ [⟨xn, xe, xr, xm⟩]) (.slice a9 (k + 1) c9) a3 :=
        ⟨R4.out.over O4.out (by omega) h2, cell_over B4.out O4.out (by omega) h2, h1, grown_over G4.out O4.out (by omega) h2, hbl, Nat.le_trans hz4 h2.size, HP.out⟩
      have HS9 := Lib.hid S9
      clear h1 h2 S9 N4 O4 R4 B4 G4 hz4 HP
      go_wp2
      go_roundw
      case rel => exact ⟨k + 1, a3, _, a9, c9, by omega, by go_num, by go_num, HS9.out⟩
      case measure => simp [intOf]; omega
    · obtain rfl : k = n := by omega
      have HD := Lib.hid S.at_.done
      have HL := Lib.hid S.at_.len
      have HSS := Lib.hid S
      clear S hbox
      go_wp2
      go_ret
      exact .inl ⟨L, _, ak, by rw [HG.out]; exact HD.out, rfl, ⟨pa, k, pc, rfl, HSS.out.row, HL.out, by omega⟩, HSS.out.rd, HSS.out.gr⟩
end Go.Proofs.Ytblefbjmjhgkkaa

/- Layer 19: reading a record, a stable record; what is left as a text. -/
set_option linter.unusedVariables false
set_option maxRecDepth 100000
set_option linter.unusedSimpArgs false
namespace Go.Proofs.Ytblefbjmjhgkkaa
open Go.RowKit Go.Sort

theorem own_set {w : World} {B n k g : Nat} {t : TypeId} {v : Value} {xs : List Value} (h : w.ownsRow B t k v n xs) (hg : g < B) (j : Nat) (x : Value) : (w.setCell ⟨g, j, none⟩ x).ownsRow B t k v n xs := by
  refine ⟨h.1, ?_⟩
  rcases h.2 with h1 | ⟨g', cap, cur, h1, h2, h3, h4⟩
  · exact .inl h1
  · exact .inr ⟨g', cap, cur, h1, h2, (heap_setCell_other w ⟨g, j, none⟩ g' x (by show g' ≠ g; omega)).trans h3, h4⟩
theorem own_setRow {w : World} {B n k g : Nat} {t : TypeId} {v : Value} {xs : List Value} (h : w.ownsRow B t k v n xs) (hg : g < B) (cs : Array Value) : (w.setRow g cs).ownsRow B t k v n xs := by
  refine ⟨h.1, ?_⟩
  rcases h.2 with h1 | ⟨g', cap, cur, h1, h2, h3, h4⟩
  · exact .inl h1
  · exact .inr ⟨g', cap, cur, h1, h2, (setRow_other w g g' cs (by omega)).trans h3, h4⟩
/-- What a reader of a record hands out. -/
def OwnR (B : Nat) (w : World) (x : Rp) (val : Value) : Prop := ∃ a k c, val = .agg #[.int .u64 (x.last.n : Int), .int .u64 (x.last.e : Int), .int .i64 x.last.r, .int .u64 (x.last.m : Int), .slice a k c] ∧ w.ownsRow B 28 4 (.slice a k c) k (flat encV x.pend) ∧ x.pend.length = k ∧ k ≤ 32
set_option maxHeartbeats 2000000 in
theorem rrecord (w : World) (b : Nat) (s : ByteArray) (a : Nat) (h : Rd w b s a) :
    Calls Try.prog 47 #[.agg #[.pointer (some ⟨b, 0, none⟩)]] w (RP getRec (fun w' x val => OwnR w.heap.size w' x val) w b s a) := by
  go_enter Try.func47, Try.ntmps47
  go_wp2
  have A0 := Ahead.new h 31 67 #[.int .u64 0, .int .u64 0, .int .i64 0, .int .u64 0, .slice none 0 0]
  go_region_held2 (fun w' => w'.cell? ⟨w.heap.size, 0, none⟩ = some (.pointer (some ⟨b, 0, none⟩))) (first | (with_reducible exact A0.box) | (with_reducible exact A1.box) | (with_reducible exact A2.box) | go_keep)
    (first
      | (go_at_call 53; (with_reducible refine (rview _ b s _ A0.rd).mono ?_); rintro e w1 (⟨v, _, a1, hG, rfl, rfl, hr, hg⟩ | ⟨q, hG, rfl, hg⟩); rotate_left; exact ⟨rfl, .inr ⟨q, by rw [getRec_pd]; simp only [hG, andG_err], rfl, grown_tr A0.gr hg⟩⟩; (have A1 := A0.go hr hg); (have HG := Lib.hid hG); clear hG hr hg)
      | (go_at_call 65; (with_reducible refine (rpending _ b s _ A1.rd).mono ?_); rintro e w2 (⟨vs, _, a2, hG', rfl, ⟨pa, pk, pc, rfl, ho, hol, hok⟩, hr', hg'⟩ | ⟨q, hG', rfl, hg'⟩); rotate_left; exact ⟨rfl, .inr ⟨q, by rw [getRec_pd]; simp only [HG.out, hG', andG_ok, andG_err], rfl, grown_tr A1.gr hg'⟩⟩; (have A2 := A1.go hr' hg'); (have HG' := Lib.hid hG'); (have HO := Lib.hid (own_base ho (show w.heap.size + 2 ≤ w1.heap.size + 1 by have := A1.res.lt; omega))); (have HOL := Lib.hid hol); (have HOK := Lib.hid hok); (have c0 := A2.res.at_ 0 _ rfl); (have c1 := A2.res.at_ 1 _ rfl); (have c2 := A2.res.at_ 2 _ rfl); (have c3 := A2.res.at_ 3 _ rfl); (have c4 := A2.res.at_ 4 _ rfl); (have f0 := A2.res.free 0); (have f1 := A2.res.free 1); (have f2 := A2.res.free 2); (have f3 := A2.res.free 3); (have f4 := A2.res.free 4); clear hG' hr' hg' ho hol hok))
  go_wp2
  (try simp only [Exit.inBlock, Exit.then])
  refine bodyPost_ret (results_cell_row rfl _ _ (w.heap.size + 1) 31 #[.int .u64 (v.n : Int), .int .u64 (v.e : Int), .int .i64 v.r, .int .u64 (v.m : Int), .slice pa pk pc] (0, 0) _ rfl (((((A2.res.set 0 _).set 1 _).set 2 _).set 3 _).set 4 _) Try.underlying31 rfl (by kernel_rfl)) rfl ?_
  have hlt := A2.lt
  exact .inl ⟨⟨v, vs⟩, _, a2, by rw [getRec_pd]; simp only [HG.out, HG'.out, andG_ok], rfl, ⟨pa, pk, pc, rfl, own_base (own_set (own_set (own_set (own_set (own_set HO.out (by omega) _ _) (by omega) _ _) (by omega) _ _) (by omega) _ _) (by omega) _ _) (by omega), HOL.out, HOK.out⟩, ((((A2.rd.set (by omega) _ _).set (by omega) _ _).set (by omega) _ _).set (by omega) _ _).set (by omega) _ _, grown_set (grown_set (grown_set (grown_set (grown_set A2.gr (by omega) _ _) (by omega) _ _) (by omega) _ _) (by omega) _ _) (by omega) _ _⟩
/-- A stable record behind its kind. -/
def getSt (l : List UInt8) : Got Stb := andG (getN 8 l) fun e r => andG (getN 4 r) fun i r => andG (getRec r) fun x r => .ok (⟨e, i, x⟩, r)
def encS (x : Stb) (a : Option Addr) (k c : Nat) : List Value := [.int .u64 (x.ep : Int), .int .u32 (x.inc : Int), .int .u64 (x.r.last.n : Int), .int .u64 (x.r.last.e : Int), .int .i64 x.r.last.r, .int .u64 (x.r.last.m : Int), .slice a k c]
def OwnS (B : Nat) (w : World) (x : Stb) (val : Value) : Prop := ∃ a k c, val = .agg (encS x a k c).toArray ∧ w.ownsRow B 28 4 (.slice a k c) k (flat encV x.r.pend) ∧ x.r.pend.length = k ∧ k ≤ 32
set_option maxHeartbeats 2000000 in
theorem rstable (w : World) (b : Nat) (s : ByteArray) (a : Nat) (h : Rd w b s a) :
    Calls Try.prog 24 #[.agg #[.pointer (some ⟨b, 0, none⟩)]] w (RP getSt (fun w' x val => OwnS w.heap.size w' x val) w b s a) := by
  go_enter Try.func24, Try.ntmps24
  go_wp2
  have A0 := Ahead.new h 33 67 #[.int .u64 0, .int .u32 0, .int .u64 0, .int .u64 0, .int .i64 0, .int .u64 0, .slice none 0 0]
  go_region_held2 (fun w' => w'.cell? ⟨w.heap.size, 0, none⟩ = some (.pointer (some ⟨b, 0, none⟩))) (first | (with_reducible exact A0.box) | (with_reducible exact A1.box) | (with_reducible exact A2.box) | (with_reducible exact A3.box) | go_keep)
    (first
      | (go_at_call 45; (with_reducible refine (rnum _ b s _ 8 8 (by decide) A0.rd).mono ?_); rintro e w1 (⟨v, _, a1, hG, rfl, rfl, hr, hg⟩ | ⟨q, hG, rfl, hg⟩); rotate_left; exact ⟨rfl, .inr ⟨q, by simp only [getSt, hG, andG_err], rfl, grown_tr A0.gr hg⟩⟩; (have A1 := A0.go hr hg); (have HG := Lib.hid hG); clear hG hr hg)
      | (go_at_call 46; (with_reducible refine (rfour _ b s _ A1.rd).mono ?_); rintro e w2 (⟨i, _, a2, hG', rfl, rfl, hr', hg'⟩ | ⟨q, hG', rfl, hg'⟩); rotate_left; exact ⟨rfl, .inr ⟨q, by simp only [getSt, HG.out, hG', andG_ok, andG_err], rfl, grown_tr A1.gr hg'⟩⟩; (have A2 := A1.go hr' hg'); (have HG' := Lib.hid hG'); clear hG' hr' hg')
      | (go_at_call 47; (with_reducible refine (rrecord _ b s _ A2.rd).mono ?_); rintro e w3 (⟨x, _, a3, hG'', rfl, ⟨pa, pk, pc, rfl, ho, hol, hok⟩, hr'', hg''⟩ | ⟨q, hG'', rfl, hg''⟩); rotate_left; exact ⟨rfl, .inr ⟨q, by simp only [getSt, HG.out, HG'.out, hG'', andG_ok, andG_err], rfl, grown_tr A2.gr hg''⟩⟩; (have A3 := A2.go hr'' hg''); (have HG'' := Lib.hid hG''); (have HO := Lib.hid (own_base ho (show w.heap.size + 2 ≤ w2.heap.size by have := A2.res.lt; omega))); (have HOL := Lib.hid hol); (have HOK := Lib.hid hok); (have c0 := A3.res.at_ 0 _ rfl); (have c1 := A3.res.at_ 1 _ rfl); (have c2 := A3.res.at_ 2 _ rfl); (have c3 := A3.res.at_ 3 _ rfl); (have c4 := A3.res.at_ 4 _ rfl); (have c5 := A3.res.at_ 5 _ rfl); (have c6 := A3.res.at_ 6 _ rfl); (have f0 := A3.res.free 0); (have f1 := A3.res.free 1); (have f2 := A3.res.free 2); (have f3 := A3.res.free 3); (have f4 := A3.res.free 4); (have f5 := A3.res.free 5); (have f6 := A3.res.free 6); clear hG'' hr'' hg'' ho hol hok))
  go_wp2
  (try simp only [Exit.inBlock, Exit.then])
  refine bodyPost_ret (results_cell_row rfl _ _ (w.heap.size + 1) 33 #[.int .u64 (v : Int), .int .u32 (i : Int), .int .u64 (x.last.n : Int), .int .u64 (x.last.e : Int), .int .i64 x.last.r, .int .u64 (x.last.m : Int), .slice pa pk pc] (0, 0) _ rfl (((((((A3.res.set 0 _).set 1 _).set 2 _).set 3 _).set 4 _).set 5 _).set 6 _) Try.underlying33 rfl (by kernel_rfl)) rfl ?_
  have hlt := A3.lt
  exact .inl ⟨⟨v, i, x⟩, _, a3, by simp only [getSt, HG.out, HG'.out, HG''.out, andG_ok], rfl, ⟨pa, pk, pc, rfl, own_base (own_set (own_set (own_set (own_set (own_set (own_set (own_set HO.out (by omega) _ _) (by omega) _ _) (by omega) _ _) (by omega) _ _) (by omega) _ _) (by omega) _ _) (by omega) _ _) (by omega), HOL.out, HOK.out⟩, ((((((A3.rd.set (by omega) _ _).set (by omega) _ _).set (by omega) _ _).set (by omega) _ _).set (by omega) _ _).set (by omega) _ _).set (by omega) _ _, grown_set (grown_set (grown_set (grown_set (grown_set (grown_set (grown_set A3.gr (by omega) _ _) (by omega) _ _) (by omega) _ _) (by omega) _ _) (by omega) _ _) (by omega) _ _) (by omega) _ _⟩
/-- What is left, all of it. -/
def getAll (l : List UInt8) : Got (List UInt8) := .ok (l, [])
set_option maxHeartbeats 1000000 in
theorem rrest (w : World) (b : Nat) (s : ByteArray) (a : Nat) (h : Rd w b s a) (hs : s.size ≤ 1099511627776) :
    Calls Try.prog 51 #[.agg #[.pointer (some ⟨b, 0, none⟩)]] w (RP getAll (fun _ l val => ∃ T : ByteArray, val = .string T ∧ T.data.toList = l) w b s a) := by
  obtain ⟨H, hg0⟩ := rbegin h
  have hin := h.in_
  have hbx : (w.alloc (.cells #[.pointer (some ⟨b, 0, none⟩)] 67)).cell? ⟨w.heap.size, 0, none⟩ = some (.pointer (some ⟨b, 0, none⟩)) := by simp
  have hlt := h.lt
  have hp : pos ((s.size : Int) - (a : Int)) = ((s.size - a : Nat) : Int) := by unfold pos; split <;> omega
  have hE : (s.extract a (a + (s.size - a))).data.toList = restB s a := by
    unfold restB
    rw [show a + (s.size - a) = s.size by omega]
    rw [ByteArray.data_extract, Array.toList_extract]
    show ((s.data.toList.drop a).take (s.size - a)) = _
    exact List.take_of_length_le (by rw [List.length_drop, Array.length_toList]; exact Nat.le_refl _)
  have hE2 : (s.extract a s.size).data.toList = restB s a := by
    rw [show a + (s.size - a) = s.size by omega] at hE
    exact hE
  have hR : restB s (a + (s.size - a)) = [] := by
    unfold restB
    exact List.drop_of_length_le (by rw [Array.length_toList]; show s.size ≤ _; omega)
  go_enter Try.func51, Try.ntmps51
  go_wp2
  go_region_held2 (fun w' => w'.cell? ⟨w.heap.size, 0, none⟩ = some (.pointer (some ⟨b, 0, none⟩))) (first | (with_reducible exact hb1) | (with_reducible exact hb2) | go_keep)
    (first
      | (go_at_call 48; (refine (left_any _ b s a (H.drewN 1)).mono ?_); rintro e w1 ⟨rfl, n1, hw1⟩; (have R1 : Rd w1 b s a := by rw [hw1]; exact (H.drewN 1).drewN n1); (have hb1 : w1.cell? ⟨w.heap.size, 0, none⟩ = some (.pointer (some ⟨b, 0, none⟩)) := by rw [hw1]; exact hbx); (have hg1 : w.grownBy w1 (some b) := by rw [hw1]; exact grown_tr (grown_tr hg0 (grown_drewN _ 1 _)) (grown_drewN _ n1 _)); clear hw1)
      | (go_at_call 66; (refine (text_yes _ b s a (s.size - a) _ R1 hp (by omega) hs).mono ?_); rintro e w2 ⟨rfl, hr2, hg2⟩; (have hb2 : w2.cell? ⟨w.heap.size, 0, none⟩ = some (.pointer (some ⟨b, 0, none⟩)) := cell_grown_by hg2 (by show w.heap.size ≠ b; omega) hb1)))
  go_wp2
  go_ret
  exact .inl ⟨_, _, _, by unfold getAll; rw [hR], rfl, ⟨_, rfl, hE2⟩, hr2, grown_tr hg1 hg2⟩
end Go.Proofs.Ytblefbjmjhgkkaa

/- Layer 19: reading an item, kind by kind. (Written by a program.) -/
set_option linter.unusedVariables false
set_option maxRecDepth 100000
set_option linter.unusedSimpArgs false
namespace Go.Proofs.Ytblefbjmjhgkkaa
open Go.RowKit Go.Sort

theorem cell_set {w : World} {g h j i : Nat} {x v : Value} (hc : w.cell? ⟨h, i, none⟩ = some v) (hh : h ≠ g) : (w.setCell ⟨g, j, none⟩ x).cell? ⟨h, i, none⟩ = some v := by
  rw [World.cell?_of_block (heap_setCell_other w ⟨g, j, none⟩ h x hh)]; exact hc
/-- An item's eighteen cells. -/
def encI (x : Itm) (T : ByteArray) (a : Option Addr) (k c : Nat) : List Value :=
  [.int .i64 x.k, .string T, .int .u32 (x.inc : Int), .int .u64 (x.holds : Int), .bool x.has, .bool x.direct,
   .int .u64 (x.r.last.n : Int), .int .u64 (x.r.last.e : Int), .int .i64 x.r.last.r, .int .u64 (x.r.last.m : Int), .slice a k c,
   .int .u64 (x.view.n : Int), .int .u64 (x.view.e : Int), .int .i64 x.view.r, .int .u64 (x.view.m : Int), .int .u64 (x.num : Int), .int .i64 x.idx, .int .i64 x.tot]
theorem encI_one (x : Itm) (T : ByteArray) (a : Option Addr) (k c : Nat) : (encI x T a k c).toArray.all (·.oneCell') = true := by simp [encI, Value.oneCell']
theorem item_size : (Try.prog.info? 43).map (·.size) = some 18 := by kernel_rfl
theorem store_item {ops : Array Oper} {rest : List Oper} {o : Oper} {A : Act} {w : World} {Q : Exit → Act → World → Prop} (hgd : o.guard = none) (x y : Operand) (ho : o.op = .store 43 x y)
    (g : Nat) {p : Itm} {T : ByteArray} {a : Option Addr} {k c : Nat} (hx : A.eval x = .pointer (some ⟨g, 0, none⟩)) (hy : A.eval y = .agg (encI p T a k c).toArray)
    {p0 : Itm} {T0 : ByteArray} {a0 : Option Addr} {k0 c0 : Nat} (hg : Own w g 43 (encI p0 T0 a0 k0 c0).toArray)
    (h : wpList Try.prog ops Q rest (A.put o.dst undef) (w.setRow g (encI p T a k c).toArray)) : wpList Try.prog ops Q (o :: rest) A w :=
  wpList_store_row hgd 43 x y ho g _ hx hy 43 _ hg item_size rfl (encI_one _ _ _ _ _) h
theorem load_item {ops : Array Oper} {rest : List Oper} {o : Oper} {A : Act} {w : World} {Q : Exit → Act → World → Prop} (hgd : o.guard = none) (x : Operand) (ho : o.op = .load 43 x)
    (g : Nat) (hx : A.eval x = .pointer (some ⟨g, 0, none⟩)) {p : Itm} {T : ByteArray} {a : Option Addr} {k c : Nat} (hg : Own w g 43 (encI p T a k c).toArray)
    (h : wpList Try.prog ops Q rest (A.put o.dst (.agg (encI p T a k c).toArray)) w) : wpList Try.prog ops Q (o :: rest) A w :=
  wpList_load_row hgd 43 x ho g hx 43 _ _ _ hg Try.underlying43 rfl item_size h
theorem results_item {fn : Func} {p : Tmp} (h : fn.results = #[.cell p 43]) (tmps : Array Value) (w : World) (g : Nat) {q : Itm} {T : ByteArray} {a : Option Addr} {k c : Nat}
    (hp : tmps.getD p undef = .pointer (some ⟨g, 0, none⟩)) (hg : Own w g 43 (encI q T a k c).toArray) :
    (results fn tmps).run Try.prog w = .ok (.agg (encI q T a k c).toArray) w :=
  results_cell_row h tmps w g 43 _ (0, 0) _ hp hg Try.underlying43 rfl item_size
/-- An item of a kind, and of nothing else. -/
def itK (k : Int) : Itm := ⟨k, [], 0, 0, false, false, ⟨⟨0, 0, 0, 0⟩, []⟩, ⟨0, 0, 0, 0⟩, 0, 0, 0⟩
/-- What an item leans on: its text, and a row of the call's own. -/
structure OwnI (B : Nat) (w : World) (x : Itm) (T : ByteArray) (a : Option Addr) (k c : Nat) : Prop where
  text : T.data.toList = x.data
  row : w.ownsRow B 28 4 (.slice a k c) k (flat encV x.r.pend)
  len : x.r.pend.length = k
  few : k ≤ 32
theorem OwnI.zero (B : Nat) (w : World) (k : Int) : OwnI B w (itK k) { data := #[] } none 0 0 := ⟨rfl, World.ownsRow_nil _ _ _ _, rfl, Nat.zero_le _⟩
/-- What is read behind the kind, and what is left. -/
def getIt (k : Nat) (l : List UInt8) : Got Itm :=
  if k = 1 then .ok ({ zeroI with k := 1, data := l }, [])
  else if k = 2 then andG (getN 4 l) fun i r => andG (getN 8 r) fun h r => andG (getN 1 r) fun f r => badG 1 (3 < f) (andG (getRec r) fun x r => .ok ({ zeroI with k := 2, inc := i, holds := h, has := decide (f % 2 = 1), direct := decide (f / 2 = 1), r := x }, r))
  else if k = 3 then andG (getVw l) fun v r => .ok ({ zeroI with k := 3, view := v }, r)
  else andG (getN 8 l) fun n r => andG (getN 2 r) fun i r => andG (getN 2 r) fun t r => .ok ({ zeroI with k := 4, num := n, idx := (i : Int), tot := (t : Int), data := r }, [])
theorem getBody_it (k : Nat) (l : List UInt8) : getBody k l = endG (getIt k l) := by
  unfold getBody getIt
  by_cases h1 : k = 1
  · rw [if_pos h1, if_pos h1]; rfl
  · rw [if_neg h1, if_neg h1]
    by_cases h2 : k = 2
    · rw [if_pos h2, if_pos h2]
    · rw [if_neg h2, if_neg h2]
      by_cases h3 : k = 3
      · rw [if_pos h3, if_pos h3]
      · rw [if_neg h3, if_neg h3]
theorem getFl_it {β : Type} (l : List UInt8) (f : Nat → List UInt8 → Got β) : (andG (getN 1 l) fun n r => badG 1 (3 < n) (f n r)) = andG (getFl l) f := by
  unfold getFl
  cases getN 1 l with
  | error e => simp only [andG_err]
  | ok x =>
    obtain ⟨n, r⟩ := x
    simp only [andG_ok]
    unfold badG
    split
    · rfl
    · rfl
def ItD (B : Nat) (w' : World) (x : Itm) (val : Value) : Prop := ∃ T a k c, val = .agg (encI x T a k c).toArray ∧ OwnI B w' x T a k c
/-- An item that is being read. -/
structure ItSt (w W : World) (b : Nat) (s : ByteArray) (a : Nat) (x : Itm) (T : ByteArray) (pa : Option Addr) (pk pc : Nat) : Prop where
  rd : Rd W b s a
  box : W.cell? ⟨w.heap.size, 0, none⟩ = some (.pointer (some ⟨b, 0, none⟩))
  res : Own W (w.heap.size + 1) 43 (encI zeroI { data := #[] } none 0 0).toArray
  row : Own W (w.heap.size + 2) 43 (encI x T pa pk pc).toArray
  own : OwnI (w.heap.size + 3) W x T pa pk pc
  gr : w.grownBy W (some b)
  lt : b < w.heap.size
theorem OwnI.by_ {B b : Nat} {w w' : World} {x : Itm} {T : ByteArray} {a : Option Addr} {k c : Nat} (h : OwnI B w x T a k c) (hg : w.grownBy w' (some b)) (hb : b < B) : OwnI B w' x T a k c := ⟨h.text, own_by h.row hg hb, h.len, h.few⟩
theorem OwnI.set {B g : Nat} {w : World} {x : Itm} {T : ByteArray} {a : Option Addr} {k c : Nat} (h : OwnI B w x T a k c) (hg : g < B) (j : Nat) (v : Value) : OwnI B (w.setCell ⟨g, j, none⟩ v) x T a k c := ⟨h.text, own_set h.row hg j v, h.len, h.few⟩
theorem OwnI.setRow {B g : Nat} {w : World} {x : Itm} {T : ByteArray} {a : Option Addr} {k c : Nat} (h : OwnI B w x T a k c) (hg : g < B) (cs : Array Value) : OwnI B (w.setRow g cs) x T a k c := ⟨h.text, own_setRow h.row hg cs, h.len, h.few⟩
theorem OwnI.mono {B B' : Nat} {w : World} {x : Itm} {T : ByteArray} {a : Option Addr} {k c : Nat} (h : OwnI B w x T a k c) (hB : B' ≤ B) : OwnI B' w x T a k c := ⟨h.text, own_base h.row hB, h.len, h.few⟩
theorem ItSt.go {w W W' : World} {b : Nat} {s : ByteArray} {a a' : Nat} {x : Itm} {T : ByteArray} {pa : Option Addr} {pk pc : Nat} (h : ItSt w W b s a x T pa pk pc) (hr : Rd W' b s a') (hg : W.grownBy W' (some b)) : ItSt w W' b s a' x T pa pk pc :=
  have hl := h.lt
  ⟨hr, cell_grown_by hg (by show w.heap.size ≠ b; omega) h.box, h.res.grown hg (by intro e; cases e; omega), h.row.grown hg (by intro e; cases e; omega), h.own.by_ hg (by omega), grown_tr h.gr hg, h.lt⟩
theorem ItSt.set {w W : World} {b : Nat} {s : ByteArray} {a : Nat} {x x' : Itm} {T T' : ByteArray} {pa pa' : Option Addr} {pk pc pk' pc' : Nat} (h : ItSt w W b s a x T pa pk pc) (j : Nat) (v : Value)
    (he : (encI x T pa pk pc).toArray.setIfInBounds j v = (encI x' T' pa' pk' pc').toArray) (ho : OwnI (w.heap.size + 3) (W.setCell ⟨w.heap.size + 2, j, none⟩ v) x' T' pa' pk' pc') : ItSt w (W.setCell ⟨w.heap.size + 2, j, none⟩ v) b s a x' T' pa' pk' pc' :=
  have hl := h.lt
  ⟨h.rd.set (by omega) _ _, by rw [World.cell?_of_block (heap_setCell_other W ⟨w.heap.size + 2, j, none⟩ w.heap.size v (by show w.heap.size ≠ w.heap.size + 2; omega))]; exact h.box,
    h.res.set_other _ _ _ (by omega), by have := h.row.set j v; rw [he] at this; exact this, ho, grown_set h.gr (by omega) _ _, h.lt⟩
/-- What stands ahead of the switch. -/
theorem ItSt.new {w : World} {b : Nat} {s : ByteArray} {a : Nat} (h : Rd w b s a) (k : Int) :
    ItSt w ((((w.alloc (.cells #[.pointer (some ⟨b, 0, none⟩)] 67)).alloc (.cells #[.int .i64 0, .string { data := #[] }, .int .u32 0, .int .u64 0, .bool false, .bool false, .int .u64 0, .int .u64 0, .int .i64 0, .int .u64 0, .slice none 0 0, .int .u64 0, .int .u64 0, .int .i64 0, .int .u64 0, .int .u64 0, .int .i64 0, .int .i64 0] 43)).alloc (.cells #[.int .i64 0, .string { data := #[] }, .int .u32 0, .int .u64 0, .bool false, .bool false, .int .u64 0, .int .u64 0, .int .i64 0, .int .u64 0, .slice none 0 0, .int .u64 0, .int .u64 0, .int .i64 0, .int .u64 0, .int .u64 0, .int .i64 0, .int .i64 0] 43)).setRow (w.heap.size + 2) (encI (itK k) { data := #[] } none 0 0).toArray) b s a (itK k) { data := #[] } none 0 0 := by
  obtain ⟨A1, hA1⟩ : ∃ A1, A1 = w.alloc (.cells #[.pointer (some ⟨b, 0, none⟩)] 67) := ⟨_, rfl⟩
  have z1 : A1.heap.size = w.heap.size + 1 := by rw [hA1]; simp
  have o1 : Own A1 w.heap.size 67 #[.pointer (some ⟨b, 0, none⟩)] := by rw [hA1]; exact Own.new _ _ _
  rw [← hA1]
  obtain ⟨A2, hA2⟩ : ∃ A2, A2 = A1.alloc (.cells #[.int .i64 0, .string { data := #[] }, .int .u32 0, .int .u64 0, .bool false, .bool false, .int .u64 0, .int .u64 0, .int .i64 0, .int .u64 0, .slice none 0 0, .int .u64 0, .int .u64 0, .int .i64 0, .int .u64 0, .int .u64 0, .int .i64 0, .int .i64 0] 43) := ⟨_, rfl⟩
  have z2 : A2.heap.size = w.heap.size + 2 := by rw [hA2]; simp [z1]
  have g2 : Grw A1 A2 := by rw [hA2]; exact (Grw.refl _).alloc _
  have o2 : Own A2 (w.heap.size + 1) 43 (encI zeroI { data := #[] } none 0 0).toArray := by rw [hA2, ← z1]; exact Own.new _ _ _
  rw [← hA2]
  have g3 : Grw A2 (A2.alloc (.cells #[.int .i64 0, .string { data := #[] }, .int .u32 0, .int .u64 0, .bool false, .bool false, .int .u64 0, .int .u64 0, .int .i64 0, .int .u64 0, .slice none 0 0, .int .u64 0, .int .u64 0, .int .i64 0, .int .u64 0, .int .u64 0, .int .i64 0, .int .i64 0] 43)) := (Grw.refl _).alloc _
  have o3 : Own (A2.alloc (.cells #[.int .i64 0, .string { data := #[] }, .int .u32 0, .int .u64 0, .bool false, .bool false, .int .u64 0, .int .u64 0, .int .i64 0, .int .u64 0, .slice none 0 0, .int .u64 0, .int .u64 0, .int .i64 0, .int .u64 0, .int .u64 0, .int .i64 0, .int .i64 0] 43)) (w.heap.size + 2) 43 (encI zeroI { data := #[] } none 0 0).toArray := by rw [← z2]; exact Own.new _ _ _
  have g1 : Grw w A1 := by rw [hA1]; exact (Grw.refl _).alloc _
  have r3 := ((h.after g1.below).after g2.below).after g3.below
  have o1' := (o1.below g2.below o1.lt).below g3.below (by omega)
  have o2' := o2.below g3.below o2.lt
  have hl := h.lt
  have B := ((g1.trans g2).trans g3).below
  refine ⟨r3.row (by omega) _, (o1'.row_other _ (by omega)).at_ 0 _ rfl, o2'.row_other _ (by omega), o3.row _, OwnI.zero _ _ _, grown_row ⟨B.os, B.tape, B.output, B.size, fun k hk _ => B.block k hk⟩ (by omega) _, h.lt⟩
theorem ItSt.done {w W : World} {b : Nat} {s : ByteArray} {a a0 : Nat} {G : List UInt8 → Got Itm} {x : Itm} {T : ByteArray} {pa : Option Addr} {pk pc : Nat} (h : ItSt w W b s a x T pa pk pc) (hG : G (restB s a0) = .ok (x, restB s a)) (cs : Array Value) :
    RP G (ItD w.heap.size) w b s a0 (.returned (.agg (encI x T pa pk pc).toArray)) (W.setRow (w.heap.size + 1) cs) :=
  have hl := h.lt
  .inl ⟨x, _, a, hG, rfl, ⟨T, pa, pk, pc, rfl, (h.own.setRow (by omega) cs).mono (by omega)⟩, h.rd.row (by omega) cs, grown_row h.gr (by omega) cs⟩

theorem ItSt.drew {w W : World} {b : Nat} {s : ByteArray} {a : Nat} {x : Itm} {T : ByteArray} {pa : Option Addr} {pk pc : Nat} (h : ItSt w W b s a x T pa pk pc) : ItSt w W.drew b s a x T pa pk pc :=
  h.go h.rd.drew (grown_drewN W 1 _)
set_option maxHeartbeats 4000000 in
theorem ritem_1 (w : World) (b : Nat) (s : ByteArray) (a : Nat) (h : Rd w b s a) (hs : s.size ≤ 1099511627776) :
    Calls Try.prog 32 #[.agg #[.pointer (some ⟨b, 0, none⟩)], .int .i64 1] w (RP (getIt 1) (ItD w.heap.size) w b s a) := by
  have S0 := ItSt.new h 1
  have Z3 : Own (((w.alloc (.cells #[.pointer (some ⟨b, 0, none⟩)] 67)).alloc (.cells #[.int .i64 0, .string { data := #[] }, .int .u32 0, .int .u64 0, .bool false, .bool false, .int .u64 0, .int .u64 0, .int .i64 0, .int .u64 0, .slice none 0 0, .int .u64 0, .int .u64 0, .int .i64 0, .int .u64 0, .int .u64 0, .int .i64 0, .int .i64 0] 43)).alloc (.cells #[.int .i64 0, .string { data := #[] }, .int .u32 0, .int .u64 0, .bool false, .bool false, .int .u64 0, .int .u64 0, .int .i64 0, .int .u64 0, .slice none 0 0, .int .u64 0, .int .u64 0, .int .i64 0, .int .u64 0, .int .u64 0, .int .i64 0, .int .i64 0] 43)) (w.heap.size + 2) 43 (encI zeroI { data := #[] } none 0 0).toArray := by
    have := Own.new ((w.alloc (.cells #[.pointer (some ⟨b, 0, none⟩)] 67)).alloc (.cells #[.int .i64 0, .string { data := #[] }, .int .u32 0, .int .u64 0, .bool false, .bool false, .int .u64 0, .int .u64 0, .int .i64 0, .int .u64 0, .slice none 0 0, .int .u64 0, .int .u64 0, .int .i64 0, .int .u64 0, .int .u64 0, .int .i64 0, .int .i64 0] 43)) 43 #[.int .i64 0, .string { data := #[] }, .int .u32 0, .int .u64 0, .bool false, .bool false, .int .u64 0, .int .u64 0, .int .i64 0, .int .u64 0, .slice none 0 0, .int .u64 0, .int .u64 0, .int .i64 0, .int .u64 0, .int .u64 0, .int .i64 0, .int .i64 0]
    have e : ((w.alloc (.cells #[.pointer (some ⟨b, 0, none⟩)] 67)).alloc (.cells #[.int .i64 0, .string { data := #[] }, .int .u32 0, .int .u64 0, .bool false, .bool false, .int .u64 0, .int .u64 0, .int .i64 0, .int .u64 0, .slice none 0 0, .int .u64 0, .int .u64 0, .int .i64 0, .int .u64 0, .int .u64 0, .int .i64 0, .int .i64 0] 43)).heap.size = w.heap.size + 2 := by simp
    rw [e] at this
    exact this
  have HLT := h.lt
  have hs' := Lib.hid hs
  clear h hs
  go_enter Try.func32, Try.ntmps32
  go_upto_region 2 with (refine store_item (p := itK 1) (T := { data := #[] }) (a := none) (k := 0) (c := 0) rfl (.tmp 5) (.tmp 7) rfl (w.heap.size + 2) rfl rfl Z3 ?_)
  clear Z3
  generalize (((w.alloc (.cells #[.pointer (some ⟨b, 0, none⟩)] 67)).alloc (.cells #[.int .i64 0, .string { data := #[] }, .int .u32 0, .int .u64 0, .bool false, .bool false, .int .u64 0, .int .u64 0, .int .i64 0, .int .u64 0, .slice none 0 0, .int .u64 0, .int .u64 0, .int .i64 0, .int .u64 0, .int .u64 0, .int .i64 0, .int .i64 0] 43)).alloc (.cells #[.int .i64 0, .string { data := #[] }, .int .u32 0, .int .u64 0, .bool false, .bool false, .int .u64 0, .int .u64 0, .int .i64 0, .int .u64 0, .slice none 0 0, .int .u64 0, .int .u64 0, .int .i64 0, .int .u64 0, .int .u64 0, .int .i64 0, .int .i64 0] 43)).setRow (w.heap.size + 2) (encI (itK 1) { data := #[] } none 0 0).toArray = W0 at *
  have hb0 := S0.box
  go_upto_region 4 with fail
  go_wp2_with fail
  refine (rrest _ b s a S0.rd hs'.out).mono ?_
  rintro e w1 (⟨l, _, a1, hG, rfl, ⟨T, rfl, hT⟩, hr, hg⟩ | ⟨q, hG, rfl, hg⟩)
  rotate_left
  · exact absurd hG (by unfold getAll; intro h; cases h)
  have S1 := S0.go hr hg
  have c1 : w1.cell? ⟨w.heap.size + 2, 1, none⟩ = some (.string { data := #[] }) := S1.row.at_ 1 _ rfl
  have f1 := S1.row.free 1
  have HE : Hid (getIt 1 (restB s a) = .ok ({ itK 1 with data := l }, restB s a1)) := Lib.hid (by
    unfold getAll at hG
    simp only [Except.ok.injEq, Prod.mk.injEq] at hG
    obtain ⟨e1, e2⟩ := hG
    unfold getIt
    rw [if_pos rfl, ← e1, ← e2]
    rfl)
  have SZ := S1.set 1 (.string T) (x' := { itK 1 with data := l }) (T' := T) (pa' := none) (pk' := 0) (pc' := 0) rfl ⟨hT, World.ownsRow_nil _ _ _ _, rfl, Nat.zero_le _⟩
  clear S0 S1 hr hg hG hb0
  go_upto_region 13 with fail
  go_wp2_with (first | (refine load_item rfl (.tmp 5) rfl (w.heap.size + 2) rfl SZ.row ?_) | (refine store_item rfl (.tmp 4) (.tmp 53) rfl (w.heap.size + 1) rfl rfl SZ.res ?_))
  (try simp only [Exit.inBlock, Exit.then])
  refine bodyPost_ret (results_item rfl _ _ (w.heap.size + 1) rfl (SZ.res.row _)) rfl ?_
  exact SZ.done HE.out _
set_option maxHeartbeats 4000000 in
theorem ritem_3 (w : World) (b : Nat) (s : ByteArray) (a : Nat) (h : Rd w b s a) (hs : s.size ≤ 1099511627776) :
    Calls Try.prog 32 #[.agg #[.pointer (some ⟨b, 0, none⟩)], .int .i64 3] w (RP (getIt 3) (ItD w.heap.size) w b s a) := by
  have S0 := ItSt.new h 3
  have Z3 : Own (((w.alloc (.cells #[.pointer (some ⟨b, 0, none⟩)] 67)).alloc (.cells #[.int .i64 0, .string { data := #[] }, .int .u32 0, .int .u64 0, .bool false, .bool false, .int .u64 0, .int .u64 0, .int .i64 0, .int .u64 0, .slice none 0 0, .int .u64 0, .int .u64 0, .int .i64 0, .int .u64 0, .int .u64 0, .int .i64 0, .int .i64 0] 43)).alloc (.cells #[.int .i64 0, .string { data := #[] }, .int .u32 0, .int .u64 0, .bool false, .bool false, .int .u64 0, .int .u64 0, .int .i64 0, .int .u64 0, .slice none 0 0, .int .u64 0, .int .u64 0, .int .i64 0, .int .u64 0, .int .u64 0, .int .i64 0, .int .i64 0] 43)) (w.heap.size + 2) 43 (encI zeroI { data := #[] } none 0 0).toArray := by
    have := Own.new ((w.alloc (.cells #[.pointer (some ⟨b, 0, none⟩)] 67)).alloc (.cells #[.int .i64 0, .string { data := #[] }, .int .u32 0, .int .u64 0, .bool false, .bool false, .int .u64 0, .int .u64 0, .int .i64 0, .int .u64 0, .slice none 0 0, .int .u64 0, .int .u64 0, .int .i64 0, .int .u64 0, .int .u64 0, .int .i64 0, .int .i64 0] 43)) 43 #[.int .i64 0, .string { data := #[] }, .int .u32 0, .int .u64 0, .bool false, .bool false, .int .u64 0, .int .u64 0, .int .i64 0, .int .u64 0, .slice none 0 0, .int .u64 0, .int .u64 0, .int .i64 0, .int .u64 0, .int .u64 0, .int .i64 0, .int .i64 0]
    have e : ((w.alloc (.cells #[.pointer (some ⟨b, 0, none⟩)] 67)).alloc (.cells #[.int .i64 0, .string { data := #[] }, .int .u32 0, .int .u64 0, .bool false, .bool false, .int .u64 0, .int .u64 0, .int .i64 0, .int .u64 0, .slice none 0 0, .int .u64 0, .int .u64 0, .int .i64 0, .int .u64 0, .int .u64 0, .int .i64 0, .int .i64 0] 43)).heap.size = w.heap.size + 2 := by simp
    rw [e] at this
    exact this
  have HLT := h.lt
  have hs' := Lib.hid hs
  clear h hs
  go_enter Try.func32, Try.ntmps32
  go_upto_region 2 with (refine store_item (p := itK 3) (T := { data := #[] }) (a := none) (k := 0) (c := 0) rfl (.tmp 5) (.tmp 7) rfl (w.heap.size + 2) rfl rfl Z3 ?_)
  clear Z3
  generalize (((w.alloc (.cells #[.pointer (some ⟨b, 0, none⟩)] 67)).alloc (.cells #[.int .i64 0, .string { data := #[] }, .int .u32 0, .int .u64 0, .bool false, .bool false, .int .u64 0, .int .u64 0, .int .i64 0, .int .u64 0, .slice none 0 0, .int .u64 0, .int .u64 0, .int .i64 0, .int .u64 0, .int .u64 0, .int .i64 0, .int .i64 0] 43)).alloc (.cells #[.int .i64 0, .string { data := #[] }, .int .u32 0, .int .u64 0, .bool false, .bool false, .int .u64 0, .int .u64 0, .int .i64 0, .int .u64 0, .slice none 0 0, .int .u64 0, .int .u64 0, .int .i64 0, .int .u64 0, .int .u64 0, .int .i64 0, .int .i64 0] 43)).setRow (w.heap.size + 2) (encI (itK 3) { data := #[] } none 0 0).toArray = W0 at *
  have hb0 := S0.box
  go_upto_region 10 with fail
  go_wp2_with fail
  refine (rview _ b s a S0.rd).mono ?_
  rintro e w1 (⟨v, _, a1, hG, rfl, rfl, hr, hg⟩ | ⟨q, hG, rfl, hg⟩)
  rotate_left
  · exact ⟨rfl, .inr ⟨q, by unfold getIt; rw [if_neg (by decide), if_neg (by decide), if_pos rfl, hG, andG_err], rfl, grown_tr S0.gr hg⟩⟩
  have S1 := S0.go hr hg
  have c11 : w1.cell? ⟨w.heap.size + 2, 11, none⟩ = some (.int .u64 0) := S1.row.at_ 11 _ rfl
  have c12 : w1.cell? ⟨w.heap.size + 2, 12, none⟩ = some (.int .u64 0) := S1.row.at_ 12 _ rfl
  have c13 : w1.cell? ⟨w.heap.size + 2, 13, none⟩ = some (.int .i64 0) := S1.row.at_ 13 _ rfl
  have c14 : w1.cell? ⟨w.heap.size + 2, 14, none⟩ = some (.int .u64 0) := S1.row.at_ 14 _ rfl
  have f11 := S1.row.free 11
  have f12 := S1.row.free 12
  have f13 := S1.row.free 13
  have f14 := S1.row.free 14
  have HE : Hid (getIt 3 (restB s a) = .ok ({ itK 3 with view := v }, restB s a1)) := Lib.hid (by
    unfold getIt
    rw [if_neg (by decide), if_neg (by decide), if_pos rfl, hG, andG_ok]
    rfl)
  obtain ⟨vn, ve, vr, vm⟩ := v
  have T1 := S1.set 11 (.int .u64 vn) (x' := { itK 3 with view := ⟨vn, 0, 0, 0⟩ }) (T' := { data := #[] }) (pa' := none) (pk' := 0) (pc' := 0) rfl ⟨rfl, World.ownsRow_nil _ _ _ _, rfl, Nat.zero_le _⟩
  have T2 := T1.set 12 (.int .u64 ve) (x' := { itK 3 with view := ⟨vn, ve, 0, 0⟩ }) (T' := { data := #[] }) (pa' := none) (pk' := 0) (pc' := 0) rfl ⟨rfl, World.ownsRow_nil _ _ _ _, rfl, Nat.zero_le _⟩
  have T3 := T2.set 13 (.int .i64 vr) (x' := { itK 3 with view := ⟨vn, ve, vr, 0⟩ }) (T' := { data := #[] }) (pa' := none) (pk' := 0) (pc' := 0) rfl ⟨rfl, World.ownsRow_nil _ _ _ _, rfl, Nat.zero_le _⟩
  have SZ := T3.set 14 (.int .u64 vm) (x' := { itK 3 with view := ⟨vn, ve, vr, vm⟩ }) (T' := { data := #[] }) (pa' := none) (pk' := 0) (pc' := 0) rfl ⟨rfl, World.ownsRow_nil _ _ _ _, rfl, Nat.zero_le _⟩
  clear S0 S1 hr hg hG hb0 T1 T2 T3
  go_upto_region 13 with fail
  go_wp2_with (first | (refine load_item rfl (.tmp 5) rfl (w.heap.size + 2) rfl SZ.row ?_) | (refine store_item rfl (.tmp 4) (.tmp 53) rfl (w.heap.size + 1) rfl rfl SZ.res ?_))
  (try simp only [Exit.inBlock, Exit.then])
  refine bodyPost_ret (results_item rfl _ _ (w.heap.size + 1) rfl (SZ.res.row _)) rfl ?_
  exact SZ.done HE.out _
set_option maxHeartbeats 4000000 in
theorem ritem_2 (w : World) (b : Nat) (s : ByteArray) (a : Nat) (h : Rd w b s a) (hs : s.size ≤ 1099511627776) :
    Calls Try.prog 32 #[.agg #[.pointer (some ⟨b, 0, none⟩)], .int .i64 2] w (RP (getIt 2) (ItD w.heap.size) w b s a) := by
  have S0 := ItSt.new h 2
  have Z3 : Own (((w.alloc (.cells #[.pointer (some ⟨b, 0, none⟩)] 67)).alloc (.cells #[.int .i64 0, .string { data := #[] }, .int .u32 0, .int .u64 0, .bool false, .bool false, .int .u64 0, .int .u64 0, .int .i64 0, .int .u64 0, .slice none 0 0, .int .u64 0, .int .u64 0, .int .i64 0, .int .u64 0, .int .u64 0, .int .i64 0, .int .i64 0] 43)).alloc (.cells #[.int .i64 0, .string { data := #[] }, .int .u32 0, .int .u64 0, .bool false, .bool false, .int .u64 0, .int .u64 0, .int .i64 0, .int .u64 0, .slice none 0 0, .int .u64 0, .int .u64 0, .int .i64 0, .int .u64 0, .int .u64 0, .int .i64 0, .int .i64 0] 43)) (w.heap.size + 2) 43 (encI zeroI { data := #[] } none 0 0).toArray := by
    have := Own.new ((w.alloc (.cells #[.pointer (some ⟨b, 0, none⟩)] 67)).alloc (.cells #[.int .i64 0, .string { data := #[] }, .int .u32 0, .int .u64 0, .bool false, .bool false, .int .u64 0, .int .u64 0, .int .i64 0, .int .u64 0, .slice none 0 0, .int .u64 0, .int .u64 0, .int .i64 0, .int .u64 0, .int .u64 0, .int .i64 0, .int .i64 0] 43)) 43 #[.int .i64 0, .string { data := #[] }, .int .u32 0, .int .u64 0, .bool false, .bool false, .int .u64 0, .int .u64 0, .int .i64 0, .int .u64 0, .slice none 0 0, .int .u64 0, .int .u64 0, .int .i64 0, .int .u64 0, .int .u64 0, .int .i64 0, .int .i64 0]
    have e : ((w.alloc (.cells #[.pointer (some ⟨b, 0, none⟩)] 67)).alloc (.cells #[.int .i64 0, .string { data := #[] }, .int .u32 0, .int .u64 0, .bool false, .bool false, .int .u64 0, .int .u64 0, .int .i64 0, .int .u64 0, .slice none 0 0, .int .u64 0, .int .u64 0, .int .i64 0, .int .u64 0, .int .u64 0, .int .i64 0, .int .i64 0] 43)).heap.size = w.heap.size + 2 := by simp
    rw [e] at this
    exact this
  have HLT := h.lt
  have hs' := Lib.hid hs
  clear h hs
  go_enter Try.func32, Try.ntmps32
  go_upto_region 2 with (refine store_item (p := itK 2) (T := { data := #[] }) (a := none) (k := 0) (c := 0) rfl (.tmp 5) (.tmp 7) rfl (w.heap.size + 2) rfl rfl Z3 ?_)
  clear Z3
  generalize (((w.alloc (.cells #[.pointer (some ⟨b, 0, none⟩)] 67)).alloc (.cells #[.int .i64 0, .string { data := #[] }, .int .u32 0, .int .u64 0, .bool false, .bool false, .int .u64 0, .int .u64 0, .int .i64 0, .int .u64 0, .slice none 0 0, .int .u64 0, .int .u64 0, .int .i64 0, .int .u64 0, .int .u64 0, .int .i64 0, .int .i64 0] 43)).alloc (.cells #[.int .i64 0, .string { data := #[] }, .int .u32 0, .int .u64 0, .bool false, .bool false, .int .u64 0, .int .u64 0, .int .i64 0, .int .u64 0, .slice none 0 0, .int .u64 0, .int .u64 0, .int .i64 0, .int .u64 0, .int .u64 0, .int .i64 0, .int .i64 0] 43)).setRow (w.heap.size + 2) (encI (itK 2) { data := #[] } none 0 0).toArray = W0 at *
  have hb0 := S0.box
  have S0 := S0.drew
  have IF2 : getIt 2 (restB s a) = andG (getN 4 (restB s a)) fun i r => andG (getN 8 r) fun h r => andG (getFl r) fun f r => andG (getRec r) fun x r => .ok ({ itK 2 with inc := i, holds := h, has := decide (f % 2 = 1), direct := decide (f / 2 = 1), r := x }, r) := by
    unfold getIt
    rw [if_neg (by decide), if_pos rfl]
    simp only [getFl_it]
    rfl
  have HI := Lib.hid IF2
  clear IF2
  go_upto_region 6 with fail
  go_region_held2 (fun w' => w'.cell? ⟨w.heap.size, 0, none⟩ = some (.pointer (some ⟨b, 0, none⟩))) (first | (with_reducible exact S0.box) | (with_reducible exact S1.box) | (with_reducible exact S2.box) | (exact cell_set S2.box (by omega)) | (exact cell_set (cell_set S2.box (by omega)) (by omega)) | go_keep)
    (first
      | (go_at_call 46; (with_reducible refine (rfour _ b s _ S0.rd).mono ?_); rintro e w1 (⟨v1, _, a1, hG, rfl, rfl, hr, hg⟩ | ⟨x, hG, rfl, hg⟩); rotate_left; exact ⟨rfl, .inr ⟨x, by (rw [HI.out]; simp only [hG, andG_ok, andG_err]), rfl, grown_tr S0.gr hg⟩⟩; (have S1 := S0.go hr hg); (have G1 := Lib.hid hG); clear hG hr hg)
      | (go_at_call 45; (with_reducible refine (rnum _ b s _ 8 8 (by decide) S1.rd).mono ?_); rintro e w2 (⟨v2, _, a2, hG, rfl, rfl, hr, hg⟩ | ⟨x, hG, rfl, hg⟩); rotate_left; exact ⟨rfl, .inr ⟨x, by (rw [HI.out]; simp only [hG, andG_ok, andG_err, G1.out]), rfl, grown_tr S1.gr hg⟩⟩; (have S2 := S1.go hr hg); (have G2 := Lib.hid hG); (have c2 : w2.cell? ⟨w.heap.size + 2, 2, none⟩ = some (.int .u32 0) := S2.row.at_ 2 _ rfl); (have f2 := S2.row.free 2); (have c3 : w2.cell? ⟨w.heap.size + 2, 3, none⟩ = some (.int .u64 0) := S2.row.at_ 3 _ rfl); (have f3 := S2.row.free 3); clear hG hr hg))
  have T1 := S2.set 2 (.int .u32 (v1 : Int)) (x' := { itK 2 with inc := v1 }) (T' := { data := #[] }) (pa' := none) (pk' := 0) (pc' := 0) rfl ⟨rfl, World.ownsRow_nil _ _ _ _, rfl, Nat.zero_le _⟩
  have T2 := T1.set 3 (.int .u64 (v2 : Int)) (x' := { itK 2 with inc := v1, holds := v2 }) (T' := { data := #[] }) (pa' := none) (pk' := 0) (pc' := 0) rfl ⟨rfl, World.ownsRow_nil _ _ _ _, rfl, Nat.zero_le _⟩
  clear S0 S1 S2 T1 c2 f2 c3 f3
  generalize (w2.setCell ⟨w.heap.size + 2, 2, none⟩ (.int .u32 (v1 : Int))).setCell ⟨w.heap.size + 2, 3, none⟩ (.int .u64 (v2 : Int)) = w3 at *
  have hb3 := T2.box
  clear hb0
  go_wp2_with fail
  refine (rflags _ b s _ T2.rd).mono ?_
  rintro e w4 (⟨f, _, a4, hG, rfl, ⟨hf3, rfl⟩, hr, hg⟩ | ⟨q, hG, rfl, hg⟩)
  rotate_left
  · exact ⟨rfl, .inr ⟨q, by rw [HI.out]; simp only [hG, andG_ok, andG_err, G1.out, G2.out], rfl, grown_tr T2.gr hg⟩⟩
  have T4 := T2.go hr hg
  have G4 := Lib.hid hG
  obtain ⟨f0, hf0⟩ : ∃ f0, f0 = decide (f % 2 = 1) := ⟨_, rfl⟩
  obtain ⟨f1, hf1⟩ : ∃ f1, f1 = decide (f / 2 = 1) := ⟨_, rfl⟩
  rw [← hf0, ← hf1]
  have HF0 := Lib.hid hf0
  have HF1 := Lib.hid hf1
  have c4 : w4.cell? ⟨w.heap.size + 2, 4, none⟩ = some (.bool false) := T4.row.at_ 4 _ rfl
  have c5 : w4.cell? ⟨w.heap.size + 2, 5, none⟩ = some (.bool false) := T4.row.at_ 5 _ rfl
  have x4 := T4.row.free 4
  have x5 := T4.row.free 5
  have T5 := T4.set 4 (.bool f0) (x' := { itK 2 with inc := v1, holds := v2, has := f0 }) (T' := { data := #[] }) (pa' := none) (pk' := 0) (pc' := 0) rfl ⟨rfl, World.ownsRow_nil _ _ _ _, rfl, Nat.zero_le _⟩
  have T6 := T5.set 5 (.bool f1) (x' := { itK 2 with inc := v1, holds := v2, has := f0, direct := f1 }) (T' := { data := #[] }) (pa' := none) (pk' := 0) (pc' := 0) rfl ⟨rfl, World.ownsRow_nil _ _ _ _, rfl, Nat.zero_le _⟩
  clear hG hr hg T2 T4 T5 hb3 hf0 hf1 hf3
  go_upto_region 8 with fail
  clear c4 c5 x4 x5
  generalize (w4.setCell ⟨w.heap.size + 2, 4, none⟩ (.bool f0)).setCell ⟨w.heap.size + 2, 5, none⟩ (.bool f1) = w5 at *
  have hb5 := T6.box
  go_wp2_with fail
  refine (rrecord _ b s _ T6.rd).mono ?_
  rintro e w7 (⟨x, _, a7, hG, rfl, ⟨pa, pk, pc, rfl, ho, hol, hok⟩, hr, hg⟩ | ⟨q, hG, rfl, hg⟩)
  rotate_left
  · exact ⟨rfl, .inr ⟨q, by rw [HI.out]; simp only [hG, andG_ok, andG_err, G1.out, G2.out, G4.out], rfl, grown_tr T6.gr hg⟩⟩
  have T7 := T6.go hr hg
  have hz5 : w.heap.size + 3 ≤ w5.heap.size := T6.row.lt
  have HE : Hid (getIt 2 (restB s a) = .ok ({ itK 2 with inc := v1, holds := v2, has := f0, direct := f1, r := x }, restB s a7)) := Lib.hid (by
    rw [HI.out]
    simp only [hG, andG_ok, G1.out, G2.out, G4.out]
    rw [← HF0.out, ← HF1.out])
  have HO := Lib.hid (own_base ho hz5)
  have HOL := Lib.hid hol
  have HOK := Lib.hid hok
  have c6 : w7.cell? ⟨w.heap.size + 2, 6, none⟩ = some (.int .u64 0) := T7.row.at_ 6 _ rfl
  have c7 : w7.cell? ⟨w.heap.size + 2, 7, none⟩ = some (.int .u64 0) := T7.row.at_ 7 _ rfl
  have c8 : w7.cell? ⟨w.heap.size + 2, 8, none⟩ = some (.int .i64 0) := T7.row.at_ 8 _ rfl
  have c9 : w7.cell? ⟨w.heap.size + 2, 9, none⟩ = some (.int .u64 0) := T7.row.at_ 9 _ rfl
  have c10 : w7.cell? ⟨w.heap.size + 2, 10, none⟩ = some (.slice none 0 0) := T7.row.at_ 10 _ rfl
  have x6 := T7.row.free 6
  have x7 := T7.row.free 7
  have x8 := T7.row.free 8
  have x9 := T7.row.free 9
  have x10 := T7.row.free 10
  obtain ⟨⟨vn, ve, vr, vm⟩, L⟩ := x
  have U1 := T7.set 6 (.int .u64 (vn : Int)) (x' := { itK 2 with inc := v1, holds := v2, has := f0, direct := f1, r := ⟨⟨vn, 0, 0, 0⟩, []⟩ }) (T' := { data := #[] }) (pa' := none) (pk' := 0) (pc' := 0) rfl ⟨rfl, World.ownsRow_nil _ _ _ _, rfl, Nat.zero_le _⟩
  have U2 := U1.set 7 (.int .u64 (ve : Int)) (x' := { itK 2 with inc := v1, holds := v2, has := f0, direct := f1, r := ⟨⟨vn, ve, 0, 0⟩, []⟩ }) (T' := { data := #[] }) (pa' := none) (pk' := 0) (pc' := 0) rfl ⟨rfl, World.ownsRow_nil _ _ _ _, rfl, Nat.zero_le _⟩
  have U3 := U2.set 8 (.int .i64 vr) (x' := { itK 2 with inc := v1, holds := v2, has := f0, direct := f1, r := ⟨⟨vn, ve, vr, 0⟩, []⟩ }) (T' := { data := #[] }) (pa' := none) (pk' := 0) (pc' := 0) rfl ⟨rfl, World.ownsRow_nil _ _ _ _, rfl, Nat.zero_le _⟩
  have U4 := U3.set 9 (.int .u64 (vm : Int)) (x' := { itK 2 with inc := v1, holds := v2, has := f0, direct := f1, r := ⟨⟨vn, ve, vr, vm⟩, []⟩ }) (T' := { data := #[] }) (pa' := none) (pk' := 0) (pc' := 0) rfl ⟨rfl, World.ownsRow_nil _ _ _ _, rfl, Nat.zero_le _⟩
  have SZ := U4.set 10 (.slice pa pk pc) (x' := { itK 2 with inc := v1, holds := v2, has := f0, direct := f1, r := ⟨⟨vn, ve, vr, vm⟩, L⟩ }) (T' := { data := #[] }) (pa' := pa) (pk' := pk) (pc' := pc) rfl ⟨rfl, own_set (own_set (own_set (own_set (own_set HO.out (by omega) _ _) (by omega) _ _) (by omega) _ _) (by omega) _ _) (by omega) _ _, HOL.out, HOK.out⟩
  clear hG hr hg ho hol hok T6 T7 U1 U2 U3 U4 hb5
  go_upto_region 13 with fail
  go_wp2_with (first | (refine load_item rfl (.tmp 5) rfl (w.heap.size + 2) rfl SZ.row ?_) | (refine store_item rfl (.tmp 4) (.tmp 53) rfl (w.heap.size + 1) rfl rfl SZ.res ?_))
  (try simp only [Exit.inBlock, Exit.then])
  refine bodyPost_ret (results_item rfl _ _ (w.heap.size + 1) rfl (SZ.res.row _)) rfl ?_
  exact SZ.done HE.out _
set_option maxHeartbeats 4000000 in
theorem ritem_4 (w : World) (b : Nat) (s : ByteArray) (a : Nat) (h : Rd w b s a) (hs : s.size ≤ 1099511627776) :
    Calls Try.prog 32 #[.agg #[.pointer (some ⟨b, 0, none⟩)], .int .i64 4] w (RP (getIt 4) (ItD w.heap.size) w b s a) := by
  have S0 := ItSt.new h 4
  have Z3 : Own (((w.alloc (.cells #[.pointer (some ⟨b, 0, none⟩)] 67)).alloc (.cells #[.int .i64 0, .string { data := #[] }, .int .u32 0, .int .u64 0, .bool false, .bool false, .int .u64 0, .int .u64 0, .int .i64 0, .int .u64 0, .slice none 0 0, .int .u64 0, .int .u64 0, .int .i64 0, .int .u64 0, .int .u64 0, .int .i64 0, .int .i64 0] 43)).alloc (.cells #[.int .i64 0, .string { data := #[] }, .int .u32 0, .int .u64 0, .bool false, .bool false, .int .u64 0, .int .u64 0, .int .i64 0, .int .u64 0, .slice none 0 0, .int .u64 0, .int .u64 0, .int .i64 0, .int .u64 0, .int .u64 0, .int .i64 0, .int .i64 0] 43)) (w.heap.size + 2) 43 (encI zeroI { data := #[] } none 0 0).toArray := by
    have := Own.new ((w.alloc (.cells #[.pointer (some ⟨b, 0, none⟩)] 67)).alloc (.cells #[.int .i64 0, .string { data := #[] }, .int .u32 0, .int .u64 0, .bool false, .bool false, .int .u64 0, .int .u64 0, .int .i64 0, .int .u64 0, .slice none 0 0, .int .u64 0, .int .u64 0, .int .i64 0, .int .u64 0, .int .u64 0, .int .i64 0, .int .i64 0] 43)) 43 #[.int .i64 0, .string { data := #[] }, .int .u32 0, .int .u64 0, .bool false, .bool false, .int .u64 0, .int .u64 0, .int .i64 0, .int .u64 0, .slice none 0 0, .int .u64 0, .int .u64 0, .int .i64 0, .int .u64 0, .int .u64 0, .int .i64 0, .int .i64 0]
    have e : ((w.alloc (.cells #[.pointer (some ⟨b, 0, none⟩)] 67)).alloc (.cells #[.int .i64 0, .string { data := #[] }, .int .u32 0, .int .u64 0, .bool false, .bool false, .int .u64 0, .int .u64 0, .int .i64 0, .int .u64 0, .slice none 0 0, .int .u64 0, .int .u64 0, .int .i64 0, .int .u64 0, .int .u64 0, .int .i64 0, .int .i64 0] 43)).heap.size = w.heap.size + 2 := by simp
    rw [e] at this
    exact this
  have HLT := h.lt
  have hs' := Lib.hid hs
  clear h hs
  go_enter Try.func32, Try.ntmps32
  go_upto_region 2 with (refine store_item (p := itK 4) (T := { data := #[] }) (a := none) (k := 0) (c := 0) rfl (.tmp 5) (.tmp 7) rfl (w.heap.size + 2) rfl rfl Z3 ?_)
  clear Z3
  generalize (((w.alloc (.cells #[.pointer (some ⟨b, 0, none⟩)] 67)).alloc (.cells #[.int .i64 0, .string { data := #[] }, .int .u32 0, .int .u64 0, .bool false, .bool false, .int .u64 0, .int .u64 0, .int .i64 0, .int .u64 0, .slice none 0 0, .int .u64 0, .int .u64 0, .int .i64 0, .int .u64 0, .int .u64 0, .int .i64 0, .int .i64 0] 43)).alloc (.cells #[.int .i64 0, .string { data := #[] }, .int .u32 0, .int .u64 0, .bool false, .bool false, .int .u64 0, .int .u64 0, .int .i64 0, .int .u64 0, .slice none 0 0, .int .u64 0, .int .u64 0, .int .i64 0, .int .u64 0, .int .u64 0, .int .i64 0, .int .i64 0] 43)).setRow (w.heap.size + 2) (encI (itK 4) { data := #[] } none 0 0).toArray = W0 at *
  have hb0 := S0.box
  have S0 := S0.drew
  have IF4 : getIt 4 (restB s a) = andG (getN 8 (restB s a)) fun n r => andG (getN 2 r) fun i r => andG (getN 2 r) fun t r => .ok ({ itK 4 with num := n, idx := (i : Int), tot := (t : Int), data := r }, []) := by
    unfold getIt
    rw [if_neg (by decide), if_neg (by decide), if_neg (by decide)]
    rfl
  have HI := Lib.hid IF4
  clear IF4
  go_upto_region 12 with fail
  go_region_held2 (fun w' => w'.cell? ⟨w.heap.size, 0, none⟩ = some (.pointer (some ⟨b, 0, none⟩))) (first | (with_reducible exact S0.box) | (with_reducible exact S1.box) | (with_reducible exact S2.box) | (with_reducible exact S3.box) | (with_reducible exact S4.box) | (exact cell_set S4.box (by omega)) | (exact cell_set (cell_set S4.box (by omega)) (by omega)) | (exact cell_set (cell_set (cell_set S4.box (by omega)) (by omega)) (by omega)) | (exact cell_set (cell_set (cell_set (cell_set S4.box (by omega)) (by omega)) (by omega)) (by omega)) | go_keep)
    (first
      | (go_at_call 45; (with_reducible refine (rnum _ b s _ 8 8 (by decide) S0.rd).mono ?_); rintro e w1 (⟨v1, _, a1, hG, rfl, rfl, hr, hg⟩ | ⟨x, hG, rfl, hg⟩); rotate_left; exact ⟨rfl, .inr ⟨x, by (rw [HI.out]; simp only [hG, andG_ok, andG_err]), rfl, grown_tr S0.gr hg⟩⟩; (have S1 := S0.go hr hg); (have G1 := Lib.hid hG); clear hG hr hg)
      | (go_at_call 54; (with_reducible refine (rtwo _ b s _ S1.rd).mono ?_); rintro e w2 (⟨v2, _, a2, hG, rfl, rfl, hr, hg⟩ | ⟨x, hG, rfl, hg⟩); rotate_left; exact ⟨rfl, .inr ⟨x, by (rw [HI.out]; simp only [hG, andG_ok, andG_err, G1.out]), rfl, grown_tr S1.gr hg⟩⟩; (have S2 := S1.go hr hg); (have G2 := Lib.hid hG); clear hG hr hg)
      | (go_at_call 54; (with_reducible refine (rtwo _ b s _ S2.rd).mono ?_); rintro e w3 (⟨v3, _, a3, hG, rfl, rfl, hr, hg⟩ | ⟨x, hG, rfl, hg⟩); rotate_left; exact ⟨rfl, .inr ⟨x, by (rw [HI.out]; simp only [hG, andG_ok, andG_err, G1.out, G2.out]), rfl, grown_tr S2.gr hg⟩⟩; (have S3 := S2.go hr hg); (have G3 := Lib.hid hG); clear hG hr hg)
      | (go_at_call 51; (with_reducible refine (rrest _ b s _ S3.rd hs'.out).mono ?_); rintro e w4 (⟨l, _, a4, hG, rfl, ⟨T, rfl, hT⟩, hr, hg⟩ | ⟨x, hG, rfl, hg⟩); rotate_left; exact absurd hG (by unfold getAll; intro h; cases h); (have S4 := S3.go hr hg); (have G4 := Lib.hid hG); (have HT := Lib.hid hT); (have c15 : w4.cell? ⟨w.heap.size + 2, 15, none⟩ = some (.int .u64 0) := S4.row.at_ 15 _ rfl); (have f15 := S4.row.free 15); (have c16 : w4.cell? ⟨w.heap.size + 2, 16, none⟩ = some (.int .i64 0) := S4.row.at_ 16 _ rfl); (have f16 := S4.row.free 16); (have c17 : w4.cell? ⟨w.heap.size + 2, 17, none⟩ = some (.int .i64 0) := S4.row.at_ 17 _ rfl); (have f17 := S4.row.free 17); (have c1 : w4.cell? ⟨w.heap.size + 2, 1, none⟩ = some (.string { data := #[] }) := S4.row.at_ 1 _ rfl); (have f1 := S4.row.free 1); clear hG hr hg hT))
  have T1 := S4.set 15 (.int .u64 (v1 : Int)) (x' := { itK 4 with num := v1 }) (T' := { data := #[] }) (pa' := none) (pk' := 0) (pc' := 0) rfl ⟨rfl, World.ownsRow_nil _ _ _ _, rfl, Nat.zero_le _⟩
  have T2 := T1.set 16 (.int .i64 (v2 : Int)) (x' := { itK 4 with num := v1, idx := (v2 : Int) }) (T' := { data := #[] }) (pa' := none) (pk' := 0) (pc' := 0) rfl ⟨rfl, World.ownsRow_nil _ _ _ _, rfl, Nat.zero_le _⟩
  have T3 := T2.set 17 (.int .i64 (v3 : Int)) (x' := { itK 4 with num := v1, idx := (v2 : Int), tot := (v3 : Int) }) (T' := { data := #[] }) (pa' := none) (pk' := 0) (pc' := 0) rfl ⟨rfl, World.ownsRow_nil _ _ _ _, rfl, Nat.zero_le _⟩
  have SZ := T3.set 1 (.string T) (x' := { itK 4 with num := v1, idx := (v2 : Int), tot := (v3 : Int), data := l }) (T' := T) (pa' := none) (pk' := 0) (pc' := 0) rfl ⟨HT.out, World.ownsRow_nil _ _ _ _, rfl, Nat.zero_le _⟩
  have HE : Hid (getIt 4 (restB s a) = .ok ({ itK 4 with num := v1, idx := (v2 : Int), tot := (v3 : Int), data := l }, restB s a4)) := Lib.hid (by
    have G4 := G4.out
    unfold getAll at G4
    simp only [Except.ok.injEq, Prod.mk.injEq] at G4
    obtain ⟨e1, e2⟩ := G4
    rw [HI.out]
    simp only [andG_ok, G1.out, G2.out, G3.out]
    rw [← e1, ← e2])
  clear S0 S1 S2 S3 S4 T1 T2 T3 hb0
  go_upto_region 13 with fail
  go_wp2_with (first | (refine load_item rfl (.tmp 5) rfl (w.heap.size + 2) rfl SZ.row ?_) | (refine store_item rfl (.tmp 4) (.tmp 53) rfl (w.heap.size + 1) rfl rfl SZ.res ?_))
  (try simp only [Exit.inBlock, Exit.then])
  refine bodyPost_ret (results_item rfl _ _ (w.heap.size + 1) rfl (SZ.res.row _)) rfl ?_
  exact SZ.done HE.out _
end Go.Proofs.Ytblefbjmjhgkkaa
