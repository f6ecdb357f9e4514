/- Layer 19: reading a record's bytes: what a reader's methods answer, each by one function on what is left of the bytes; numbers. -/
import Derived.Test.YtblefbjmjhgkkaaPanics
import Derived.Test.YtblefbjmjhgkkaaLogMath
import Derived.Test.YtblefbjmjhgkkaaBel
import Derived.Test.YtblefbjmjhgkkaaVoKit
import Derived.Deep.RegionHeld2
import Derived.Deep.RegionHeld3
set_option linter.unusedVariables false
set_option maxRecDepth 100000
set_option linter.unusedSimpArgs false
namespace Go.Proofs.Ytblefbjmjhgkkaa
open Go.RowKit Go.Sort

/-- 'panic' of an error's number, as it leaves a call. -/
def pan (c : Nat) : List PanicEntry := [{ v := .iface 34 (.int .i64 (c : Int)), recovered := false }]
theorem short_pan : short = pan 2 := rfl

/-- What a reader's method does: it answers the value that stands there, and is behind it; or gives up by its error. -/
def RP {α : Type} (G : List UInt8 → Got α) (D : World → α → Value → Prop) (w : World) (b : Nat) (s : ByteArray) (a : Nat) (e : Ending) (w' : World) : Prop :=
  (∃ v val a', G (restB s a) = .ok (v, restB s a') ∧ e = .returned val ∧ D w' v val ∧ Rd w' b s a' ∧ w.grownBy w' (some b)) ∨
  (∃ c, G (restB s a) = .error c ∧ e = .panicked (pan c) ∧ w.grownBy w' (some b))

theorem grown_drewN (w : World) (n : Nat) (o : Option Nat) : w.grownBy (w.drewN n) o := ⟨rfl, rfl, rfl, Nat.le_refl _, fun _ _ _ => rfl⟩

/-- A number of so many bytes. -/
theorem rnum (w : World) (b : Nat) (s : ByteArray) (a n : Nat) (k : Int) (hk : wid k = n) (h : Rd w b s a) :
    Calls Try.prog 45 #[.pointer (some ⟨b, 0, none⟩), .int .i64 k] w (RP (getN n) (fun _ v val => val = .int .u64 (v : Int)) w b s a) := by
  have hin := h.in_
  by_cases hm : a + n ≤ s.size
  · have := num_yes w b s a k h (by rw [hk]; simpa using hm)
    rw [hk, Int.toNat_natCast] at this
    refine this.mono ?_
    rintro e w' ⟨rfl, hr, hg⟩
    exact .inl ⟨_, _, a + n, getN_at hm, rfl, rfl, hr, hg⟩
  · refine (num_no w b s a k h (by rw [hk]; omega)).mono ?_
    rintro e w' ⟨rfl, i, rfl⟩
    exact .inr ⟨2, getN_short (by omega), rfl, grown_drewN _ _ _⟩

theorem getN_lt {n : Nat} {l : List UInt8} {v : Nat} {r : List UInt8} (h : getN n l = .ok (v, r)) : v < 256 ^ n := (getN_iff.1 h).1

/-- A number that is at most so much, else an error. -/
def getSm (n m c : Nat) (l : List UInt8) : Got Int := andG (getN n l) fun p r => badG c (m < p) (.ok ((p : Int), r))
theorem getP_sm : getP = getSm 1 63 1 := rfl

theorem grown_alloc (w : World) (o : Obj) (x : Option Nat) : w.grownBy (w.alloc o) x := ⟨rfl, rfl, rfl, by simp, fun k hk _ => heap_alloc_old w o hk⟩
theorem grown_tr {a b c : World} {row : Option Nat} (h : a.grownBy b row) (k : b.grownBy c row) : a.grownBy c row :=
  ⟨k.os.trans h.os, k.tape.trans h.tape, k.output.trans h.output, Nat.le_trans h.size k.size, fun i hi hn => (k.block i (Nat.lt_of_lt_of_le hi h.size) hn).trans (h.block i hi hn)⟩
theorem Rd.lt {w : World} {b : Nat} {s : ByteArray} {a : Nat} (h : Rd w b s a) : b < w.heap.size := World.block_lt_of_cell? _ _ h.text
theorem Rd.alloc' {w : World} {b : Nat} {s : ByteArray} {a : Nat} (h : Rd w b s a) (o : Obj) : Rd (w.alloc o) b s a := h.after ((Grw.refl w).alloc o).below

/-- A cell that stays in each world behind, wherever the reader's own block alone is turned. -/
theorem cell_grown_by {w w' : World} {b : Nat} {p : Addr} {v : Value} (hg : w.grownBy w' (some b)) (hp : p.block ≠ b) (h : w.cell? p = some v) : w'.cell? p = some v := by
  have hl := World.block_lt_of_cell? _ _ h
  rw [World.cell?_of_block (hg.block p.block hl (by intro e; cases e; exact hp rfl))]; exact h
theorem frozen_grown_by {w w' : World} {b : Nat} {p : Addr} (hg : w.grownBy w' (some b)) (hp : p.block ≠ b) (hl : p.block < w.heap.size) (h : w.frozen? p = false) : w'.frozen? p = false := by
  rw [World.frozen?_of_block (hg.block p.block hl (by intro e; cases e; exact hp rfl))]; exact h

theorem grown_set {a w : World} {b g : Nat} (h : a.grownBy w (some b)) (hg : a.heap.size ≤ g) (j : Nat) (v : Value) : a.grownBy (w.setCell ⟨g, j, none⟩ v) (some b) :=
  ⟨h.os, h.tape, h.output, by simp only [World.setCell, Array.size_modify]; exact h.size, fun k hk hn => (heap_setCell_other w _ _ v (by show k ≠ g; omega)).trans (h.block k hk hn)⟩
theorem Rd.set {w : World} {b : Nat} {s : ByteArray} {a : Nat} (h : Rd w b s a) {g : Nat} (hg : g ≠ b) (j : Nat) (v : Value) : Rd (w.setCell ⟨g, j, none⟩ v) b s a := by
  have e := heap_setCell_other w ⟨g, j, none⟩ b v (fun e => hg e.symm)
  exact ⟨(World.cell?_of_block e).trans h.text, (World.cell?_of_block e).trans h.place, (World.frozen?_of_block e).trans h.free, h.size, h.in_⟩
theorem Rd.drew {w : World} {b : Nat} {s : ByteArray} {a : Nat} (h : Rd w b s a) : Rd w.drew b s a := h.drewN 1
theorem grown_drew {a w : World} {o : Option Nat} (h : a.grownBy w o) : a.grownBy w.drew o := ⟨h.os, h.tape, h.output, h.size, h.block⟩

/-- What stands ahead of a reader's method: its own copy of the reader, its result's block. -/
structure Ahead (w W : World) (b : Nat) (s : ByteArray) (a : Nat) (ty : TypeId) (cs : Array Value) : Prop where
  rd : Rd W b s a
  box : W.cell? ⟨w.heap.size, 0, none⟩ = some (.pointer (some ⟨b, 0, none⟩))
  res : Own W (w.heap.size + 1) ty cs
  gr : w.grownBy W (some b)
  lt : b < w.heap.size
theorem Ahead.new {w : World} {b : Nat} {s : ByteArray} {a : Nat} (h : Rd w b s a) (ty ty' : TypeId) (cs : Array Value) :
    Ahead w ((w.alloc (.cells #[.pointer (some ⟨b, 0, none⟩)] ty')).alloc (.cells cs ty)).drew b s a ty cs :=
  ⟨((h.alloc' _).alloc' _).drew, by simp, Own.drew (by have := Own.new (w.alloc (.cells #[.pointer (some ⟨b, 0, none⟩)] ty')) ty cs; simpa using this), grown_drew (grown_tr (grown_alloc _ _ _) (grown_alloc _ _ _)), h.lt⟩
theorem Ahead.go {w W W' : World} {b : Nat} {s : ByteArray} {a a' : Nat} {ty : TypeId} {cs : Array Value} (h : Ahead w W b s a ty cs) (hr : Rd W' b s a') (hg : W.grownBy W' (some b)) : Ahead w W' b s a' ty cs :=
  ⟨hr, cell_grown_by hg (by have := h.lt; show w.heap.size ≠ b; omega) h.box, h.res.grown hg (by intro e; cases e; have := h.lt; omega), grown_tr h.gr hg, h.lt⟩

theorem Own.row {w : World} {g : Nat} {ty : TypeId} {cs : Array Value} (h : Own w g ty cs) (cs' : Array Value) : Own (w.setRow g cs') g ty cs' := setRow_heap w g cs cs' ty _ h
theorem Own.row_other {w : World} {g k : Nat} {ty : TypeId} {cs : Array Value} (h : Own w g ty cs) (cs' : Array Value) (hk : g ≠ k) : Own (w.setRow k cs') g ty cs := (setRow_other w k g cs' hk).trans h
theorem grown_row {a w : World} {b g : Nat} (h : a.grownBy w (some b)) (hg : a.heap.size ≤ g) (cs : Array Value) : a.grownBy (w.setRow g cs) (some b) :=
  ⟨h.os, h.tape, h.output, by rw [size_setRow]; exact h.size, fun k hk hn => (setRow_other w g k cs (by omega)).trans (h.block k hk hn)⟩
theorem Rd.row {w : World} {b : Nat} {s : ByteArray} {a : Nat} (h : Rd w b s a) {g : Nat} (hg : g ≠ b) (cs : Array Value) : Rd (w.setRow g cs) b s a := by
  have e := setRow_other w g b cs (fun e => hg e.symm)
  exact ⟨(World.cell?_of_block e).trans h.text, (World.cell?_of_block e).trans h.place, (World.frozen?_of_block e).trans h.free, h.size, h.in_⟩

set_option maxHeartbeats 1000000 in
theorem within_yes (v lo m : Int) (c : Int) (w : World) (h0 : lo ≤ v) (h : v ≤ m) :
    Calls Try.prog 31 #[.int .i64 v, .int .i64 lo, .int .i64 m, .int .i64 c] w fun e w' => e = .returned (.int .i64 v) ∧ w = w' := by
  have h1 : ¬ v < lo := by omega
  have h2 : ¬ m < v := by omega
  clear h0 h
  go_enter Try.func31, Try.ntmps31
  go_wp2
  go_ret
  exact ⟨rfl, rfl⟩
set_option maxHeartbeats 1000000 in
theorem within_no (v lo m c : Int) (w : World) (h : v < lo ∨ m < v) :
    Calls Try.prog 31 #[.int .i64 v, .int .i64 lo, .int .i64 m, .int .i64 c] w fun e w' => e = .panicked [{ v := .iface 34 (.int .i64 c), recovered := false }] ∧ w = w' := by
  by_cases h1 : v < lo
  · clear h
    go_enter Try.func31, Try.ntmps31
    go_wp2
    exact ⟨rfl, rfl, rfl⟩
  · have h2 : m < v := by omega
    clear h
    go_enter Try.func31, Try.ntmps31
    go_wp2
    exact ⟨rfl, rfl, rfl⟩

/-- What a reader's method without a struct begins with: its copy of the reader. -/
theorem rbegin {w : World} {b : Nat} {s : ByteArray} {a : Nat} (h : Rd w b s a) : Rd (w.alloc (.cells #[.pointer (some ⟨b, 0, none⟩)] 67)) b s a ∧ w.grownBy (w.alloc (.cells #[.pointer (some ⟨b, 0, none⟩)] 67)) (some b) :=
  ⟨h.alloc' _, grown_alloc _ _ _⟩
set_option maxHeartbeats 1000000 in
theorem rsmall (w : World) (b : Nat) (s : ByteArray) (a m c : Nat) (h : Rd w b s a) :
    Calls Try.prog 67 #[.agg #[.pointer (some ⟨b, 0, none⟩)], .int .i64 (m : Int), .int .i64 (c : Int)] w (RP (getSm 1 m c) (fun _ v val => val = .int .i64 v) w b s a) := by
  obtain ⟨H, hg0⟩ := rbegin h
  go_enter Try.func67, Try.ntmps67
  go_wp2_with fail
  refine (rnum _ b s a 1 1 (by decide) H).mono ?_
  rintro e w1 (⟨v, _, a1, hG, rfl, rfl, hr, hg⟩ | ⟨q, hG, rfl, hg⟩)
  · have hv' : v < 256 := getN_lt hG
    have HG := Lib.hid hG
    clear hG
    by_cases hm : v ≤ m
    · go_wp2_with fail
      refine (within_yes (v : Int) 0 (m : Int) c _ (by omega) (by omega)).mono ?_
      rintro e w2 ⟨rfl, rfl⟩
      go_wp2
      go_ret
      exact .inl ⟨(v : Int), _, a1, by simp only [getSm, HG.out, andG_ok, badG, if_neg (show ¬ m < v by omega)], rfl, rfl, hr, grown_tr hg0 hg⟩
    · go_wp2_with fail
      refine (within_no (v : Int) 0 (m : Int) c _ (.inr (by omega))).mono ?_
      rintro e w2 ⟨rfl, rfl⟩
      exact ⟨rfl, .inr ⟨c, by simp only [getSm, HG.out, andG_ok, badG, if_pos (show m < v by omega)], rfl, grown_tr hg0 hg⟩⟩
  · exact ⟨rfl, .inr ⟨q, by simp only [getSm, hG, andG_err], rfl, grown_tr hg0 hg⟩⟩
/-- The first byte, which is 1 to most. -/
def getK (m : Nat) (l : List UInt8) : Got Nat := andG (getN 1 l) fun k r => badG 10 (k < 1 ∨ m < k) (.ok (k, r))
set_option maxHeartbeats 1000000 in
theorem rkind (w : World) (b : Nat) (s : ByteArray) (a m : Nat) (h : Rd w b s a) :
    Calls Try.prog 23 #[.agg #[.pointer (some ⟨b, 0, none⟩)], .int .i64 (m : Int)] w (RP (getK m) (fun _ v val => val = .int .i64 (v : Int)) w b s a) := by
  obtain ⟨H, hg0⟩ := rbegin h
  go_enter Try.func23, Try.ntmps23
  go_wp2_with fail
  refine (rnum _ b s a 1 1 (by decide) H).mono ?_
  rintro e w1 (⟨v, _, a1, hG, rfl, rfl, hr, hg⟩ | ⟨q, hG, rfl, hg⟩)
  · have hv' : v < 256 := getN_lt hG
    have HG := Lib.hid hG
    clear hG
    by_cases hm : v < 1 ∨ m < v
    · go_wp2_with fail
      refine (within_no (v : Int) 1 (m : Int) 10 _ (by omega)).mono ?_
      rintro e w2 ⟨rfl, rfl⟩
      exact ⟨rfl, .inr ⟨10, by simp only [getK, HG.out, andG_ok, badG, if_pos hm], rfl, grown_tr hg0 hg⟩⟩
    · go_wp2_with fail
      refine (within_yes (v : Int) 1 (m : Int) 10 _ (by omega) (by omega)).mono ?_
      rintro e w2 ⟨rfl, rfl⟩
      go_wp2
      go_ret
      exact .inl ⟨v, _, a1, by simp only [getK, HG.out, andG_ok, badG, if_neg hm], rfl, rfl, hr, grown_tr hg0 hg⟩
  · exact ⟨rfl, .inr ⟨q, by simp only [getK, hG, andG_err], rfl, grown_tr hg0 hg⟩⟩
set_option maxHeartbeats 1000000 in
theorem rfour (w : World) (b : Nat) (s : ByteArray) (a : Nat) (h : Rd w b s a) :
    Calls Try.prog 46 #[.agg #[.pointer (some ⟨b, 0, none⟩)]] w (RP (getN 4) (fun _ v val => val = .int .u32 (v : Int)) w b s a) := by
  obtain ⟨H, hg0⟩ := rbegin h
  go_enter Try.func46, Try.ntmps46
  go_wp2_with fail
  refine (rnum _ b s a 4 4 (by decide) H).mono ?_
  rintro e w1 (⟨v, _, a1, hG, rfl, rfl, hr, hg⟩ | ⟨q, hG, rfl, hg⟩)
  · have hv : v < 4294967296 := getN_lt hG
    have HG := Lib.hid hG
    clear hG
    go_wp2
    go_ret
    exact .inl ⟨_, _, a1, HG.out, rfl, rfl, hr, grown_tr hg0 hg⟩
  · exact ⟨rfl, .inr ⟨q, hG, rfl, grown_tr hg0 hg⟩⟩
set_option maxHeartbeats 1000000 in
theorem rtwo (w : World) (b : Nat) (s : ByteArray) (a : Nat) (h : Rd w b s a) :
    Calls Try.prog 54 #[.agg #[.pointer (some ⟨b, 0, none⟩)]] w (RP (getN 2) (fun _ v val => val = .int .i64 (v : Int)) w b s a) := by
  obtain ⟨H, hg0⟩ := rbegin h
  go_enter Try.func54, Try.ntmps54
  go_wp2_with fail
  refine (rnum _ b s a 2 2 (by decide) H).mono ?_
  rintro e w1 (⟨v, _, a1, hG, rfl, rfl, hr, hg⟩ | ⟨q, hG, rfl, hg⟩)
  · have hv : v < 65536 := getN_lt hG
    have HG := Lib.hid hG
    clear hG
    go_wp2
    go_ret
    exact .inl ⟨_, _, a1, HG.out, rfl, rfl, hr, grown_tr hg0 hg⟩
  · exact ⟨rfl, .inr ⟨q, hG, rfl, grown_tr hg0 hg⟩⟩
/-- The byte of flags. -/
def getFl (l : List UInt8) : Got Nat := andG (getN 1 l) fun f r => badG 1 (3 < f) (.ok (f, r))
theorem getFl_of {l : List UInt8} : getSm 1 3 1 l = andG (getFl l) fun f r => .ok ((f : Int), r) := by
  unfold getSm getFl
  cases getN 1 l with
  | error e => rfl
  | ok x => 
    obtain ⟨f, r⟩ := x
    simp only [andG_ok, badG]
    split <;> rfl
set_option maxHeartbeats 1000000 in
theorem rflags (w : World) (b : Nat) (s : ByteArray) (a : Nat) (h : Rd w b s a) :
    Calls Try.prog 52 #[.agg #[.pointer (some ⟨b, 0, none⟩)]] w (RP getFl (fun _ f val => f ≤ 3 ∧ val = .tuple #[.bool (decide (f % 2 = 1)), .bool (decide (f / 2 = 1))]) w b s a) := by
  obtain ⟨H, hg0⟩ := rbegin h
  have HS : Calls Try.prog 67 #[.agg #[.pointer (some ⟨b, 0, none⟩)], .int .i64 3, .int .i64 1] (w.alloc (.cells #[.pointer (some ⟨b, 0, none⟩)] 67)) (RP (getSm 1 3 1) (fun _ v val => val = .int .i64 v) _ b s a) := rsmall _ b s a 3 1 H
  go_enter Try.func52, Try.ntmps52
  go_wp2_with fail
  refine HS.mono ?_
  rintro e w1 (⟨v, _, a1, hG, rfl, rfl, hr, hg⟩ | ⟨q, hG, rfl, hg⟩)
  · rw [getFl_of] at hG
    obtain ⟨f, r, hF, hR⟩ := andG_iff.1 hG
    simp only [Except.ok.injEq, Prod.mk.injEq] at hR
    obtain ⟨rfl, rfl⟩ := hR
    have hf : f ≤ 3 := by
      unfold getFl at hF
      simp only [andG_iff, badG_iff, Except.ok.injEq, Prod.mk.injEq] at hF
      obtain ⟨n, r, _, h3, rfl, _⟩ := hF
      omega
    have HF := Lib.hid hF
    have hgr := grown_tr hg0 hg
    clear hG hF HS
    have h4 : f = 0 ∨ f = 1 ∨ f = 2 ∨ f = 3 := by omega
    rcases h4 with rfl | rfl | rfl | rfl
    all_goals
      go_wp2
      go_ret2
      exact .inl ⟨_, _, a1, HF.out, rfl, ⟨by decide, rfl⟩, hr, hgr⟩
  · rw [getFl_of] at hG
    refine ⟨rfl, .inr ⟨q, ?_, rfl, grown_tr hg0 hg⟩⟩
    cases hF : getFl (restB s a) with
    | error x => rw [hF, andG_err] at hG; cases hG; rfl
    | ok x => obtain ⟨f, r⟩ := x; rw [hF, andG_ok] at hG; cases hG
set_option maxHeartbeats 1000000 in
theorem rend (w : World) (b : Nat) (s : ByteArray) (a : Nat) (h : Rd w b s a) :
    Calls Try.prog 25 #[.agg #[.pointer (some ⟨b, 0, none⟩)]] w fun e w' => w.grownBy w' (some b) ∧ ((restB s a = [] ∧ e = .returned (.tuple #[])) ∨ (restB s a ≠ [] ∧ e = .panicked (pan 4))) := by
  obtain ⟨H, hg0⟩ := rbegin h
  have hin := h.in_
  have hl := restB_length s a
  go_enter Try.func25, Try.ntmps25
  go_wp2_with fail
  refine (left_any _ _ _ _ H).mono ?_
  rintro e w1 ⟨rfl, n, rfl⟩
  have hg1 := grown_tr hg0 (grown_drewN (w.alloc (.cells #[.pointer (some ⟨b, 0, none⟩)] 67)) n (some b))
  by_cases hz : a = s.size
  · have HN : Hid (restB s a = []) := Lib.hid (List.eq_nil_of_length_eq_zero (by rw [hl]; omega))
    go_wp2_with fail
    refine (within_yes _ 0 0 4 _ (by omega) (by omega)).mono ?_
    rintro e w2 ⟨rfl, rfl⟩
    go_wp2
    go_end0
    exact ⟨hg1, .inl ⟨HN.out, rfl⟩⟩
  · have HN : Hid (restB s a ≠ []) := Lib.hid (fun e => by rw [e] at hl; simp at hl; omega)
    go_wp2_with fail
    refine (within_no _ 0 0 4 _ (.inr (by omega))).mono ?_
    rintro e w2 ⟨rfl, rfl⟩
    exact ⟨rfl, hg1, .inr ⟨HN.out, rfl⟩⟩
end Go.Proofs.Ytblefbjmjhgkkaa
