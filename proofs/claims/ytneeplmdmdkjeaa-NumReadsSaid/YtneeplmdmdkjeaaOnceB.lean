/- The other contracts of 'once': a text; and where bytes lack. -/
import Derived.Test.YtneeplmdmdkjeaaOnce
set_option linter.unusedVariables false
set_option linter.unusedSimpArgs false
namespace Go.Proofs.Ytneeplmdmdkjeaa
open Go.RowKit

set_option maxHeartbeats 1000000 in
theorem once_text (w : World) (b : Nat) (s : ByteArray) (a m : Nat) (n : Int) (h : Rd w b s a) (hw : pos n = m) (hm : a + m ≤ s.size) (hs : s.size ≤ 1099511627776) :
    Calls Try.prog 16 #[.pointer (some ⟨b, 0, none⟩), .agg #[.bool true, .int .i64 n]] w fun e w' =>
      e = .returned (.tuple #[.int .u64 0, .string (s.extract a (a + m)), .bool true]) ∧ Went w w' b s (a + m) := by
  have hmf : ∀ (fn : Fn) (first cap : Array Value) (w : World), (Instr.makeFunc fn first cap).run Try.prog w = .ok (.func fn first cap) w := fun _ _ _ _ => rfl
  have HW := Lib.hid hw
  have hblk : b < w.heap.size := World.block_lt_of_cell? _ _ h.text
  clear hw
  go_enter_defers Try.func16, Try.ntmps16
  go_wp2_with fail
  refine (text_yes _ b s a m n (h.after (below_allocs w _ _ _ _)) HW.out hm hs).mono ?_
  rintro e w1 ⟨rfl, hr, hg⟩
  obtain ⟨c0, c1, c2, f0, f1, f2⟩ := (Boxes.new w (.cells #[.bool true, .int .i64 n] 39) (.int .u64 0) (.string ⟨#[]⟩) (.bool false) 23 9 4).kept hg hblk
  have hg0 := grown_trans (grown_allocs w _ _ _ _ _) hg
  clear hg
  go_wp2
  refine leaves_cons (f := 25) (args := #[.pointer (some ⟨w.heap.size + 1, 0, none⟩), .pointer (some ⟨w.heap.size + 1 + 1, 0, none⟩), .pointer (some ⟨w.heap.size + 1 + 1 + 1, 0, none⟩)]) (by simp) (by simp [go_sem]) ?_
  refine (catch_idle _ _ _ _).mono ?_
  rintro e u' w'' ⟨rfl, rfl, rfl⟩
  have hd := went_of (w0 := w) (v0 := .int .u64 0) (v1 := .string (s.extract a (a + m))) (v2 := .bool true) hg0 hr rfl hblk
  simp [Leaves, settle, results, Try.results16, go_sem, c0, c1, c2]
  exact hd

set_option maxHeartbeats 1000000 in
theorem once_num_no (w : World) (b : Nat) (s : ByteArray) (a : Nat) (n : Int) (h : Rd w b s a) (hm : (s.size : Int) - a < wid n) :
    Calls Try.prog 16 #[.pointer (some ⟨b, 0, none⟩), .agg #[.bool false, .int .i64 n]] w fun e w' =>
      e = .returned (.tuple #[.int .u64 0, .string ⟨#[]⟩, .bool false]) ∧ Went w w' b s a := by
  have hmf : ∀ (fn : Fn) (first cap : Array Value) (w : World), (Instr.makeFunc fn first cap).run Try.prog w = .ok (.func fn first cap) w := fun _ _ _ _ => rfl
  have hblk : b < w.heap.size := World.block_lt_of_cell? _ _ h.text
  go_enter_defers Try.func16, Try.ntmps16
  go_wp2_with fail
  refine (num_no _ b s a n (h.after (below_allocs w _ _ _ _)) hm).mono ?_
  rintro e w1 ⟨rfl, i, hw1⟩
  obtain ⟨c0, c1, c2, f0, f1, f2⟩ : Boxes w1 w.heap.size (.int .u64 0) (.string ⟨#[]⟩) (.bool false) := by
    rw [hw1]
    have hb := Boxes.new w (.cells #[.bool false, .int .i64 n] 39) (.int .u64 0) (.string ⟨#[]⟩) (.bool false) 23 9 4
    exact ⟨hb.c0, hb.c1, hb.c2, hb.f0, hb.f1, hb.f2⟩
  have hg0 : w.grownBy w1 (some b) := by rw [hw1]; have hg := grown_allocs w (.cells #[.bool false, .int .i64 n] 39) (.cells #[.int .u64 0] 23) (.cells #[.string ⟨#[]⟩] 9) (.cells #[.bool false] 4) (some b); exact ⟨hg.os, hg.tape, hg.output, hg.size, hg.block⟩
  have hr : Rd w1 b s a := by rw [hw1]; exact (h.after (below_allocs w _ _ _ _)).drewN i
  clear hw1
  refine leaves_cons (f := 25) (args := #[.pointer (some ⟨w.heap.size + 1, 0, none⟩), .pointer (some ⟨w.heap.size + 1 + 1, 0, none⟩), .pointer (some ⟨w.heap.size + 1 + 1 + 1, 0, none⟩)]) (by simp) (by simp [go_sem]) ?_
  refine (catch_short _ _ _ _ _ _ _ c0 c1 c2 f0 f1 f2 (by simp) (by simp) (by simp)).mono ?_
  rintro e u' w'' ⟨rfl, rfl, rfl⟩
  have hd := went_of (w0 := w) (v0 := .int .u64 0) (v1 := .string ⟨#[]⟩) (v2 := .bool false) hg0 hr rfl hblk
  simp [Leaves, settle, results, Try.results16, go_sem, c0, c1, c2]
  exact hd
set_option maxHeartbeats 1000000 in
theorem once_text_no (w : World) (b : Nat) (s : ByteArray) (a : Nat) (n : Int) (h : Rd w b s a) (hn : n ≤ 9223372036854775807) (hm : (s.size : Int) - a < pos n) :
    Calls Try.prog 16 #[.pointer (some ⟨b, 0, none⟩), .agg #[.bool true, .int .i64 n]] w fun e w' =>
      e = .returned (.tuple #[.int .u64 0, .string ⟨#[]⟩, .bool false]) ∧ Went w w' b s a := by
  have hmf : ∀ (fn : Fn) (first cap : Array Value) (w : World), (Instr.makeFunc fn first cap).run Try.prog w = .ok (.func fn first cap) w := fun _ _ _ _ => rfl
  have hblk : b < w.heap.size := World.block_lt_of_cell? _ _ h.text
  go_enter_defers Try.func16, Try.ntmps16
  go_wp2_with fail
  refine (text_no _ b s a n (h.after (below_allocs w _ _ _ _)) hn hm).mono ?_
  rintro e w1 ⟨rfl, i, hw1⟩
  obtain ⟨c0, c1, c2, f0, f1, f2⟩ : Boxes w1 w.heap.size (.int .u64 0) (.string ⟨#[]⟩) (.bool false) := by
    rw [hw1]
    have hb := Boxes.new w (.cells #[.bool true, .int .i64 n] 39) (.int .u64 0) (.string ⟨#[]⟩) (.bool false) 23 9 4
    exact ⟨hb.c0, hb.c1, hb.c2, hb.f0, hb.f1, hb.f2⟩
  have hg0 : w.grownBy w1 (some b) := by rw [hw1]; have hg := grown_allocs w (.cells #[.bool true, .int .i64 n] 39) (.cells #[.int .u64 0] 23) (.cells #[.string ⟨#[]⟩] 9) (.cells #[.bool false] 4) (some b); exact ⟨hg.os, hg.tape, hg.output, hg.size, hg.block⟩
  have hr : Rd w1 b s a := by rw [hw1]; exact (h.after (below_allocs w _ _ _ _)).drewN i
  clear hw1
  refine leaves_cons (f := 25) (args := #[.pointer (some ⟨w.heap.size + 1, 0, none⟩), .pointer (some ⟨w.heap.size + 1 + 1, 0, none⟩), .pointer (some ⟨w.heap.size + 1 + 1 + 1, 0, none⟩)]) (by simp) (by simp [go_sem]) ?_
  refine (catch_short _ _ _ _ _ _ _ c0 c1 c2 f0 f1 f2 (by simp) (by simp) (by simp)).mono ?_
  rintro e u' w'' ⟨rfl, rfl, rfl⟩
  have hd := went_of (w0 := w) (v0 := .int .u64 0) (v1 := .string ⟨#[]⟩) (v2 := .bool false) hg0 hr rfl hblk
  simp [Leaves, settle, results, Try.results16, go_sem, c0, c1, c2]
  exact hd
end Go.Proofs.Ytneeplmdmdkjeaa
