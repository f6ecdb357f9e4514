/- The contract of Put: what is there, and the number's bytes behind it, in new memory. -/
import Derived.Test.YtblefbjmjhgkkaaZReader
import Derived.Laws.MakeOwn
import Derived.Laws.CopyOwn
import Derived.OwnWalk
import Derived.Maps.AppendAt
set_option linter.unusedVariables false
set_option maxRecDepth 100000
set_option linter.unusedSimpArgs false
namespace Go.Proofs.Ytblefbjmjhgkkaa
open Go.RowKit

theorem Try.info8 : (Try.prog.info? 5).map (fun i => (i.zero, i.size, i.bytes)) = some (some (.int .u8 0), 1, 1) := by kernel_rfl

/-- 'make([]byte, n, c)': a new row of zeros. -/
theorem makes8 (n c : Nat) (hnc : n ≤ c) (hc : c ≤ 281474976710656) (W : World) :
    (Instr.makeSlice 84 (.int .i64 (n : Int)) (.int .i64 (c : Int))).run Try.prog W = .ok (.slice (some ⟨W.heap.size, 0, none⟩) n c) (W.alloc (.cells (List.replicate c (Value.int .u8 0)).toArray 5)) := by
  obtain ⟨i0, hi, hz0, hz1, hz2⟩ := info_parts Try.info8
  have h := run_make (P := Try.prog) W 84 5 i0 (.int .u8 0) Try.underlying84 hi hz0 .i64 .i64 (n : Int) (c : Int) (by omega) (by omega) (by rw [hz2]; omega) (by omega)
  have e : madeCells (Value.int .u8 0).cells ((c : Int).toNat * 1) = (List.replicate c (Value.int .u8 0)).toArray := by
    apply Array.ext'
    rw [Int.toNat_natCast, Nat.mul_one]
    exact toList_madeCells_one (.int .u8 0) c
  rw [hz1, e, Int.toNat_natCast, Int.toNat_natCast] at h
  exact h

/-- A slice whose elements are the bytes l. -/
def Src (w : World) (ao : Option Addr) (l : List UInt8) : Prop :=
  (ao = none ∧ l = []) ∨ ∃ ad, ao = some ad ∧ ∀ j v, (cells8 l)[j]? = some v → w.cell? (ad.add j) = some v

theorem Src.pos {w : World} {ao : Option Addr} {l : List UInt8} (h : Src w ao l) (o : Obj) (x : Option Addr) :
    0 < (cells8 l).length → x = x ∧ ∃ ad, ao = some ad ∧ ∀ j v, (cells8 l)[j]? = some v → (w.alloc o).cell? (ad.add j) = some v := by
  intro hp
  refine ⟨rfl, ?_⟩
  rcases h with ⟨_, rfl⟩ | ⟨ad, rfl, hs⟩
  · simp [cells8] at hp
  · exact ⟨ad, rfl, fun j u hj => cell_later ((Below.refl w.heap.size w).alloc (Nat.le_refl _) _) (hs j u hj)⟩
theorem heap_alloc_last (w : World) (o : Obj) : (w.alloc o).heap[w.heap.size]? = some o := by
  show (w.heap.push o)[w.heap.size]? = _
  simp

theorem wid_nat (n : Int) : ∃ m : Nat, wid n = m ∧ m ≤ 8 := ⟨(wid n).toNat, by have := wid_bd n; omega, by have := wid_bd n; omega⟩

set_option maxHeartbeats 400000 in
theorem put_nat (ao : Option Addr) (l : List UInt8) (c v : Nat) (n : Int) (m : Nat) (w : World) (hsrc : Src w ao l) (hl : l.length ≤ 1099511627776) (hv : v < 18446744073709551616) (hn : wid n = m) (hm8 : m ≤ 8) :
    Calls Try.prog 70 #[.slice ao l.length c, .int .u64 v, .int .i64 n] w fun e w' =>
      e = .returned (.slice (some ⟨w.heap.size, 0, none⟩) (l.length + m) (l.length + m)) ∧
      w'.ownsRow w.heap.size 5 1 (.slice (some ⟨w.heap.size, 0, none⟩) (l.length + m) (l.length + m)) (l.length + m) (cells8 (l ++ pb m v)) ∧ Below w.heap.size w w' := by
  obtain ⟨i0, hi, hz0, hz1, hz2⟩ := info_parts Try.info8
  have hmk := makes8 l.length (l.length + m) (by omega) (by omega)
  rw [show (((l.length + m : Nat)) : Int) = (l.length : Int) + m from by omega] at hmk
  obtain ⟨C, hC⟩ : ∃ C, C = List.replicate (l.length + m) (Value.int .u8 0) := ⟨_, rfl⟩
  rw [← hC] at hmk
  have hCs : C.length = l.length + m := by rw [hC, List.length_replicate]
  have hlen : 0 + (cells8 l).length ≤ C.length := by rw [cells8_length]; omega
  have HL := Lib.hid hlen
  clear hlen
  have HCs := Lib.hid hCs
  have HN := Lib.hid hn
  clear hC hCs hn
  go_enter Try.func70, Try.ntmps70
  go_wp2_with fail
  refine (width_any _ _).mono ?_
  rintro e w' ⟨rfl, rfl⟩
  rw [HN.out]
  go_wp2_with (with_reducible refine wpList_copy_splice rfl (.tmp 18) (.tmp 19) 84 84 rfl 5 Try.underlying84 (by rw [hi]; simp [hz1]) _ _ _ _ _ _ rfl rfl w.heap.size 0 C 5 (heap_alloc_last w _) (cells8 l) ((cells8_length l).trans (Nat.min_self _).symm) (hsrc.pos _ _) HL.out (cells8_one l) w.heap.size w ((Below.refl _ _).alloc (Nat.le_refl _) _) (Nat.le_refl _) ?_)
  intro w2 hg2 hb2
  have hown : w2.ownsRow w.heap.size 5 1 (.slice (some ⟨w.heap.size, 0, none⟩) l.length (l.length + m)) l.length (cells8 l) := by
    refine ⟨by rw [cells8_length]; omega, .inr ⟨_, _, _, rfl, Nat.le_refl _, hg2.out, by omega, by unfold maxLen; omega, ?_, ?_⟩⟩
    · rw [List.size_toArray, length_splice _ _ _ HL.out, HCs.out]; omega
    · simp [splice]
      rw [List.take_append_of_le_length (by rw [cells8_length]; omega)]
      exact List.take_of_length_le (by rw [cells8_length]; omega)
  go_wp2
  go_loopw [7, 22] (fun out si wr => ∃ i : Nat, i ≤ m ∧ si = .int .i64 i ∧ out = .slice (some ⟨w.heap.size, 0, none⟩) (l.length + i) (l.length + m) ∧
      wr.ownsRow w.heap.size 5 1 (.slice (some ⟨w.heap.size, 0, none⟩) (l.length + i) (l.length + m)) (l.length + i) (cells8 (l ++ (pb m v).take i)) ∧ Below w.heap.size w wr)
    (fun _ si _ => m - (intOf si).toNat)
  case atStart => exact ⟨0, Nat.zero_le _, rfl, rfl, by simpa using hown, hb2⟩
  case round =>
    obtain ⟨i, him, rfl, rfl, hown, hnx⟩ := hrel
    by_cases hlt : i < m
    · have HB := Lib.hid (shr_byte v (m - 1 - i))
      have HT := Lib.hid (pb_take m v i hlt)
      go_wp2_with (at_builtin; refine wpList_append_fits _ rfl (.tmp 25) (.tmp 34) 84 rfl w.heap.size 5 i0 1 Try.underlying84 hi hz1 w.heap.size (l.length + i) (l.length + m) _ rfl (hown.alloc _) ⟨wr.heap.size, 0, none⟩ 1 1 [.int .u8 ((v : Int) / 2 ^ (8 * (m - 1 - i)) % 256)] rfl rfl (cell_one_new _ _ _) (by simp [Value.oneCell']) (by omega) ?_; intro w1 hown1 hgrow1)
      go_roundw
      case rel =>
        refine ⟨i + 1, by omega, by go_num, rfl, ?_, (hnx.alloc hnx.size _).grown hgrow1 (by simp; have := hnx.size; omega) (fun k hk => by cases hk; exact Nat.le_refl _)⟩
        rw [HB.out] at hown1
        rw [HT.out, ← List.append_assoc, cells8_append]
        exact hown1
      case measure => simp [intOf]; omega
    · have hi2 : i = m := by omega
      have HT := Lib.hid (show (pb m v).take i = pb m v by rw [hi2]; exact List.take_of_length_le (by rw [pb_length]; omega))
      have HI := Lib.hid hi2
      clear hi2
      go_wp2
      go_ret
      rw [HT.out, HI.out] at hown
      exact ⟨by rw [HI.out]; rfl, hown, hnx⟩
/-- The same, the length and the new block under names of their own. -/
theorem put_len (g : Nat) (ao : Option Addr) (l : List UInt8) (len c v : Nat) (n : Int) (m : Nat) (w : World) (hg : w.heap.size = g) (hsrc : Src w ao l) (hlen : l.length = len) (hl : len ≤ 1099511627776) (hv : v < 18446744073709551616) (hn : wid n = m) (hm8 : m ≤ 8) :
    Calls Try.prog 70 #[.slice ao len c, .int .u64 v, .int .i64 n] w fun e w' =>
      e = .returned (.slice (some ⟨g, 0, none⟩) (len + m) (len + m)) ∧
      w'.ownsRow g 5 1 (.slice (some ⟨g, 0, none⟩) (len + m) (len + m)) (len + m) (cells8 (l ++ pb m v)) ∧ Below g w w' := by
  subst hlen
  subst hg
  exact put_nat ao l c v n m w hsrc hl hv hn hm8
end Go.Proofs.Ytblefbjmjhgkkaa
