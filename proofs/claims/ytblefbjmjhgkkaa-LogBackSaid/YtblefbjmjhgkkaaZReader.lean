/- The contracts of a reader: New, At, Left, pass, Num. -/
import Derived.Test.YtblefbjmjhgkkaaZGet
import Derived.Deep.QuietTactic
import Derived.BigQuiet
import Derived.Laws.NewBlocks
set_option linter.unusedVariables false
set_option maxRecDepth 100000
set_option linter.unusedSimpArgs false
namespace Go.Proofs.Ytblefbjmjhgkkaa
open Go.RowKit

/-- A reader stands in block b: its text, and how far it is. -/
structure Rd (w : World) (b : Nat) (s : ByteArray) (a : Nat) : Prop where
  text : w.cell? ⟨b, 0, none⟩ = some (.string s)
  place : w.cell? ⟨b, 1, none⟩ = some (.int .i64 a)
  free : w.frozen? ⟨b, 1, none⟩ = false
  size : s.size ≤ 9223372036854775807
  in_ : a ≤ s.size

theorem new_any (s : ByteArray) (w : World) :
    Calls Try.prog 22 #[.string s] w fun e w' => e = .returned (.pointer (some ⟨w.heap.size, 0, none⟩)) ∧ w.alloc (.cells #[.string s, .int .i64 0] 98) = w' := by
  go_enter Try.func22, Try.ntmps22
  go_wp2
  go_ret
  exact ⟨rfl, rfl⟩

theorem left_any (w : World) (b : Nat) (s : ByteArray) (a : Nat) (h : Rd w b s a) :
    Calls Try.prog 48 #[.pointer (some ⟨b, 0, none⟩)] w fun e w' => e = .returned (.int .i64 ((s.size : Int) - a)) ∧ ∃ n, w' = w.drewN n := by
  obtain ⟨h1, h2, h3, h4, h5⟩ := h
  go_enter Try.func48, Try.ntmps48
  go_wp2
  go_quiet (fail)
  go_wp2
  go_ret
  exact ⟨rfl, ⟨_, rfl⟩⟩

theorem width_any (n : Int) (w : World) :
    Calls Try.prog 64 #[.int .i64 n] w fun e w' => e = .returned (.int .i64 (wid n)) ∧ w = w' := by
  by_cases h1 : n < 0
  · rw [show wid n = 0 by unfold wid; (repeat' split) <;> omega]
    go_enter Try.func64, Try.ntmps64
    go_wp2
    go_ret
    exact ⟨rfl, rfl⟩
  by_cases h2 : 8 < n
  · rw [show wid n = 8 by unfold wid; (repeat' split) <;> omega]
    go_enter Try.func64, Try.ntmps64
    go_wp2
    go_ret
    exact ⟨rfl, rfl⟩
  rw [show wid n = n by unfold wid; (repeat' split) <;> omega]
  go_enter Try.func64, Try.ntmps64
  go_wp2
  go_ret
  exact ⟨rfl, rfl⟩

/-- Where enough is left, so many bytes are gone past. -/
theorem pass_yes (w : World) (b : Nat) (s : ByteArray) (a m : Nat) (h : Rd w b s a) (hm : a + m ≤ s.size) :
    Calls Try.prog 63 #[.pointer (some ⟨b, 0, none⟩), .int .i64 m] w fun e w' => e = .returned (.string (s.extract a (a + m))) ∧
      ∃ i j, w' = ((w.drewN i).setCell ⟨b, 1, none⟩ (.int .i64 ((a : Int) + m))).drewN j := by
  have H := h
  have hsl : a + m ≤ s.size := hm
  obtain ⟨h1, h2, h3, h4, h5⟩ := h
  go_enter Try.func63, Try.ntmps63
  go_wp2_with fail
  refine (left_any _ _ _ _ H).mono ?_
  rintro e w' ⟨rfl, n, rfl⟩
  go_wp2
  go_quiet (fail)
  go_wp2
  go_ret
  exact ⟨rfl, ⟨_, _, rfl⟩⟩
theorem Rd.drewN {w : World} {b : Nat} {s : ByteArray} {a : Nat} (h : Rd w b s a) (n : Nat) : Rd (w.drewN n) b s a := ⟨h.text, h.place, h.free, h.size, h.in_⟩

/-- A reader that has gone on; what the world's other blocks hold stays. -/
theorem Rd.gone {w : World} {b : Nat} {s : ByteArray} {a : Nat} (h : Rd w b s a) (m : Nat) (hm : a + m ≤ s.size) (i j : Nat) :
    Rd (((w.drewN i).setCell ⟨b, 1, none⟩ (.int .i64 ((a : Int) + m))).drewN j) b s (a + m) ∧ w.grownBy (((w.drewN i).setCell ⟨b, 1, none⟩ (.int .i64 ((a : Int) + m))).drewN j) (some b) := by
  have h1 : (w.drewN i).cell? ⟨b, 1, none⟩ = some (.int .i64 a) := h.place
  have h0 : (w.drewN i).cell? ⟨b, 0, none⟩ = some (.string s) := h.text
  have hf : (w.drewN i).frozen? ⟨b, 1, none⟩ = false := h.free
  refine ⟨⟨?_, ?_, ?_, h.size, hm⟩, ⟨rfl, rfl, rfl, by simp [World.setCell, World.drewN], fun k hk hne => ?_⟩⟩
  · show ((w.drewN i).setCell ⟨b, 1, none⟩ _).cell? ⟨b, 0, none⟩ = _
    rw [World.cell?_setCell_other _ _ _ _ (by simp)]; exact h0
  · show ((w.drewN i).setCell ⟨b, 1, none⟩ _).cell? ⟨b, 1, none⟩ = _
    rw [World.cell?_setCell_same' _ _ _ (by rw [h1]; rfl)]; simp
  · show ((w.drewN i).setCell ⟨b, 1, none⟩ _).frozen? ⟨b, 1, none⟩ = _
    simp [hf]
  · show ((w.drewN i).setCell ⟨b, 1, none⟩ _).heap[k]? = _
    rw [Below.heap_setCell _ _ _ _ (by rintro rfl; exact hne rfl)]; rfl

theorem pass_rd (w : World) (b : Nat) (s : ByteArray) (a m : Nat) (h : Rd w b s a) (hm : a + m ≤ s.size) :
    Calls Try.prog 63 #[.pointer (some ⟨b, 0, none⟩), .int .i64 m] w fun e w' => e = .returned (.string (s.extract a (a + m))) ∧ Rd w' b s (a + m) ∧ w.grownBy w' (some b) :=
  (pass_yes w b s a m h hm).mono fun e w' ⟨he, i, j, hw⟩ => ⟨he, by rw [hw]; exact (h.gone m hm i j).1, by rw [hw]; exact (h.gone m hm i j).2⟩

theorem num_yes (w : World) (b : Nat) (s : ByteArray) (a : Nat) (n : Int) (h : Rd w b s a) (hm : a + (wid n).toNat ≤ s.size) :
    Calls Try.prog 45 #[.pointer (some ⟨b, 0, none⟩), .int .i64 n] w fun e w' => e = .returned (.int .u64 (be ((s.data.toList.drop a).take (wid n).toNat))) ∧ Rd w' b s (a + (wid n).toNat) ∧ w.grownBy w' (some b) := by
  have hb := wid_bd n
  obtain ⟨m, hm'⟩ := Int.eq_ofNat_of_zero_le hb.1
  have HM := Lib.hid hm'
  rw [hm'] at hm hb
  rw [hm']
  simp only [Int.toNat_natCast] at hm ⊢
  clear hm'
  go_enter Try.func45, Try.ntmps45
  go_wp2_with fail
  refine (width_any _ _).mono ?_
  rintro e w' ⟨rfl, rfl⟩
  rw [HM.out]
  go_wp2_with fail
  refine (pass_rd _ _ _ _ _ h hm).mono ?_
  rintro e w1 ⟨rfl, hr, hg⟩
  go_wp2_with fail
  refine (number_any _ _ (by simp; omega)).mono ?_
  rintro e w2 ⟨rfl, rfl⟩
  go_wp2
  go_ret
  exact ⟨by rw [← cut_data s a m hm]; rfl, hr, hg⟩
end Go.Proofs.Ytblefbjmjhgkkaa
