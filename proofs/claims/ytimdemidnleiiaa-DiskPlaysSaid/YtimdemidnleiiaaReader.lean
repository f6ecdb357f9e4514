/- The contracts of a reader: New, At, Left, pass, Num. -/
import Derived.Test.YtimdemidnleiiaaGet
import Derived.Deep.QuietTactic
import Derived.BigQuiet
import Derived.Laws.NewBlocks
set_option linter.unusedVariables false
set_option linter.unusedSimpArgs false
namespace Go.Proofs.Ytimdemidnleiiaa
open Go.RowKit

/-- A reader stands in block b: its text, and how far it is. -/
structure Rd (w : World) (b : Nat) (s : ByteArray) (a : Nat) : Prop where
  text : w.cell? ⟨b, 0, none⟩ = some (.string s)
  place : w.cell? ⟨b, 1, none⟩ = some (.int .i64 a)
  free : w.frozen? ⟨b, 1, none⟩ = false
  size : s.size ≤ 9223372036854775807
  in_ : a ≤ s.size

theorem width_any (n : Int) (w : World) :
    Calls Try.prog 38 #[.int .i64 n] w fun e w' => e = .returned (.int .i64 (wid n)) ∧ w = w' := by
  by_cases h1 : n < 0
  · rw [show wid n = 0 by unfold wid; (repeat' split) <;> omega]
    go_enter Try.func38, Try.ntmps38
    go_wp2
    go_ret
    exact ⟨rfl, rfl⟩
  by_cases h2 : 8 < n
  · rw [show wid n = 8 by unfold wid; (repeat' split) <;> omega]
    go_enter Try.func38, Try.ntmps38
    go_wp2
    go_ret
    exact ⟨rfl, rfl⟩
  rw [show wid n = n by unfold wid; (repeat' split) <;> omega]
  go_enter Try.func38, Try.ntmps38
  go_wp2
  go_ret
  exact ⟨rfl, rfl⟩

theorem Rd.drewN {w : World} {b : Nat} {s : ByteArray} {a : Nat} (h : Rd w b s a) (n : Nat) : Rd (w.drewN n) b s a := ⟨h.text, h.place, h.free, h.size, h.in_⟩

/-- A reader that has gone on; what the world's other blocks hold stays. -/
theorem Rd.gone {w : World} {b : Nat} {s : ByteArray} {a : Nat} (h : Rd w b s a) (m : Nat) (hm : a + m ≤ s.size) (i j : Nat) :
    Rd (((w.drewN i).setCell ⟨b, 1, none⟩ (.int .i64 ((a : Int) + m))).drewN j) b s (a + m) ∧ w.grownBy (((w.drewN i).setCell ⟨b, 1, none⟩ (.int .i64 ((a : Int) + m))).drewN j) (some b) := by
  have h1 : (w.drewN i).cell? ⟨b, 1, none⟩ = some (.int .i64 a) := h.place
  have h0 : (w.drewN i).cell? ⟨b, 0, none⟩ = some (.string s) := h.text
  have hf : (w.drewN i).frozen? ⟨b, 1, none⟩ = false := h.free
  refine ⟨⟨?_, ?_, ?_, h.size, hm⟩, ⟨rfl, rfl, rfl, by simp [World.setCell, World.drewN], fun k hk hne => ?_⟩⟩
  · show ((w.drewN i).setCell ⟨b, 1, none⟩ _).cell? ⟨b, 0, none⟩ = _
    rw [World.cell?_setCell_other _ _ _ _ (by simp)]; exact h0
  · show ((w.drewN i).setCell ⟨b, 1, none⟩ _).cell? ⟨b, 1, none⟩ = _
    rw [World.cell?_setCell_same' _ _ _ (by rw [h1]; rfl)]; simp
  · show ((w.drewN i).setCell ⟨b, 1, none⟩ _).frozen? ⟨b, 1, none⟩ = _
    simp [hf]
  · show ((w.drewN i).setCell ⟨b, 1, none⟩ _).heap[k]? = _
    rw [Below.heap_setCell _ _ _ _ (by rintro rfl; exact hne rfl)]; rfl

end Go.Proofs.Ytimdemidnleiiaa
