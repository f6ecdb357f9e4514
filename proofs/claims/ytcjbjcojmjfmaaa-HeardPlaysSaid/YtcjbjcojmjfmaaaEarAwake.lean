/- The answers that the document fixes first. -/
import Derived.Test.YtcjbjcojmjfmaaaEarStrange
set_option linter.unusedVariables false
set_option linter.unusedSimpArgs false
namespace Go.Proofs.Ytcjbjcojmjfmaaa
open Go.RowKit Go.Sort

theorem Eared.later {w w1 w2 : World} {g : Nat} {E : Er} (h : Below w.heap.size w w1) (k : Eared w1 w2 g E) (hg : w.heap.size ≤ g) : Below w.heap.size w w2 :=
  h.grown k.gr h.size (fun k hk => by cases hk; exact hg)
def aE0 : Er := earN 0 3 2
def aE1 : Er := hearE aE0 1
def aE2 : Er := beatE aE1 2 ⟨4, 0, 0, 0, 3⟩
def aE3 : Er := tickE aE2
def aE4 : Er := tickE aE3
def aE5 : Er := tickE aE4
theorem a_reach4 : reachE aE4 = 7 := by decide +kernel
theorem a_reach5 : reachE aE5 = 1 := by decide +kernel
theorem a_of : ofB aE5 2 = ⟨4, 0, 0, 0, 3⟩ ∧ ofO aE5 2 = true := by decide +kernel
theorem a_epoch : epochE aE5 = 4 := by decide +kernel
theorem a_strange : strangeE aE5 7 9 0 = 4 := by decide +kernel
theorem a_below : (below 3 : Nat) = 7 := by decide +kernel
theorem a_two : (ofl [2] : Nat) = 4 := by decide +kernel
theorem a_clock : aE2.clock ≤ 1000000 ∧ aE3.clock ≤ 1000000 ∧ aE4.clock ≤ 1000000 := by decide +kernel
set_option maxHeartbeats 4000000 in
theorem eawake (w : World) : Calls Try.prog 7 #[] w fun e w' => e = .returned (.bool true) ∧ Below w.heap.size w w' := by
  obtain ⟨g, hg⟩ : ∃ g, g = w.heap.size + 1 := ⟨_, rfl⟩
  have hgw : w.heap.size ≤ g := by omega
  have H0 : Hid (Calls Try.prog 8 #[.int .i64 0, .int .i64 3, .int .i64 2] w fun e w' => e = .returned (.pointer (some ⟨g, 0, none⟩)) ∧ EarAt w' g aE0 ∧ Below w.heap.size w w') := Lib.hid (by rw [hg]; exact enew 0 3 2 w (by decide) (by decide) (by decide) (by decide) (by decide) (by decide))
  clear hg
  go_enter Try.func7, Try.ntmps7
  go_wp2_with fail
  refine H0.out.mono ?_
  rintro e w1 ⟨rfl, A0, L1⟩
  have H1 : Hid (Calls Try.prog 10 #[.pointer (some ⟨g, 0, none⟩), .int .i64 1] w1 fun e w' => e = .returned (.tuple #[]) ∧ Eared w1 w' g aE1) := Lib.hid (ehear A0 1 (by decide) (by decide))
  clear H0 A0
  go_wp2_with fail
  refine H1.out.mono ?_
  rintro e w2 ⟨rfl, A1⟩
  have L2 := Eared.later L1 A1 hgw
  have H2 : Hid (Calls Try.prog 12 #[.pointer (some ⟨g, 0, none⟩), .int .i64 2, .agg #[.int .u64 4, .int .i64 0, .int .u64 0, .int .i64 0, .int .u64 3]] w2 fun e w' => e = .returned (.tuple #[]) ∧ Eared w2 w' g aE2) := Lib.hid (ebeat A1.at_ 2 (by decide) (by decide) ⟨4, 0, 0, 0, 3⟩ ⟨by decide, by decide, by decide, by decide, by decide, by decide, by decide⟩)
  clear H1 A1 L1
  go_wp2_with fail
  refine H2.out.mono ?_
  rintro e w3 ⟨rfl, A2⟩
  have L3 := Eared.later L2 A2 hgw
  have H3 : Hid (Calls Try.prog 9 #[.pointer (some ⟨g, 0, none⟩)] w3 fun e w' => e = .returned (.tuple #[]) ∧ Eared w3 w' g aE3) := Lib.hid (etick A2.at_ a_clock.1)
  clear H2 A2 L2
  go_wp2_with fail
  refine H3.out.mono ?_
  rintro e w4 ⟨rfl, A3⟩
  have L4 := Eared.later L3 A3 hgw
  have H4 : Hid (Calls Try.prog 9 #[.pointer (some ⟨g, 0, none⟩)] w4 fun e w' => e = .returned (.tuple #[]) ∧ Eared w4 w' g aE4) := Lib.hid (etick A3.at_ a_clock.2.1)
  clear H3 A3 L3
  go_wp2_with fail
  refine H4.out.mono ?_
  rintro e w5 ⟨rfl, A4⟩
  have L5 := Eared.later L4 A4 hgw
  have H5 : Hid (Calls Try.prog 16 #[.pointer (some ⟨g, 0, none⟩)] w5 fun e w' => e = .returned (.int .u64 7) ∧ Below w5.heap.size w5 w') := Lib.hid (by have := ereach A4.at_; rw [a_reach4] at this; exact this)
  have A4 := Lib.hid A4.at_
  clear H4 L4
  go_wp2_with fail
  refine H5.out.mono ?_
  rintro e w6 ⟨rfl, B6⟩
  have L6 := L5.trans (B6.mono L5.size)
  have H6 : Hid (Calls Try.prog 9 #[.pointer (some ⟨g, 0, none⟩)] w6 fun e w' => e = .returned (.tuple #[]) ∧ Eared w6 w' g aE5) := Lib.hid (etick (A4.out.below B6) a_clock.2.2)
  clear H5 A4 L5 B6
  go_wp2_with fail
  refine H6.out.mono ?_
  rintro e w7 ⟨rfl, A5⟩
  have L7 := Eared.later L6 A5 hgw
  have H7 : Hid (Calls Try.prog 14 #[.pointer (some ⟨g, 0, none⟩), .int .i64 2] w7 fun e w' => e = .returned (.tuple #[.agg #[.int .u64 4, .int .i64 0, .int .u64 0, .int .i64 0, .int .u64 3], .bool true]) ∧ Below w7.heap.size w7 w') := Lib.hid (by have := eof A5.at_ 2 (by decide) (by decide); rw [a_of.1, a_of.2] at this; exact this)
  have A5 := Lib.hid A5.at_
  clear H6 L6
  go_upto_region 11 with (first | (go_at_call 14; refine H7.out.mono ?_; rintro e w8 ⟨rfl, B8⟩) | (refine store_bt rfl (.tmp 3) (.tmp 25) rfl w8.heap.size ⟨4, 0, 0, 0, 3⟩ rfl rfl (BtB.zero w8) ?_))
  (try simp only [Act.put])
  obtain ⟨RB, LB⟩ : BtB ((w8.alloc (.cells #[.int .u64 0, .int .i64 0, .int .u64 0, .int .i64 0, .int .u64 0] 33)).setRow w8.heap.size #[.int .u64 4, .int .i64 0, .int .u64 0, .int .i64 0, .int .u64 3]) w8.heap.size ⟨4, 0, 0, 0, 3⟩ ∧ Below w8.heap.size w8 ((w8.alloc (.cells #[.int .u64 0, .int .i64 0, .int .u64 0, .int .i64 0, .int .u64 0] 33)).setRow w8.heap.size #[.int .u64 4, .int .i64 0, .int .u64 0, .int .i64 0, .int .u64 3]) := btb_put w8 ⟨4, 0, 0, 0, 3⟩
  have A8 := (A5.out.below B8).below LB
  have L8 := (L7.trans (B8.mono L7.size)).trans (LB.mono (Nat.le_trans L7.size B8.size))
  clear LB B8 L7 H7 A5
  generalize ((w8.alloc (.cells #[.int .u64 0, .int .i64 0, .int .u64 0, .int .i64 0, .int .u64 0] 33)).setRow w8.heap.size #[.int .u64 4, .int .i64 0, .int .u64 0, .int .i64 0, .int .u64 3]) = V at *
  generalize w8.heap.size = bb at *
  have d4 : V.cell? ⟨bb, 4, none⟩ = some (.int .u64 3) := RB.d4
  have H8 : Hid (Calls Try.prog 16 #[.pointer (some ⟨g, 0, none⟩)] V fun e w' => e = .returned (.int .u64 1) ∧ Below V.heap.size V w') := Lib.hid (by have := ereach A8; rw [a_reach5] at this; exact this)
  have A8 := Lib.hid A8
  clear RB
  go_wp2_with fail
  refine H8.out.mono ?_
  rintro e w9 ⟨rfl, B9⟩
  have d4 := cell_later B9 d4
  have A9 := A8.out.below B9
  have L9 := L8.trans (B9.mono L8.size)
  have H9 : Hid (Calls Try.prog 18 #[.pointer (some ⟨g, 0, none⟩)] w9 fun e w' => e = .returned (.int .u64 4) ∧ Below w9.heap.size w9 w') := Lib.hid (by have := eepoch A9; rw [a_epoch] at this; exact this)
  have A9 := Lib.hid A9
  clear H8 A8 L8 B9
  go_wp2_with fail
  refine H9.out.mono ?_
  rintro e w10 ⟨rfl, B10⟩
  have A10 := A9.out.below B10
  have L10 := L9.trans (B10.mono L9.size)
  have H10 : Hid (Calls Try.prog 26 #[.int .i64 3] w10 fun e w' => e = .returned (.int .u64 7) ∧ w10 = w') := Lib.hid (by have := all_any 3 w10 (by decide) (by decide); rw [a_below] at this; exact this)
  have H11 : Hid (Calls Try.prog 20 #[.pointer (some ⟨g, 0, none⟩), .int .u64 7, .agg #[.int .u64 9, .int .i64 0]] w10 fun e w' => e = .returned (.int .u64 4) ∧ Below w10.heap.size w10 w') := Lib.hid (by have := estrange A10 7 (by decide) 9 0; rw [a_strange] at this; exact this)
  clear H9 A9 L9 B10 A10 d4
  go_wp2_with fail
  refine H10.out.mono ?_
  rintro e w' ⟨rfl, rfl⟩
  go_wp2_with fail
  refine H11.out.mono ?_
  rintro e w11 ⟨rfl, B11⟩
  have L11 := L10.trans (B11.mono L10.size)
  have L12 := Lib.hid (L11.trans (((Grw.refl w11).alloc (.cells #[.int .i64 2] 3)).below.mono L11.size))
  have H12 : Hid (Calls Try.prog 23 #[.slice (some ⟨w11.heap.size, 0, none⟩) 1 1] (w11.alloc (.cells #[.int .i64 2] 3)) fun e w' => e = .returned (.int .u64 4) ∧ (w11.alloc (.cells #[.int .i64 2] 3)) = w') := Lib.hid (by have := of_any (some ⟨w11.heap.size, 0, none⟩) 1 1 [2] _ (InI.one w11 2 (by decide) (by decide)) (by decide); rw [a_two] at this; exact this)
  clear H10 H11 L10 B11 L11
  go_wp2_with fail
  refine H12.out.mono ?_
  rintro e w' ⟨rfl, rfl⟩
  go_wp2
  go_ret
  exact ⟨rfl, L12.out⟩
end Go.Proofs.Ytcjbjcojmjfmaaa
