/- The answers that the document fixes first. -/
import Derived.Test.YtlmajpckgjnbdaaLinkLag
set_option linter.unusedVariables false
set_option linter.unusedSimpArgs false
namespace Go.Proofs.Ytlmajpckgjnbdaa
open Go.RowKit Go.Sort

theorem InI.two (w : World) (x y : Int) (hx0 : -9223372036854775808 ≤ x) (hx1 : x ≤ 9223372036854775807) (hy0 : -9223372036854775808 ≤ y) (hy1 : y ≤ 9223372036854775807) : InI (w.alloc (.cells #[.int .i64 x, .int .i64 y] 3)) (some ⟨w.heap.size, 0, none⟩) 2 [x, y] := ⟨rfl, fun j v hj => ⟨_, rfl, by
    match j with
    | 0 => simp at hj; subst hj; simp [Addr.add]
    | 1 => simp at hj; subst hj; simp [Addr.add]
    | j + 2 => simp at hj⟩, fun v hv => by simp at hv; rcases hv with rfl | rfl <;> omega⟩
def aW0 : Wn := newN 0 3 2
def aW1 : Wn := nextN aW0 0
def aW2 : Wn := nextN aW1 0
def aW3 : Wn := nextN aW2 0
def aW4 : Wn := gotN aW3 1 1
def aW5 : Wn := nextN aW4 0
theorem a_of : (ofl [0, 1] : Nat) = 3 := by decide +kernel
theorem a_one : (ofl [1] : Nat) = 2 := by decide +kernel
theorem a_1 : numN aW0 0 = 1 ∧ codeN aW0 0 = 0 ∧ aW0.sent ≤ 1000000 := by decide +kernel
theorem a_2 : numN aW1 0 = 2 ∧ codeN aW1 0 = 0 ∧ aW1.sent ≤ 1000000 := by decide +kernel
theorem a_3 : numN aW2 0 = 0 ∧ codeN aW2 0 = 6 ∧ aW2.sent ≤ 1000000 := by decide +kernel
theorem a_5 : numN aW4 0 = 3 ∧ codeN aW4 0 = 0 ∧ aW4.sent ≤ 1000000 := by decide +kernel
theorem a_end : lowN aW5 = 1 ∧ aW5.sent = 3 ∧ lagN aW5 = 2 ∧ ofN aW5 0 = 3 := by decide +kernel
set_option maxHeartbeats 4000000 in
theorem lawake (w : World) : Calls Try.prog 7 #[] w fun e w' => e = .returned (.bool true) ∧ Below w.heap.size w w' := by
  have HO := of_any (some ⟨w.heap.size, 0, none⟩) 2 2 [0, 1] _ (InI.two w 0 1 (by decide) (by decide) (by decide) (by decide)) (by decide)
  rw [a_of] at HO
  obtain ⟨g, hg⟩ : ∃ g, g = (w.alloc (.cells #[.int .i64 0, .int .i64 1] 3)).heap.size + 1 := ⟨_, rfl⟩
  have hgw : w.heap.size ≤ g := by rw [hg]; simp; omega
  have H0 := lnew 0 2 3 (w.alloc (.cells #[.int .i64 0, .int .i64 1] 3)) (by decide) (by decide) (by decide) (by decide) (by decide)
  rw [← hg] at H0
  have H0 := Lib.hid H0
  have L0 := Lib.hid ((Grw.refl w).alloc (.cells #[.int .i64 0, .int .i64 1] 3)).below
  clear hg
  go_enter Try.func7, Try.ntmps7
  go_wp2_with fail
  refine HO.mono ?_
  rintro e w' ⟨rfl, rfl⟩
  go_wp2_with fail
  refine H0.out.mono ?_
  rintro e w1 ⟨rfl, A1, L1⟩
  have L1 := L0.out.trans (L1.mono (by simp))
  have H1 : Hid (Calls Try.prog 12 #[.pointer (some ⟨g, 0, none⟩), .int .i64 0] w1 fun e w' => e = .returned (.tuple #[.int .u32 1, .int .i64 0]) ∧ Linked w1 w' g aW1) := Lib.hid (by have := lnext (W := aW0) A1 0 (by decide) (by decide) a_1.2.2; rw [a_1.1, a_1.2.1] at this; exact this)
  clear A1 H0 HO L0
  go_wp2_with fail
  refine H1.out.mono ?_
  rintro e w2 ⟨rfl, K⟩
  have L2 := Linked.later L1 K hgw
  have A2 := K.at_
  clear K H1
  have H2 : Hid (Calls Try.prog 12 #[.pointer (some ⟨g, 0, none⟩), .int .i64 0] w2 fun e w' => e = .returned (.tuple #[.int .u32 2, .int .i64 0]) ∧ Linked w2 w' g aW2) := Lib.hid (by have := lnext (W := aW1) A2 0 (by decide) (by decide) a_2.2.2; rw [a_2.1, a_2.2.1] at this; exact this)
  clear A2 L1
  go_wp2_with fail
  refine H2.out.mono ?_
  rintro e w3 ⟨rfl, K⟩
  have L3 := Linked.later L2 K hgw
  have A3 := K.at_
  clear K H2
  have H3 : Hid (Calls Try.prog 12 #[.pointer (some ⟨g, 0, none⟩), .int .i64 0] w3 fun e w' => e = .returned (.tuple #[.int .u32 0, .int .i64 6]) ∧ Linked w3 w' g aW3) := Lib.hid (by have := lnext (W := aW2) A3 0 (by decide) (by decide) a_3.2.2; rw [a_3.1, a_3.2.1] at this; exact this)
  clear A3 L2
  go_wp2_with fail
  refine H3.out.mono ?_
  rintro e w4 ⟨rfl, K⟩
  have L4 := Linked.later L3 K hgw
  have A4 := K.at_
  clear K H3
  have H4 : Hid (Calls Try.prog 14 #[.pointer (some ⟨g, 0, none⟩), .int .i64 1, .int .u32 1] w4 fun e w' => e = .returned (.tuple #[]) ∧ Linked w4 w' g aW4) := Lib.hid (lgot (W := aW3) A4 1 (by decide) (by decide) 1 (by decide))
  clear A4 L3
  go_wp2_with fail
  refine H4.out.mono ?_
  rintro e w5 ⟨rfl, K⟩
  have L5 := Linked.later L4 K hgw
  have A5 := K.at_
  clear K H4
  have H5 : Hid (Calls Try.prog 12 #[.pointer (some ⟨g, 0, none⟩), .int .i64 0] w5 fun e w' => e = .returned (.tuple #[.int .u32 3, .int .i64 0]) ∧ Linked w5 w' g aW5) := Lib.hid (by have := lnext (W := aW4) A5 0 (by decide) (by decide) a_5.2.2; rw [a_5.1, a_5.2.1] at this; exact this)
  clear A5 L4
  go_wp2_with fail
  refine H5.out.mono ?_
  rintro e w6 ⟨rfl, K⟩
  have L6 := Linked.later L5 K hgw
  have A6 := K.at_
  clear K H5
  have HL : Hid (Calls Try.prog 17 #[.pointer (some ⟨g, 0, none⟩)] w6 fun e w' => e = .returned (.int .u32 1) ∧ w6 = w') := Lib.hid (by have := llow (W := aW5) A6; rw [a_end.1] at this; exact this)
  have HS : Hid (Calls Try.prog 16 #[.pointer (some ⟨g, 0, none⟩)] w6 fun e w' => e = .returned (.int .u32 3) ∧ w6 = w') := Lib.hid (by have := lsent (W := aW5) A6; rw [a_end.2.1] at this; exact this)
  have HG : Hid (Calls Try.prog 19 #[.pointer (some ⟨g, 0, none⟩)] w6 fun e w' => e = .returned (.int .u64 2) ∧ Below w6.heap.size w6 w') := Lib.hid (by have := llag (W := aW5) A6; rw [a_end.2.2.1] at this; exact this)
  have A6 := Lib.hid A6
  have L6 := Lib.hid L6
  clear L5
  go_wp2_with (first | (go_at_call 17; refine HL.out.mono ?_; rintro e w' ⟨rfl, rfl⟩) | (go_at_call 16; refine HS.out.mono ?_; rintro e w' ⟨rfl, rfl⟩) | fail)
  refine HG.out.mono ?_
  rintro e w7 ⟨rfl, B7⟩
  have L7 := L6.out.trans (B7.mono L6.out.size)
  have A7 := A6.out.below B7
  have HT : Hid (Calls Try.prog 25 #[.slice (some ⟨w7.heap.size, 0, none⟩) 1 1] (w7.alloc (.cells #[.int .i64 1] 3)) fun e w' => e = .returned (.int .u64 2) ∧ (w7.alloc (.cells #[.int .i64 1] 3)) = w') := Lib.hid (by have := of_any (some ⟨w7.heap.size, 0, none⟩) 1 1 [1] _ (InI.one w7 1 (by decide) (by decide)) (by decide); rw [a_one] at this; exact this)
  have B8 := ((Grw.refl w7).alloc (.cells #[.int .i64 1] 3)).below
  have A8 := A7.below B8
  have L8 := Lib.hid (L7.trans (B8.mono L7.size))
  have HF : Hid (Calls Try.prog 21 #[.pointer (some ⟨g, 0, none⟩), .int .i64 0] (w7.alloc (.cells #[.int .i64 1] 3)) fun e w' => e = .returned (.int .u32 3) ∧ (w7.alloc (.cells #[.int .i64 1] 3)) = w') := Lib.hid (by have := lof (W := aW5) A8 0 (by decide) (by decide); rw [a_end.2.2.2] at this; exact this)
  clear A6 L6 HL HS HG B7 B8 A7 A8 L7
  go_wp2_with fail
  refine HT.out.mono ?_
  rintro e w' ⟨rfl, rfl⟩
  go_wp2_with fail
  refine HF.out.mono ?_
  rintro e w' ⟨rfl, rfl⟩
  go_wp2
  go_ret
  exact ⟨rfl, L8.out⟩
end Go.Proofs.Ytlmajpckgjnbdaa
