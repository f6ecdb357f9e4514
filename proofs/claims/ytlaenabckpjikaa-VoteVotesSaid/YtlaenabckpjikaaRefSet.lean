/- The contracts of the document's own Set, Has, Both, Any, But, In, All. -/
import Derived.Test.YtlaenabckpjikaaRefTruths
set_option linter.unusedVariables false
set_option linter.unusedSimpArgs false
namespace Go.Proofs.Ytlaenabckpjikaa
open Go.RowKit

theorem num_step (h : Nat) (hh : h < 2 ^ 63) (b : Bool) : IntKind.u64.wrap ((h : Int) * 2) = (h : Int) * 2 ∧ IntKind.u64.wrap ((h : Int) * 2 + 1) = ((h * 2 + 1 : Nat) : Int) := by
  have e : (2 : Nat) ^ 63 = 9223372036854775808 := by decide
  rw [e] at hh
  rw [IntKind.wrap_u64, IntKind.wrap_u64]
  omega

set_option maxHeartbeats 1000000 in
theorem refSet_any (f : Nat → Bool) (w : World) :
    Calls Try.prog 37 #[.agg (truths f)] w fun e w' => e = .returned (.int .u64 (num f : Nat)) ∧ Below w.heap.size w w' := by
  go_enter Try.func37, Try.ntmps37
  go_wp2
  go_loopw [3, 4] (fun s i wr => ∃ k : Nat, k ≤ 64 ∧ i = .int .i64 (63 - (k : Int)) ∧ s = .int .u64 (hi f k : Nat) ∧ Row wr w.heap.size f ∧ Below w.heap.size w wr)
    (fun _ i _ => (intOf i + 1).toNat)
  case atStart => exact ⟨0, Nat.zero_le _, rfl, rfl, ⟨heap_alloc_new _ _⟩, (Below.refl _ _).alloc (Nat.le_refl _) _⟩
  case round =>
    obtain ⟨k, hk, rfl, rfl, h3, hnx⟩ := hrel
    by_cases hlt : k < 64
    · obtain ⟨j, hj⟩ : ∃ j : Nat, (63 : Int) - k = j := ⟨63 - k, by omega⟩
      have hj2 : j = 63 - k := by omega
      have hc := h3.cell j (by omega)
      have hl := hi_lt f k
      have hl2 : hi f k < 2 ^ 63 := Nat.lt_of_lt_of_le hl (Nat.pow_le_pow_right (by decide) (by omega))
      obtain ⟨e1, e2⟩ := num_step (hi f k) hl2 true
      have HI := Lib.hid (show hi f (k + 1) = hi f k * 2 + (f j).toNat by rw [hj2]; rfl)
      have HJ := Lib.hid hj
      rw [hj]
      have hj64 : j < 64 := by omega
      clear hj hj2 hl hl2
      cases hb : f j with
      | true =>
        rw [hb] at hc
        have HB := Lib.hid hb
        clear hb
        go_wp2
        go_roundw
        case rel => exact ⟨k + 1, by omega, by have := HJ.out; rw [show (j : Int) - 1 = 63 - ((k + 1 : Nat) : Int) by omega], by rw [HI.out, HB.out]; rfl, h3, hnx⟩
        case measure => simp [intOf]
      | false =>
        rw [hb] at hc
        have HB := Lib.hid hb
        clear hb
        go_wp2
        go_roundw
        case rel => exact ⟨k + 1, by omega, by have := HJ.out; rw [show (j : Int) - 1 = 63 - ((k + 1 : Nat) : Int) by omega], by rw [HI.out, HB.out]; rfl, h3, hnx⟩
        case measure => simp [intOf]
    · have hk2 : k = 64 := by omega
      subst hk2
      rw [show (63 : Int) - ((64 : Nat) : Int) = -1 by decide]
      go_wp2
      go_ret
      exact ⟨rfl, hnx⟩

theorem wf_u64 {a : Int} (h : (Lit.int .u64 a).wf = true) : 0 ≤ a ∧ a ≤ 18446744073709551615 := by
  have := Go.bounds_u64 h
  omega
theorem wf_i64 {a : Int} (h : (Lit.int .i64 a).wf = true) : -9223372036854775808 ≤ a ∧ a ≤ 9223372036854775807 := by
  have := Go.bounds_i64 h
  omega
/-- An element of 64 truths. -/
theorem index_truths (f : Nat → Bool) (k : Nat) (h : k < 64) (W : World) : (Instr.index 71 (.agg (truths f)) (.int .i64 (k : Int))).run Try.prog W = .ok (.bool (f k)) W := by
  have hk : (0 : Int) ≤ k ∧ (k : Int) < 64 := by omega
  have hs : (sizeOf 4).run Try.prog W = .ok 1 W := by kernel_rfl
  simp [Instr.index, run_underlying Try.underlying71, asIntOf, hk, go_sem]
  rw [if_pos h, truths_get f k h]
  rfl
end Go.Proofs.Ytlaenabckpjikaa
