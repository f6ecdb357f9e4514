/- What is wrong with a frame. -/
import Derived.Test.YtibngfpjdookkaaFrameMath
import Derived.Test.YtibngfpjdookkaaBel
set_option linter.unusedVariables false
set_option linter.unusedSimpArgs false
namespace Go.Proofs.Ytibngfpjdookkaa
open Go.RowKit

theorem process_any (p : Int) (w : World) :
    Calls Try.prog 81 #[.int .i64 p] w fun e w' => e = .returned (.bool (decide (0 ≤ p ∧ p < 64))) ∧ w = w' := by
  by_cases h0 : 0 ≤ p
  · by_cases h1 : p < 64
    · rw [decide_eq_true ⟨h0, h1⟩]
      go_enter Try.func81, Try.ntmps81
      go_wp2
      go_ret
      exact ⟨rfl, rfl⟩
    · rw [decide_eq_false (fun h => h1 h.2)]
      go_enter Try.func81, Try.ntmps81
      go_wp2
      go_ret
      exact ⟨rfl, rfl⟩
  · rw [decide_eq_false (fun h => h0 h.1)]
    go_enter Try.func81, Try.ntmps81
    go_wp2
    go_ret
    exact ⟨rfl, rfl⟩

set_option maxHeartbeats 1000000 in
theorem fault_any (k f t : Int) (b : ByteArray) (n : Int) (w : World) :
    Calls Try.prog 61 #[.agg #[.int .i64 k, .int .i64 f, .int .i64 t, .string b], .int .i64 n] w fun e w' => e = .returned (.int .i64 (fcode k f t n)) ∧ Grw w w' := by
  by_cases hk : k < 1 ∨ 11 < k
  · rw [fcode_kind hk]
    rcases hk with hk | hk
    · go_enter Try.func61, Try.ntmps61
      go_wp2
      go_ret
      exact ⟨rfl, (Grw.refl _).alloc _⟩
    · have hk1 : ¬ k < 1 := by omega
      go_enter Try.func61, Try.ntmps61
      go_wp2
      go_ret
      exact ⟨rfl, (Grw.refl _).alloc _⟩
  have hk1 : ¬ k < 1 := by omega
  have hk2 : ¬ 11 < k := by omega
  have pf := fun W => process_any f W
  have pt := fun W => process_any t W
  by_cases hf : 0 ≤ f ∧ f < 64
  · rw [decide_eq_true hf] at pf
    by_cases ht : 0 ≤ t ∧ t < 64
    · rw [decide_eq_true ht] at pt
      have hr : ¬ (f < 0 ∨ 64 ≤ f ∨ t < 0 ∨ 64 ≤ t) := by omega
      by_cases hn : 32768 < n
      · rw [fcode_long hk hr hn]
        clear hk hf ht hr
        go_enter Try.func61, Try.ntmps61
        go_wp2_with fail
        refine (pf _).mono ?_
        rintro e w1 ⟨rfl, rfl⟩
        go_wp2_with fail
        refine (pt _).mono ?_
        rintro e w1 ⟨rfl, rfl⟩
        go_wp2
        go_ret
        exact ⟨rfl, (Grw.refl _).alloc _⟩
      · rw [fcode_ok hk hr hn]
        clear hk hf ht hr
        go_enter Try.func61, Try.ntmps61
        go_wp2_with fail
        refine (pf _).mono ?_
        rintro e w1 ⟨rfl, rfl⟩
        go_wp2_with fail
        refine (pt _).mono ?_
        rintro e w1 ⟨rfl, rfl⟩
        go_wp2
        go_ret
        exact ⟨rfl, (Grw.refl _).alloc _⟩
    · rw [decide_eq_false ht] at pt
      rw [fcode_range hk (by omega)]
      clear hk hf ht
      go_enter Try.func61, Try.ntmps61
      go_wp2_with fail
      refine (pf _).mono ?_
      rintro e w1 ⟨rfl, rfl⟩
      go_wp2_with fail
      refine (pt _).mono ?_
      rintro e w1 ⟨rfl, rfl⟩
      go_wp2
      go_ret
      exact ⟨rfl, (Grw.refl _).alloc _⟩
  · rw [decide_eq_false hf] at pf
    rw [fcode_range hk (by omega)]
    clear hk hf
    go_enter Try.func61, Try.ntmps61
    go_wp2_with fail
    refine (pf _).mono ?_
    rintro e w1 ⟨rfl, rfl⟩
    go_wp2
    go_ret
    exact ⟨rfl, (Grw.refl _).alloc _⟩
end Go.Proofs.Ytibngfpjdookkaa
