/- The contracts of package cmp's instances, and of the two orders: Compare, Confs, Of, messages; the document's. -/
import Derived.Test.YthgdiihibjnhoaaRows
import Derived.Test.YthgdiihibjnhoaaKeyMath
import Derived.WalkKit
import Derived.ProofKit
import Derived.OpenShut
import Derived.Sort.Grow
import Derived.Laws.Rows
import Derived.Below
set_option linter.unusedVariables false
set_option linter.unusedSimpArgs false
namespace Go.Proofs.Ythgdiihibjnhoaa
open Go.RowKit

theorem nanI (x : Int) (w : World) : Calls Try.prog 34 #[.int .i64 x] w fun e w' => e = .returned (.bool false) ∧ w = w' := by
  go_enter Try.func34, Try.ntmps34
  go_wp2
  go_ret
  exact ⟨rfl, rfl⟩
theorem nanU (x : Int) (w : World) : Calls Try.prog 33 #[.int .u64 x] w fun e w' => e = .returned (.bool false) ∧ w = w' := by
  go_enter Try.func33, Try.ntmps33
  go_wp2
  go_ret
  exact ⟨rfl, rfl⟩
theorem cmpI (x y : Int) (w : World) : Calls Try.prog 25 #[.int .i64 x, .int .i64 y] w fun e w' => e = .returned (.int .i64 (kc x y)) ∧ w = w' := by
  by_cases h : x < y
  · rw [kc_lt h]
    go_enter Try.func25, Try.ntmps25
    go_wp2_with (go_at_call 34; refine (nanI _ _).mono ?_; rintro e w' ⟨rfl, rfl⟩)
    go_ret
    exact ⟨rfl, rfl⟩
  · by_cases h2 : y < x
    · rw [kc_gt h2]
      go_enter Try.func25, Try.ntmps25
      go_wp2_with (go_at_call 34; refine (nanI _ _).mono ?_; rintro e w' ⟨rfl, rfl⟩)
      go_ret
      exact ⟨rfl, rfl⟩
    · rw [kc_eq (by omega)]
      go_enter Try.func25, Try.ntmps25
      go_wp2_with (go_at_call 34; refine (nanI _ _).mono ?_; rintro e w' ⟨rfl, rfl⟩)
      go_ret
      exact ⟨rfl, rfl⟩
theorem cmpU (x y : Int) (w : World) : Calls Try.prog 24 #[.int .u64 x, .int .u64 y] w fun e w' => e = .returned (.int .i64 (kc x y)) ∧ w = w' := by
  by_cases h : x < y
  · rw [kc_lt h]
    go_enter Try.func24, Try.ntmps24
    go_wp2_with (go_at_call 33; refine (nanU _ _).mono ?_; rintro e w' ⟨rfl, rfl⟩)
    go_ret
    exact ⟨rfl, rfl⟩
  · by_cases h2 : y < x
    · rw [kc_gt h2]
      go_enter Try.func24, Try.ntmps24
      go_wp2_with (go_at_call 33; refine (nanU _ _).mono ?_; rintro e w' ⟨rfl, rfl⟩)
      go_ret
      exact ⟨rfl, rfl⟩
    · rw [kc_eq (by omega)]
      go_enter Try.func24, Try.ntmps24
      go_wp2_with (go_at_call 33; refine (nanU _ _).mono ?_; rintro e w' ⟨rfl, rfl⟩)
      go_ret
      exact ⟨rfl, rfl⟩

set_option maxHeartbeats 1000000 in
theorem or_two (a b : Int) (g c : Nat) (w : World) (h0 : w.cell? ⟨g, 0, none⟩ = some (.int .i64 a)) (h1 : w.cell? ⟨g, 1, none⟩ = some (.int .i64 b)) :
    Calls Try.prog 23 #[.slice (some ⟨g, 0, none⟩) 2 c] w fun e w' => e = .returned (.int .i64 (orv a b)) ∧ w = w' := by
  by_cases ha : a = 0
  · rw [orv_zero ha]
    subst ha
    go_enter Try.func23, Try.ntmps23
    go_wp2
    go_loop [8] (fun i => ∃ k : Nat, k ≤ 2 ∧ i = .int .i64 k ∧ (k = 2 → b = 0)) (fun i => 2 - (intOf i).toNat)
    case atStart => exact ⟨0, by omega, rfl, by omega⟩
    case round =>
      obtain ⟨k, hk, rfl, hz⟩ := hrel
      by_cases hk0 : k = 0
      · subst hk0
        clear hz
        go_wp2
        go_round
        case rel => exact ⟨1, by omega, by go_num, by omega⟩
        case measure => simp [intOf]
      · by_cases hk1 : k = 1
        · subst hk1
          clear hz
          by_cases hb : b = 0
          · subst hb
            go_wp2
            go_round
            case rel => exact ⟨2, by omega, by go_num, by intros; trivial⟩
            case measure => simp [intOf]
          · go_wp2
            go_ret
            exact ⟨rfl, rfl⟩
        · obtain rfl : k = 2 := by omega
          have hb := hz rfl
          subst hb
          clear hz
          go_wp2
          go_ret
          exact ⟨rfl, rfl⟩
  · rw [orv_else ha]
    go_enter Try.func23, Try.ntmps23
    go_wp2
    go_loop [8] (fun i => i = .int .i64 0) (fun i => 2 - (intOf i).toNat)
    case atStart => rfl
    case round =>
      subst hrel
      go_wp2
      go_ret
      exact ⟨rfl, rfl⟩
end Go.Proofs.Ythgdiihibjnhoaa
