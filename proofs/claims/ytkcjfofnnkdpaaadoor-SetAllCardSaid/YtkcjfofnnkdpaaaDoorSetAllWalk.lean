/- The walk of 'SetAll'. -/
import Derived.Test.YtkcjfofnnkdpaaaDoorSetAwake
import Derived.Test.YtkcjfofnnkdpaaaDoorSetLaws
set_option linter.unusedVariables false
set_option linter.unusedSimpArgs false
namespace Go.Proofs.YtkcjfofnnkdpaaaDoor
open Go.RowKit

/-- A number that an int holds. -/
structure I64 (n : Int) : Prop where
  lo : -9223372036854775808 ≤ n
  hi : n ≤ 9223372036854775807
theorem all_fit (n r : Int) (w : World) (hr : ((below n : Nat) : Int) = r) (h : I64 n) :
    Calls Tryd.prog 29 #[.int .i64 n] w fun e w' => e = .returned (.int .u64 r) ∧ w = w' := all_lit n r w hr h.lo h.hi

set_option maxHeartbeats 4000000 in
theorem walk_SetAll (n : Int) (wn : (Lit.int .i64 n).wf = true) (w : World) (hT : Tab w) :
    Calls Tryd.prog 8 #[.int .i64 n] w fun e w' => e = .returned (.bool true) ∧ Below w.heap.size w w' := by
  obtain ⟨n0, n1⟩ := wf_i64 wn
  clear hT wn
  by_cases hneg : n ≤ 0
  · obtain ⟨B, hBn⟩ : ∃ B, B = below (0 : Nat) := ⟨_, rfl⟩
    obtain ⟨D, hDn⟩ : ∃ D, D = below ((0 : Nat) + 1) := ⟨_, rfl⟩
    obtain ⟨F, hFn⟩ : ∃ F : Int, F = (ofl [0] : Nat) := ⟨_, rfl⟩
    have lk : B < 18446744073709551616 := by rw [hBn]; exact below_lt _
    have ld : D < 18446744073709551616 := by rw [hDn]; exact below_lt _
    have HN := Lib.hid (show ((below n : Nat) : Int) = (B : Int) by rw [hBn, below_clip n 0 (by omega) (by omega)])
    have HK := Lib.hid (show ((below 0 : Nat) : Int) = (B : Int) by first | (rw [hBn]; done) | (rw [hBn]; rfl))
    have HD := Lib.hid (show ((below 1 : Nat) : Int) = (D : Int) by first | (rw [hDn]; done) | (rw [hDn]; rfl))
    have HF := Lib.hid hFn.symm
    have e1 : ((card B : Int) == 0) = true := by rw [hBn, below_card 0 (by omega)]; rfl
    have e2 : inn B D = true := by rw [hBn, hDn]; exact below_in 0
    have e3 : ((but D B : Int) == F) = true := by rw [hBn, hDn, hFn, below_next 0]; rfl
    have HM := Lib.hid (show ∀ j : Nat, j < 64 → mem B (j : Int) = false from fun j hj => by rw [hBn, below_mem 0 j hj]; exact decide_eq_false (by omega))
    have KI : I64 (0 : Int) := ⟨by omega, by omega⟩
    have JI : I64 (1 : Int) := ⟨by omega, by omega⟩
    have NI : I64 _ := ⟨n0, n1⟩
    clear n0 n1
    clear hBn hDn hFn
    go_enter Tryd.func8, Tryd.ntmps8
    go_wp2_with fail
    refine (awake2_any _).mono ?_
    rintro e w1 ⟨rfl, hB⟩
    go_wp2_with fail
    refine (all_fit n B _ HN.out NI).mono ?_
    rintro e w2 ⟨rfl, rfl⟩
    go_wp2
    go_loop [5] (fun i => ∃ j : Nat, j ≤ 64 ∧ i = .int .i64 j) (fun i => 64 - (intOf i).toNat)
    case atStart => exact ⟨0, Nat.zero_le _, rfl⟩
    case round =>
      obtain ⟨j, hj, rfl⟩ := hrel
      by_cases hlt : j < 64
      · have hm := HM.out j hlt
        go_wp2_with fail
        refine (has_any _ _ _ lk (by omega) (by omega)).mono ?_
        rintro e w2 ⟨rfl, rfl⟩
        go_wp2
        go_round
        case rel => exact ⟨j + 1, by omega, by go_num⟩
        case measure => simp [intOf]; omega
      · go_wp2_with fail
        refine (size_any _ _ lk).mono ?_
        rintro e w2 ⟨rfl, rfl⟩
        go_wp2_with fail
        refine (all_fit 0 B _ HK.out KI).mono ?_
        rintro e w2 ⟨rfl, rfl⟩
        go_wp2_with fail
        refine (all_fit 1 D _ HD.out JI).mono ?_
        rintro e w2 ⟨rfl, rfl⟩
        go_wp2_with fail
        refine (in_any _ _ _ lk ld).mono ?_
        rintro e w2 ⟨rfl, rfl⟩
        go_wp2_with fail
        refine (all_fit 1 D _ HD.out JI).mono ?_
        rintro e w2 ⟨rfl, rfl⟩
        go_wp2_with fail
        refine (but_any _ _ _ ld lk).mono ?_
        rintro e w2 ⟨rfl, rfl⟩
        go_wp2_with fail
        refine (of_new [0] _ 1 1 F _ _ (heap_at _ _ _ (by simp)) rfl rfl HF.out (by simp <;> omega) (by decide)).mono ?_
        rintro e w2 ⟨rfl, rfl⟩
        go_wp2
        go_ret
        exact ⟨rfl, hB.alloc hB.size _⟩
  by_cases hmid : n < 64
  · obtain ⟨k, rfl⟩ := Int.eq_ofNat_of_zero_le (show 0 ≤ n by omega)
    have hk : k < 64 := by omega
    have hk1 : 1 ≤ k := by omega
    have e0 : ((k : Int) == 64) = false := by rw [beq_eq_false_iff_ne]; omega
    obtain ⟨B, hBn⟩ : ∃ B, B = below (k : Nat) := ⟨_, rfl⟩
    obtain ⟨D, hDn⟩ : ∃ D, D = below ((k : Nat) + 1) := ⟨_, rfl⟩
    obtain ⟨F, hFn⟩ : ∃ F : Int, F = (ofl [(k : Int)] : Nat) := ⟨_, rfl⟩
    have lk : B < 18446744073709551616 := by rw [hBn]; exact below_lt _
    have ld : D < 18446744073709551616 := by rw [hDn]; exact below_lt _
    have HN := Lib.hid (show ((below (k : Int) : Nat) : Int) = (B : Int) by rw [hBn, below_clip (k : Int) k (by omega) (by omega)])
    have HK := Lib.hid (show ((below (k : Int) : Nat) : Int) = (B : Int) by first | (rw [hBn]; done) | (rw [hBn]; rfl))
    have HD := Lib.hid (show ((below ((k : Int) + 1) : Nat) : Int) = (D : Int) by first | (rw [hDn]; done) | (rw [hDn]; rfl))
    have HF := Lib.hid hFn.symm
    have e1' : ((card B : Int) == (k : Int)) = true := by rw [hBn, below_card k (by omega)]; simp
    have e2 : inn B D = true := by rw [hBn, hDn]; exact below_in k
    have e3 : ((but D B : Int) == F) = true := by rw [hBn, hDn, hFn, below_next k]; simp
    have HM := Lib.hid (show ∀ j : Nat, j < 64 → mem B (j : Int) = decide ((j : Int) < (k : Int)) from fun j hj => by rw [hBn, below_mem k j hj])
    have KI : I64 ((k : Int) : Int) := ⟨by omega, by omega⟩
    have JI : I64 (((k : Int) + 1) : Int) := ⟨by omega, by omega⟩
    have NI : I64 _ := ⟨n0, n1⟩
    clear n0 n1
    clear hBn hDn hFn
    have E0 := Lib.hid e0
    have E1 := Lib.hid e1'
    have E2 := Lib.hid e2
    have E3 := Lib.hid e3
    clear e0 e1' e2 e3
    go_enter Tryd.func8, Tryd.ntmps8
    go_wp2_with fail
    refine (awake2_any _).mono ?_
    rintro e w1 ⟨rfl, hB⟩
    go_wp2_with fail
    refine (all_fit k B _ HN.out NI).mono ?_
    rintro e w2 ⟨rfl, rfl⟩
    go_wp2
    go_loop [5] (fun i => ∃ j : Nat, j ≤ 64 ∧ i = .int .i64 j) (fun i => 64 - (intOf i).toNat)
    case atStart => exact ⟨0, Nat.zero_le _, rfl⟩
    case round =>
      obtain ⟨j, hj, rfl⟩ := hrel
      by_cases hlt : j < 64
      · have hm := HM.out j hlt
        go_wp2_with fail
        refine (has_any _ _ _ lk (by omega) (by omega)).mono ?_
        rintro e w2 ⟨rfl, rfl⟩
        go_wp2
        go_round
        case rel => exact ⟨j + 1, by omega, by go_num⟩
        case measure => simp [intOf]; omega
      · have e0 := E0.out
        have e1 := E1.out
        have e2 := E2.out
        have e3 := E3.out
        go_wp2_with fail
        refine (size_any _ _ lk).mono ?_
        rintro e w2 ⟨rfl, rfl⟩
        go_wp2_with fail
        refine (all_fit (k : Int) B _ HK.out KI).mono ?_
        rintro e w2 ⟨rfl, rfl⟩
        go_wp2_with fail
        refine (all_fit ((k : Int) + 1) D _ HD.out JI).mono ?_
        rintro e w2 ⟨rfl, rfl⟩
        go_wp2_with fail
        refine (in_any _ _ _ lk ld).mono ?_
        rintro e w2 ⟨rfl, rfl⟩
        go_wp2_with fail
        refine (all_fit ((k : Int) + 1) D _ HD.out JI).mono ?_
        rintro e w2 ⟨rfl, rfl⟩
        go_wp2_with fail
        refine (but_any _ _ _ ld lk).mono ?_
        rintro e w2 ⟨rfl, rfl⟩
        go_wp2_with fail
        refine (of_new [(k : Int)] _ 1 1 F _ _ (heap_at _ _ _ (by simp)) rfl rfl HF.out (by simp <;> omega) (by decide)).mono ?_
        rintro e w2 ⟨rfl, rfl⟩
        go_wp2
        go_ret
        exact ⟨rfl, hB.alloc hB.size _⟩
  by_cases htop : n = 64
  · subst htop
    obtain ⟨B, hBn⟩ : ∃ B, B = below (64 : Nat) := ⟨_, rfl⟩
    obtain ⟨D, hDn⟩ : ∃ D, D = below ((64 : Nat) + 1) := ⟨_, rfl⟩
    obtain ⟨F, hFn⟩ : ∃ F : Int, F = (ofl [64] : Nat) := ⟨_, rfl⟩
    have lk : B < 18446744073709551616 := by rw [hBn]; exact below_lt _
    have ld : D < 18446744073709551616 := by rw [hDn]; exact below_lt _
    have HN := Lib.hid (show ((below 64 : Nat) : Int) = (B : Int) by rw [hBn, below_clip 64 64 (by omega) (by omega)])
    have HK := Lib.hid (show ((below 64 : Nat) : Int) = (B : Int) by first | (rw [hBn]; done) | (rw [hBn]; rfl))
    have HD := Lib.hid (show ((below 65 : Nat) : Int) = (D : Int) by first | (rw [hDn]; done) | (rw [hDn]; rfl))
    have HF := Lib.hid hFn.symm
    have e1 : ((card B : Int) == 64) = true := by rw [hBn, below_card 64 (by omega)]; rfl
    have e2 : inn B D = true := by rw [hBn, hDn]; exact below_in 64
    have e3 : ((but D B : Int) == F) = true := by rw [hBn, hDn, hFn, below_next 64]; rfl
    have HM := Lib.hid (show ∀ j : Nat, j < 64 → mem B (j : Int) = true from fun j hj => by rw [hBn, below_mem 64 j hj]; exact decide_eq_true (by omega))
    have KI : I64 (64 : Int) := ⟨by omega, by omega⟩
    have JI : I64 (65 : Int) := ⟨by omega, by omega⟩
    have NI : I64 _ := ⟨n0, n1⟩
    clear n0 n1
    clear hBn hDn hFn
    go_enter Tryd.func8, Tryd.ntmps8
    go_wp2_with fail
    refine (awake2_any _).mono ?_
    rintro e w1 ⟨rfl, hB⟩
    go_wp2_with fail
    refine (all_fit 64 B _ HN.out NI).mono ?_
    rintro e w2 ⟨rfl, rfl⟩
    go_wp2
    go_loop [5] (fun i => ∃ j : Nat, j ≤ 64 ∧ i = .int .i64 j) (fun i => 64 - (intOf i).toNat)
    case atStart => exact ⟨0, Nat.zero_le _, rfl⟩
    case round =>
      obtain ⟨j, hj, rfl⟩ := hrel
      by_cases hlt : j < 64
      · have hm := HM.out j hlt
        go_wp2_with fail
        refine (has_any _ _ _ lk (by omega) (by omega)).mono ?_
        rintro e w2 ⟨rfl, rfl⟩
        go_wp2
        go_round
        case rel => exact ⟨j + 1, by omega, by go_num⟩
        case measure => simp [intOf]; omega
      · go_wp2_with fail
        refine (size_any _ _ lk).mono ?_
        rintro e w2 ⟨rfl, rfl⟩
        go_wp2_with fail
        refine (all_fit 64 B _ HK.out KI).mono ?_
        rintro e w2 ⟨rfl, rfl⟩
        go_wp2
        go_ret
        exact ⟨rfl, hB⟩
  have hgt : 64 < n := by omega
  clear hneg hmid htop
  obtain ⟨B, hBn⟩ : ∃ B, B = below (64 : Nat) := ⟨_, rfl⟩
  obtain ⟨D, hDn⟩ : ∃ D, D = below ((64 : Nat) + 1) := ⟨_, rfl⟩
  obtain ⟨F, hFn⟩ : ∃ F : Int, F = (ofl [64] : Nat) := ⟨_, rfl⟩
  have lk : B < 18446744073709551616 := by rw [hBn]; exact below_lt _
  have ld : D < 18446744073709551616 := by rw [hDn]; exact below_lt _
  have HN := Lib.hid (show ((below n : Nat) : Int) = (B : Int) by rw [hBn, below_clip n 64 (by omega) (by omega)])
  have HK := Lib.hid (show ((below 64 : Nat) : Int) = (B : Int) by first | (rw [hBn]; done) | (rw [hBn]; rfl))
  have HD := Lib.hid (show ((below 65 : Nat) : Int) = (D : Int) by first | (rw [hDn]; done) | (rw [hDn]; rfl))
  have HF := Lib.hid hFn.symm
  have e1 : ((card B : Int) == 64) = true := by rw [hBn, below_card 64 (by omega)]; rfl
  have e2 : inn B D = true := by rw [hBn, hDn]; exact below_in 64
  have e3 : ((but D B : Int) == F) = true := by rw [hBn, hDn, hFn, below_next 64]; rfl
  have HM := Lib.hid (show ∀ j : Nat, j < 64 → mem B (j : Int) = true from fun j hj => by rw [hBn, below_mem 64 j hj]; exact decide_eq_true (by omega))
  have KI : I64 (64 : Int) := ⟨by omega, by omega⟩
  have JI : I64 (65 : Int) := ⟨by omega, by omega⟩
  have NI : I64 _ := ⟨n0, n1⟩
  clear n0 n1
  clear hBn hDn hFn
  go_enter Tryd.func8, Tryd.ntmps8
  go_wp2_with fail
  refine (awake2_any _).mono ?_
  rintro e w1 ⟨rfl, hB⟩
  go_wp2_with fail
  refine (all_fit n B _ HN.out NI).mono ?_
  rintro e w2 ⟨rfl, rfl⟩
  go_wp2
  go_loop [5] (fun i => ∃ j : Nat, j ≤ 64 ∧ i = .int .i64 j) (fun i => 64 - (intOf i).toNat)
  case atStart => exact ⟨0, Nat.zero_le _, rfl⟩
  case round =>
    obtain ⟨j, hj, rfl⟩ := hrel
    by_cases hlt : j < 64
    · have hm := HM.out j hlt
      go_wp2_with fail
      refine (has_any _ _ _ lk (by omega) (by omega)).mono ?_
      rintro e w2 ⟨rfl, rfl⟩
      go_wp2
      go_round
      case rel => exact ⟨j + 1, by omega, by go_num⟩
      case measure => simp [intOf]; omega
    · go_wp2_with fail
      refine (size_any _ _ lk).mono ?_
      rintro e w2 ⟨rfl, rfl⟩
      go_wp2_with fail
      refine (all_fit 64 B _ HK.out KI).mono ?_
      rintro e w2 ⟨rfl, rfl⟩
      go_wp2
      go_ret
      exact ⟨rfl, hB⟩
end Go.Proofs.YtkcjfofnnkdpaaaDoor
