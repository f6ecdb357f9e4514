/- The contracts of the document's own Get. -/
import Derived.Test.YtblefbjmjhgkkaaZGet
set_option linter.unusedVariables false
set_option maxRecDepth 100000
set_option linter.unusedSimpArgs false
namespace Go.Proofs.Ytblefbjmjhgkkaa
open Go.RowKit

theorem refGet_no (s : ByteArray) (at_ n : Int) (w : World) (hs : s.size ≤ maxLen) (ha : -9223372036854775808 ≤ at_) (ha' : at_ ≤ 9223372036854775807)
    (hn : -9223372036854775808 ≤ n) (hn' : n ≤ 9223372036854775807) (h : n < 1 ∨ 8 < n ∨ at_ < 0 ∨ s.size - n < at_) :
    Calls Try.prog 49 #[.string s, .int .i64 at_, .int .i64 n] w fun e w' => e = .returned (.tuple #[.int .u64 0, .bool false]) ∧ w = w' := by
  unfold maxLen at hs
  by_cases h1 : n < 1
  · go_enter Try.func49, Try.ntmps49
    go_wp2
    go_ret2
    exact ⟨rfl, rfl⟩
  by_cases h2 : 8 < n
  · go_enter Try.func49, Try.ntmps49
    go_wp2
    go_ret2
    exact ⟨rfl, rfl⟩
  by_cases h3 : at_ < 0
  · go_enter Try.func49, Try.ntmps49
    go_wp2
    go_ret2
    exact ⟨rfl, rfl⟩
  by_cases h5 : (s.size : Int) < at_
  · go_enter Try.func49, Try.ntmps49
    go_wp2
    go_ret2
    exact ⟨rfl, rfl⟩
  have h4 : (s.size : Int) - at_ < n := by omega
  clear h
  go_enter Try.func49, Try.ntmps49
  go_wp2
  go_ret2
  exact ⟨rfl, rfl⟩

theorem refGet_yes (s : ByteArray) (a m : Nat) (w : World) (hs : s.size ≤ maxLen) (h1 : 1 ≤ m) (h2 : m ≤ 8) (h3 : a + m ≤ s.size) :
    Calls Try.prog 49 #[.string s, .int .i64 a, .int .i64 m] w fun e w' => e = .returned (.tuple #[.int .u64 (be ((s.data.toList.drop a).take m)), .bool true]) ∧ w = w' := by
  unfold maxLen at hs
  have d1 : decide ((m : Int) < 1) = false := by simp; omega
  have d2 : decide ((8 : Int) < m) = false := by simp; omega
  have d3 : decide ((a : Int) < 0) = false := by simp
  have d4 : decide (s.size < a) = false := by simp; omega
  have d5 : decide ((s.size : Int) - a < m) = false := by simp; omega
  go_enter Try.func49, Try.ntmps49
  go_wp2_with fail
  go_loop [8, 9] (fun v i => ∃ k : Nat, k ≤ m ∧ i = .int .i64 ((a + k : Nat) : Int) ∧ v = .int .u64 (be ((s.data.toList.drop a).take k))) (fun _ i => a + m - (intOf i).toNat)
  case atStart => exact ⟨0, Nat.zero_le _, rfl, rfl⟩
  case round =>
    obtain ⟨k, hk, rfl, rfl⟩ := hrel
    by_cases hlt : k < m
    · have hx : a + k < s.size := by omega
      have hs7 : be ((s.data.toList.drop a).take k) < 72057594037927936 := by
        have := be_lt _ ((s.data.toList.drop a).take k) rfl
        have hl : ((s.data.toList.drop a).take k).length ≤ 7 := by simp; omega
        exact Nat.lt_of_lt_of_le this (Nat.le_trans (Nat.pow_le_pow_right (by omega) hl) (by decide))
      have HT := Lib.hid (take_drop_snoc s a k hx)
      have HS := Lib.hid (add_step (be ((s.data.toList.drop a).take k)) s[a + k] hs7)
      go_wp2
      go_round
      case rel => exact ⟨k + 1, by omega, by go_num, by rw [HS.out, HT.out, be_snoc]⟩
      case measure => simp [intOf]; omega
    · have hk2 : k = m := by omega
      have HK := Lib.hid hk2
      clear hk2
      go_wp2
      go_ret2
      exact ⟨by rw [HK.out]; rfl, rfl⟩
end Go.Proofs.Ytblefbjmjhgkkaa
