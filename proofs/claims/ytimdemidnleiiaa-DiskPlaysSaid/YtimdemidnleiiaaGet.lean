/- The contracts of Get: a number at a place, or none. -/
import Derived.Test.YtimdemidnleiiaaNumber
import Derived.WalkSpells
set_option linter.unusedVariables false
set_option linter.unusedSimpArgs false
namespace Go.Proofs.Ytimdemidnleiiaa
open Go.RowKit

theorem get_no (s : ByteArray) (at_ n : Int) (w : World) (hs : s.size ≤ maxLen) (ha : -9223372036854775808 ≤ at_) (ha' : at_ ≤ 9223372036854775807)
    (hn : -9223372036854775808 ≤ n) (hn' : n ≤ 9223372036854775807) (h : n < 1 ∨ 8 < n ∨ at_ < 0 ∨ s.size - n < at_) :
    Calls Try.prog 35 #[.string s, .int .i64 at_, .int .i64 n] w fun e w' => e = .returned (.tuple #[.int .u64 0, .bool false]) ∧ w = w' := by
  unfold maxLen at hs
  by_cases h1 : n < 1
  · go_enter Try.func35, Try.ntmps35
    go_wp2
    go_ret2
    exact ⟨rfl, rfl⟩
  by_cases h2 : 8 < n
  · go_enter Try.func35, Try.ntmps35
    go_wp2
    go_ret2
    exact ⟨rfl, rfl⟩
  by_cases h3 : at_ < 0
  · go_enter Try.func35, Try.ntmps35
    go_wp2
    go_ret2
    exact ⟨rfl, rfl⟩
  have h4 : (s.size : Int) - n < at_ := by omega
  clear h
  go_enter Try.func35, Try.ntmps35
  go_wp2
  go_ret2
  exact ⟨rfl, rfl⟩

theorem get_yes (s : ByteArray) (a m : Nat) (w : World) (hs : s.size ≤ maxLen) (h1 : 1 ≤ m) (h2 : m ≤ 8) (h3 : a + m ≤ s.size) :
    Calls Try.prog 35 #[.string s, .int .i64 a, .int .i64 m] w fun e w' => e = .returned (.tuple #[.int .u64 (be ((s.data.toList.drop a).take m)), .bool true]) ∧ w = w' := by
  unfold maxLen at hs
  go_enter Try.func35, Try.ntmps35
  go_wp2_with fail
  refine (number_any _ _ ?_).mono ?_
  · simp; omega
  rintro e w' ⟨rfl, rfl⟩
  go_wp2
  go_ret2
  exact ⟨rfl, rfl⟩
end Go.Proofs.Ytimdemidnleiiaa
