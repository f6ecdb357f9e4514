/- The contracts of the program's own sets: those that only compute. -/
import Derived.Test.YtlaenabckpjikaaSize
set_option linter.unusedVariables false
set_option linter.unusedSimpArgs false
namespace Go.Proofs.Ytlaenabckpjikaa
open Go.RowKit

theorem onl_shl (k : Nat) : IntKind.u64.wrap (2 ^ min k 64) = ((onl (k : Int) : Nat) : Int) := by
  by_cases h : k < 64
  · have e : onl (k : Int) = 2 ^ k := by unfold onl; rw [if_pos (by omega)]; rfl
    rw [e, Nat.min_eq_left (by omega)]
    have l := onl_lt (k : Int)
    rw [e] at l
    have := wrap_nat (2 ^ k) l
    simpa using this
  · have e : onl (k : Int) = 0 := by unfold onl; rw [if_neg (by omega)]
    rw [e, Nat.min_eq_right (by omega)]
    decide
theorem beq_cast (n : Nat) : (((n : Nat) : Int) == 0) = (n == 0) := by
  cases n with
  | zero => rfl
  | succ n => rw [show (n + 1 == 0) = false from rfl]; simp; omega
theorem bne_cast (n : Nat) : (((n : Nat) : Int) != 0) = !(n == 0) := by
  rw [bne, beq_cast]
/-- Does b have all that a has? -/
def inn (a b : Nat) : Bool := but a b == 0
theorem most_cast (a b : Nat) : decide ((card b : Int) < 2 * (card (both a b) : Int)) = most a b := by
  unfold most
  congr 1
  apply propext
  omega
theorem below_neg (n : Int) (h : n < 0) : (below n : Nat) = 0 := by
  rw [below_clip n 0 (by decide) (by omega), below_nat 0 (by decide)]
theorem below_big (n : Int) (h : 64 < n) : (below n : Nat) = 18446744073709551615 := by
  rw [below_clip n 64 (by decide) (by omega), below_nat 64 (by decide)]
theorem below_mid (k : Nat) (h : k ≤ 64) : IntKind.u64.wrap (IntKind.u64.wrap (2 ^ k) - 1) = ((below (k : Int) : Nat) : Int) := by
  rw [below_nat k h]
  by_cases h2 : k = 64
  · subst h2; decide
  · have l : 2 ^ k < 2 ^ 64 := Nat.pow_lt_pow_right (by decide) (by omega)
    have p : 0 < 2 ^ k := Nat.two_pow_pos k
    have e := wrap_nat (2 ^ k) l
    rw [Int.natCast_pow] at e
    have c2 : (((2 : Nat)) : Int) = 2 := rfl
    rw [c2] at e
    rw [e]
    have e3 : ((2 : Int) ^ k - 1) = ((2 ^ k - 1 : Nat) : Int) := by
      rw [Int.natCast_sub p, Int.natCast_pow]; rfl
    rw [e3]
    exact wrap_nat _ (by omega)

theorem only_any (p : Int) (w : World) (h0 : -9223372036854775808 ≤ p) (h1 : p ≤ 9223372036854775807) :
    Calls Try.prog 31 #[.int .i64 p] w fun e w' => e = .returned (.int .u64 (onl p : Nat)) ∧ w = w' := by
  by_cases hn : p < 0
  · rw [show onl p = 0 by unfold onl; rw [if_neg (by omega)]]
    go_enter Try.func31, Try.ntmps31
    go_wp2
    go_ret
    exact ⟨rfl, rfl⟩
  · obtain ⟨k, rfl⟩ := Int.eq_ofNat_of_zero_le (show 0 ≤ p by omega)
    go_enter Try.func31, Try.ntmps31
    go_wp2
    go_ret
    exact ⟨by rw [← onl_shl k]; rfl, rfl⟩

theorem both_any (a b : Nat) (w : World) (ha : a < 18446744073709551616) (hb : b < 18446744073709551616) :
    Calls Try.prog 22 #[.int .u64 a, .int .u64 b] w fun e w' => e = .returned (.int .u64 (both a b : Nat)) ∧ w = w' := by
  have H := Lib.hid (both_eq a b ha hb)
  go_enter Try.func22, Try.ntmps22
  go_wp2
  go_ret
  exact ⟨by rw [← H.out]; rfl, rfl⟩
theorem any_any (a b : Nat) (w : World) (ha : a < 18446744073709551616) (hb : b < 18446744073709551616) :
    Calls Try.prog 21 #[.int .u64 a, .int .u64 b] w fun e w' => e = .returned (.int .u64 (any a b : Nat)) ∧ w = w' := by
  have H := Lib.hid (any_eq a b ha hb)
  go_enter Try.func21, Try.ntmps21
  go_wp2
  go_ret
  exact ⟨by rw [← H.out]; rfl, rfl⟩
theorem has_any (a : Nat) (p : Int) (w : World) (ha : a < 18446744073709551616) (h0 : -9223372036854775808 ≤ p) (h1 : p ≤ 9223372036854775807) :
    Calls Try.prog 26 #[.int .u64 a, .int .i64 p] w fun e w' => e = .returned (.bool (mem a p)) ∧ w = w' := by
  have H := both_eq a (onl p) ha (onl_lt p)
  have M := Lib.hid (mem_both a p)
  go_enter Try.func26, Try.ntmps26
  go_wp2_with fail
  refine (only_any p _ h0 h1).mono ?_
  rintro e w' ⟨rfl, rfl⟩
  go_wp2
  go_ret
  exact ⟨by rw [show mem a p = ((both a (onl p) : Int) != 0) by rw [bne_cast, M.out, Bool.not_not]]; rfl, rfl⟩
theorem size_any (a : Nat) (w : World) (ha : a < 18446744073709551616) :
    Calls Try.prog 30 #[.int .u64 a] w fun e w' => e = .returned (.int .i64 (card a)) ∧ w = w' := by
  go_enter Try.func30, Try.ntmps30
  go_wp2_with fail
  refine (ones_any _ _ ha).mono ?_
  rintro e w' ⟨rfl, rfl⟩
  go_wp2
  go_ret
  exact ⟨rfl, rfl⟩
theorem most_any (a b : Nat) (w : World) (ha : a < 18446744073709551616) (hb : b < 18446744073709551616) :
    Calls Try.prog 25 #[.int .u64 a, .int .u64 b] w fun e w' => e = .returned (.bool (most a b)) ∧ w = w' := by
  have c1 := card_le (both a b)
  have c2 := card_le b
  have hl := both_lt a b
  go_enter Try.func25, Try.ntmps25
  go_wp2_with fail
  refine (both_any _ _ _ ha hb).mono ?_
  rintro e w' ⟨rfl, rfl⟩
  go_wp2_with fail
  refine (size_any _ _ hl).mono ?_
  rintro e w' ⟨rfl, rfl⟩
  go_wp2_with fail
  refine (size_any _ _ hb).mono ?_
  rintro e w' ⟨rfl, rfl⟩
  go_wp2
  go_ret
  exact ⟨by rw [← most_cast]; rfl, rfl⟩
theorem all_any (n : Int) (w : World) (h0 : -9223372036854775808 ≤ n) (h1 : n ≤ 9223372036854775807) :
    Calls Try.prog 20 #[.int .i64 n] w fun e w' => e = .returned (.int .u64 (below n : Nat)) ∧ w = w' := by
  by_cases hn : n < 0
  · rw [below_neg n hn]
    go_enter Try.func20, Try.ntmps20
    go_wp2
    go_ret
    exact ⟨rfl, rfl⟩
  by_cases hb : 64 < n
  · rw [below_big n hb]
    go_enter Try.func20, Try.ntmps20
    go_wp2
    go_ret
    exact ⟨rfl, rfl⟩
  obtain ⟨k, rfl⟩ := Int.eq_ofNat_of_zero_le (show 0 ≤ n by omega)
  have H := Lib.hid (below_mid k (by omega))
  go_enter Try.func20, Try.ntmps20
  go_wp2
  go_ret
  exact ⟨by rw [← H.out]; rfl, rfl⟩
end Go.Proofs.Ytlaenabckpjikaa
