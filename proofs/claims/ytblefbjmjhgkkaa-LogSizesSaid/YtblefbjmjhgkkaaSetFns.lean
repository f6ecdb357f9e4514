/- The contracts of the program's own sets: those that only compute. -/
import Derived.Test.YtblefbjmjhgkkaaSize
set_option linter.unusedVariables false
set_option maxRecDepth 100000
set_option linter.unusedSimpArgs false
namespace Go.Proofs.Ytblefbjmjhgkkaa
open Go.RowKit

theorem onl_shl (k : Nat) : IntKind.u64.wrap (2 ^ min k 64) = ((onl (k : Int) : Nat) : Int) := by
  by_cases h : k < 64
  · have e : onl (k : Int) = 2 ^ k := by unfold onl; rw [if_pos (by omega)]; rfl
    rw [e, Nat.min_eq_left (by omega)]
    have l := onl_lt (k : Int)
    rw [e] at l
    have := wrap_nat (2 ^ k) l
    simpa using this
  · have e : onl (k : Int) = 0 := by unfold onl; rw [if_neg (by omega)]
    rw [e, Nat.min_eq_right (by omega)]
    decide
theorem beq_cast (n : Nat) : (((n : Nat) : Int) == 0) = (n == 0) := by
  cases n with
  | zero => rfl
  | succ n => rw [show (n + 1 == 0) = false from rfl]; simp; omega
theorem bne_cast (n : Nat) : (((n : Nat) : Int) != 0) = !(n == 0) := by
  rw [bne, beq_cast]
/-- Does b have all that a has? -/
def inn (a b : Nat) : Bool := but a b == 0
theorem most_cast (a b : Nat) : decide ((card b : Int) < 2 * (card (both a b) : Int)) = most a b := by
  unfold most
  congr 1
  apply propext
  omega
theorem below_neg (n : Int) (h : n < 0) : (below n : Nat) = 0 := by
  rw [below_clip n 0 (by decide) (by omega), below_nat 0 (by decide)]
theorem below_big (n : Int) (h : 64 < n) : (below n : Nat) = 18446744073709551615 := by
  rw [below_clip n 64 (by decide) (by omega), below_nat 64 (by decide)]
theorem below_mid (k : Nat) (h : k ≤ 64) : IntKind.u64.wrap (IntKind.u64.wrap (2 ^ k) - 1) = ((below (k : Int) : Nat) : Int) := by
  rw [below_nat k h]
  by_cases h2 : k = 64
  · subst h2; decide
  · have l : 2 ^ k < 2 ^ 64 := Nat.pow_lt_pow_right (by decide) (by omega)
    have p : 0 < 2 ^ k := Nat.two_pow_pos k
    have e := wrap_nat (2 ^ k) l
    rw [Int.natCast_pow] at e
    have c2 : (((2 : Nat)) : Int) = 2 := rfl
    rw [c2] at e
    rw [e]
    have e3 : ((2 : Int) ^ k - 1) = ((2 ^ k - 1 : Nat) : Int) := by
      rw [Int.natCast_sub p, Int.natCast_pow]; rfl
    rw [e3]
    exact wrap_nat _ (by omega)

theorem all_any (n : Int) (w : World) (h0 : -9223372036854775808 ≤ n) (h1 : n ≤ 9223372036854775807) :
    Calls Try.prog 42 #[.int .i64 n] w fun e w' => e = .returned (.int .u64 (below n : Nat)) ∧ w = w' := by
  by_cases hn : n < 0
  · rw [below_neg n hn]
    go_enter Try.func42, Try.ntmps42
    go_wp2
    go_ret
    exact ⟨rfl, rfl⟩
  by_cases hb : 64 < n
  · rw [below_big n hb]
    go_enter Try.func42, Try.ntmps42
    go_wp2
    go_ret
    exact ⟨rfl, rfl⟩
  obtain ⟨k, rfl⟩ := Int.eq_ofNat_of_zero_le (show 0 ≤ n by omega)
  have H := Lib.hid (below_mid k (by omega))
  go_enter Try.func42, Try.ntmps42
  go_wp2
  go_ret
  exact ⟨by rw [← H.out]; rfl, rfl⟩
end Go.Proofs.Ytblefbjmjhgkkaa
