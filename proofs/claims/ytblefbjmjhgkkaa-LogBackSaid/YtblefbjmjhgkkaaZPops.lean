/- The sums within a word that count its bits: plain facts, without the program. -/
import Derived.Test.YtblefbjmjhgkkaaZSetMaths
import Derived.Test.YtblefbjmjhgkkaaRows
import Derived.WalkKit
import Derived.ProofKit
import Derived.OpenShut
import Derived.LoopTactic
import Derived.Lib.Hide
import Derived.Laws.Bits64
import Derived.Laws.Bits64b
import Derived.Laws.Bits128
import Derived.IntWalk
import Derived.Laws.MakeOwn
import Derived.OwnWalk
import Derived.WalkSpells
import Derived.Laws.NewBlocks
import Derived.Laws.CopyOwn
import Derived.Deep.QuietTactic
import Derived.BigQuiet
import Derived.Maps.AppendAt
set_option linter.unusedVariables false
set_option maxRecDepth 100000
set_option linter.unusedSimpArgs false
namespace Go.Proofs.Ytblefbjmjhgkkaa

/-- n bytes c. -/
def rep (c : Nat) : Nat → Nat
  | 0 => 0
  | n + 1 => rep c n * 256 + c

theorem and_byte (h l M m : Nat) (hl : l < 256) (hm : m < 256) : (h * 256 + l) &&& (M * 256 + m) = (h &&& M) * 256 + (l &&& m) := by
  apply Nat.eq_of_testBit_eq
  intro i
  have hlm : l &&& m < 2 ^ 8 := Nat.lt_of_le_of_lt Nat.and_le_left hl
  rw [Nat.testBit_and, Nat.mul_comm h, Nat.mul_comm M, Nat.mul_comm (h &&& M), show (256 : Nat) = 2 ^ 8 from rfl,
    Nat.testBit_two_pow_mul_add _ (show l < 2 ^ 8 from hl), Nat.testBit_two_pow_mul_add _ (show m < 2 ^ 8 from hm), Nat.testBit_two_pow_mul_add _ hlm]
  split <;> simp

/-- The three first steps of the count, over n bytes. -/
def st1 (n x : Nat) : Nat := (x / 2 &&& rep 85 n) + (x &&& rep 85 n)
def st2 (n x : Nat) : Nat := (x / 4 &&& rep 51 n) + (x &&& rep 51 n)
def st3 (n x : Nat) : Nat := (x / 16 + x) &&& rep 15 n

theorem low1 : ∀ l : Fin 256, ∀ c : Fin 2, (c.val * 128 + l.val / 2) &&& 85 = (l.val / 2 &&& 85) ∧ (l.val / 2 &&& 85) + (l.val &&& 85) < 256 := by decide +kernel
theorem low2 : ∀ l : Fin 256, ∀ c : Fin 4, (c.val * 64 + l.val / 4) &&& 51 = (l.val / 4 &&& 51) ∧ (l.val / 4 &&& 51) + (l.val &&& 51) < 256 := by decide +kernel

theorem st1_step (n h l : Nat) (hl : l < 256) : st1 (n + 1) (h * 256 + l) = st1 n h * 256 + st1 1 l ∧ st1 1 l < 256 := by
  have e : (h * 256 + l) / 2 = h / 2 * 256 + (h % 2 * 128 + l / 2) := by omega
  have hb : h % 2 * 128 + l / 2 < 256 := by omega
  obtain ⟨k1, k2⟩ := low1 ⟨l, hl⟩ ⟨h % 2, by omega⟩
  simp only at k1 k2
  have r1 : rep 85 1 = 85 := rfl
  unfold st1
  rw [r1]
  refine ⟨?_, k2⟩
  rw [rep, e, and_byte _ _ _ _ hb (by decide), and_byte _ _ _ _ hl (by decide), k1]
  omega
theorem st2_step (n h l : Nat) (hl : l < 256) : st2 (n + 1) (h * 256 + l) = st2 n h * 256 + st2 1 l ∧ st2 1 l < 256 := by
  have e : (h * 256 + l) / 4 = h / 4 * 256 + (h % 4 * 64 + l / 4) := by omega
  have hb : h % 4 * 64 + l / 4 < 256 := by omega
  obtain ⟨k1, k2⟩ := low2 ⟨l, hl⟩ ⟨h % 4, by omega⟩
  simp only at k1 k2
  have r1 : rep 51 1 = 51 := rfl
  unfold st2
  rw [r1]
  refine ⟨?_, k2⟩
  rw [rep, e, and_byte _ _ _ _ hb (by decide), and_byte _ _ _ _ hl (by decide), k1]
  omega
theorem low3 : ∀ l : Fin 69, ∀ c : Fin 5, (c.val * 16 + l.val / 16 + l.val) < 256 ∧ (c.val * 16 + l.val / 16 + l.val) &&& 15 = (l.val / 16 + l.val) &&& 15 := by decide +kernel
theorem st3_step (n h l : Nat) (hl : l < 69) (hh : h % 16 < 5) : st3 (n + 1) (h * 256 + l) = st3 n h * 256 + st3 1 l := by
  have e : (h * 256 + l) / 16 + (h * 256 + l) = (h / 16 + h) * 256 + (h % 16 * 16 + l / 16 + l) := by omega
  obtain ⟨k1, k2⟩ := low3 ⟨l, hl⟩ ⟨h % 16, hh⟩
  simp only at k1 k2
  have r1 : rep 15 1 = 15 := rfl
  unfold st3
  rw [r1, rep, e, and_byte _ _ _ _ k1 (by decide), k2]

/-- All three. -/
def swar (n x : Nat) : Nat := st3 n (st2 n (st1 n x))
theorem low4 : ∀ l : Fin 256, st2 1 (st1 1 l.val) < 69 ∧ st2 1 (st1 1 l.val) % 16 < 5 ∧ swar 1 l.val = (List.range 8).countP l.val.testBit ∧ swar 1 l.val ≤ 8 := by decide +kernel

theorem st_low (n h l : Nat) (hl : l < 256) : st2 (n + 1) (st1 (n + 1) (h * 256 + l)) = st2 n (st1 n h) * 256 + st2 1 (st1 1 l) := by
  obtain ⟨e1, b1⟩ := st1_step n h l hl
  rw [e1, (st2_step n _ _ b1).1]
theorem st_mod (n h : Nat) : st2 n (st1 n h) % 16 < 5 := by
  cases n with
  | zero => simp [st2, rep]
  | succ n =>
    have e : h = h / 256 * 256 + h % 256 := by omega
    rw [e, st_low n _ _ (Nat.mod_lt _ (by decide))]
    have := (low4 ⟨h % 256, Nat.mod_lt _ (by decide)⟩).2.1
    simp only at this
    omega
theorem swar_step (n h l : Nat) (hl : l < 256) : swar (n + 1) (h * 256 + l) = swar n h * 256 + swar 1 l := by
  unfold swar
  rw [st_low n h l hl]
  exact st3_step n _ _ (low4 ⟨l, hl⟩).1 (st_mod n h)

/-- The bits of n bytes. -/
def pop (n x : Nat) : Nat := (List.range (8 * n)).countP x.testBit
theorem pop_step (n h l : Nat) (hl : l < 256) : pop (n + 1) (h * 256 + l) = pop n h + swar 1 l := by
  rw [(low4 ⟨l, hl⟩).2.2.1]
  unfold pop
  rw [show 8 * (n + 1) = 8 + 8 * n by omega, List.range_add, List.countP_append, List.countP_map, Nat.add_comm]
  have e : ∀ i, (h * 256 + l).testBit i = if i < 8 then l.testBit i else h.testBit (i - 8) := fun i => by
    rw [Nat.mul_comm, show (256 : Nat) = 2 ^ 8 from rfl, Nat.testBit_two_pow_mul_add _ (show l < 2 ^ 8 from hl)]
  congr 1
  · apply List.countP_congr
    intro i _
    simp only [Function.comp_apply, e]
    rw [if_neg (by omega)]
    simp
  · apply List.countP_congr
    intro i hi
    rw [e, if_pos (by simpa using hi)]

/-- The last three steps over eight sums, each of at most 8. -/
theorem gather (p0 p1 p2 p3 p4 p5 p6 p7 : Nat) (h0 : p0 ≤ 8) (h1 : p1 ≤ 8) (h2 : p2 ≤ 8) (h3 : p3 ≤ 8) (h4 : p4 ≤ 8) (h5 : p5 ≤ 8) (h6 : p6 ≤ 8) (h7 : p7 ≤ 8) (y v u : Nat)
    (hy : y = ((((((p7 * 256 + p6) * 256 + p5) * 256 + p4) * 256 + p3) * 256 + p2) * 256 + p1) * 256 + p0) (hv : v = y + y / 256) (hu : u = v + v / 65536) :
    (u + u / 4294967296) % 128 = p0 + p1 + p2 + p3 + p4 + p5 + p6 + p7 ∧ v < 9223372036854775808 ∧ u < 9223372036854775808 ∧ u + u / 4294967296 < 9223372036854775808 := by
  have e1 : y / 256 = (((((p7 * 256 + p6) * 256 + p5) * 256 + p4) * 256 + p3) * 256 + p2) * 256 + p1 := by omega
  obtain ⟨A, hA⟩ : ∃ A, A = ((((p7 * 256 + (p6 + p7)) * 256 + (p5 + p6)) * 256 + (p4 + p5)) * 256 + (p3 + p4)) * 256 + (p2 + p3) := ⟨_, rfl⟩
  obtain ⟨B, hB⟩ : ∃ B, B = (p1 + p2) * 256 + (p0 + p1) := ⟨_, rfl⟩
  have e2 : v = A * 65536 + B := by rw [hv, e1, hy, hA, hB]; omega
  have e3 : v / 65536 = A := by omega
  obtain ⟨C, hC⟩ : ∃ C, C = ((p7 * 256 + (p6 + p7)) * 256 + (p5 + p6 + p7)) * 256 + (p4 + p5 + p6 + p7) := ⟨_, rfl⟩
  obtain ⟨D, hD⟩ : ∃ D, D = (((p3 + p4 + p5 + p6) * 256 + (p2 + p3 + p4 + p5)) * 256 + (p1 + p2 + p3 + p4)) * 256 + (p0 + p1 + p2 + p3) := ⟨_, rfl⟩
  have e4 : u = C * 4294967296 + D := by rw [hu, e3, e2, hA, hB, hC, hD]; omega
  have e5 : u / 4294967296 = C := by omega
  rw [e5]
  clear e1 e3 e5 hv hu hy
  have hA2 : A ≤ 17600000000000 := by rw [hA]; omega
  have hB2 : B ≤ 4112 := by omega
  have hC2 : C ≤ 600000000 := by rw [hC]; omega
  have hD2 : D < 4294967296 := by rw [hD]; omega
  refine ⟨?_, by rw [e2]; clear hA hB hC hD e4; omega, by rw [e4]; clear hA hB hC hD e2; omega, by rw [e4]; clear hA hB hC hD e2; omega⟩
  rw [e4, hC, hD]
  clear e2 hA hB hC hD e4
  omega

theorem swar_card (x : Nat) (hx : x < 18446744073709551616) (y v u : Nat) (hy : y = swar 8 x) (hv : v = y + y / 256) (hu : u = v + v / 65536) :
    (u + u / 4294967296) % 128 = card x ∧ v < 9223372036854775808 ∧ u < 9223372036854775808 ∧ u + u / 4294967296 < 9223372036854775808 := by
  have hb : ∀ z : Nat, swar 1 (z % 256) ≤ 8 := fun z => (low4 ⟨z % 256, Nat.mod_lt _ (by decide)⟩).2.2.2
  have hs : ∀ n z : Nat, swar (n + 1) z = swar n (z / 256) * 256 + swar 1 (z % 256) ∧ pop (n + 1) z = pop n (z / 256) + swar 1 (z % 256) := fun n z => by
    have e : z = z / 256 * 256 + z % 256 := by omega
    constructor
    · conv => lhs; rw [e]
      exact swar_step n _ _ (Nat.mod_lt _ (by decide))
    · conv => lhs; rw [e]
      exact pop_step n _ _ (Nat.mod_lt _ (by decide))
  have z0 : ∀ z, swar 0 z = 0 := fun z => by simp [swar, st3, rep]
  have q0 : ∀ z, pop 0 z = 0 := fun z => by simp [pop]
  have hc : card x = pop 8 x := rfl
  rw [hc]
  obtain ⟨a1, b1⟩ := hs 7 x
  obtain ⟨a2, b2⟩ := hs 6 (x / 256)
  obtain ⟨a3, b3⟩ := hs 5 (x / 256 / 256)
  obtain ⟨a4, b4⟩ := hs 4 (x / 256 / 256 / 256)
  obtain ⟨a5, b5⟩ := hs 3 (x / 256 / 256 / 256 / 256)
  obtain ⟨a6, b6⟩ := hs 2 (x / 256 / 256 / 256 / 256 / 256)
  obtain ⟨a7, b7⟩ := hs 1 (x / 256 / 256 / 256 / 256 / 256 / 256)
  obtain ⟨a8, b8⟩ := hs 0 (x / 256 / 256 / 256 / 256 / 256 / 256 / 256)
  rw [z0] at a8
  rw [q0] at b8
  have g := gather _ _ _ _ _ _ _ _ (hb x) (hb (x / 256)) (hb (x / 256 / 256)) (hb (x / 256 / 256 / 256)) (hb (x / 256 / 256 / 256 / 256)) (hb (x / 256 / 256 / 256 / 256 / 256)) (hb (x / 256 / 256 / 256 / 256 / 256 / 256)) (hb (x / 256 / 256 / 256 / 256 / 256 / 256 / 256)) y v u
    (by rw [hy, a1, a2, a3, a4, a5, a6, a7, a8, Nat.zero_mul, Nat.zero_add]) hv hu
  refine ⟨?_, g.2⟩
  rw [g.1, b1, b2, b3, b4, b5, b6, b7, b8]
  omega
theorem rep85 : rep 85 8 = 6148914691236517205 := rfl
theorem rep51 : rep 51 8 = 3689348814741910323 := rfl
theorem rep15 : rep 15 8 = 1085102592571150095 := rfl
end Go.Proofs.Ytblefbjmjhgkkaa

/- The contract of the count of bits. -/
set_option linter.unusedVariables false
set_option maxRecDepth 100000
set_option linter.unusedSimpArgs false
namespace Go.Proofs.Ytblefbjmjhgkkaa
open Go.RowKit


theorem half_and (x d m : Nat) (hx : x < 18446744073709551616) (hm : m < 18446744073709551616) : bits BinOp.and IntKind.u64 ((x : Int) / (d : Int)) (m : Int) = ((x / d &&& m : Nat) : Int) := by
  rw [← Int.natCast_ediv]
  exact bits_and_u64_nat _ _ (Nat.lt_of_le_of_lt (Nat.div_le_self _ _) hx) hm
theorem wrap_nat (n : Nat) (h : n < 18446744073709551616) : IntKind.u64.wrap (n : Int) = (n : Int) := by rw [IntKind.wrap_u64]; omega
theorem wrap_sum (a b : Nat) (h : a + b < 18446744073709551616) : IntKind.u64.wrap ((a : Int) + (b : Int)) = ((a + b : Nat) : Int) := by
  rw [← Int.natCast_add]; exact wrap_nat _ h

theorem ones1 (x : Nat) (hx : x < 18446744073709551616) : IntKind.u64.wrap (bits BinOp.and IntKind.u64 ((x : Int) / 2) 6148914691236517205 + bits BinOp.and IntKind.u64 (x : Int) 6148914691236517205) = ((st1 8 x : Nat) : Int) ∧ st1 8 x < 18446744073709551616 := by
  have h1 := half_and x 2 6148914691236517205 hx (by decide)
  have h2 := bits_and_u64_nat x 6148914691236517205 hx (by decide)
  have b1 : x / 2 &&& 6148914691236517205 ≤ 6148914691236517205 := Nat.and_le_right
  have b2 : x &&& 6148914691236517205 ≤ 6148914691236517205 := Nat.and_le_right
  have e : st1 8 x = (x / 2 &&& 6148914691236517205) + (x &&& 6148914691236517205) := by unfold st1; rw [rep85]
  refine ⟨?_, by omega⟩
  rw [e]
  exact (congrArg IntKind.u64.wrap (congr (congrArg HAdd.hAdd h1) h2)).trans (wrap_sum _ _ (by omega))
theorem ones2 (x : Nat) (hx : x < 18446744073709551616) : IntKind.u64.wrap (bits BinOp.and IntKind.u64 ((x : Int) / 4) 3689348814741910323 + bits BinOp.and IntKind.u64 (x : Int) 3689348814741910323) = ((st2 8 x : Nat) : Int) ∧ st2 8 x ≤ 7378697629483820646 := by
  have h1 := half_and x 4 3689348814741910323 hx (by decide)
  have h2 := bits_and_u64_nat x 3689348814741910323 hx (by decide)
  have b1 : x / 4 &&& 3689348814741910323 ≤ 3689348814741910323 := Nat.and_le_right
  have b2 : x &&& 3689348814741910323 ≤ 3689348814741910323 := Nat.and_le_right
  have e : st2 8 x = (x / 4 &&& 3689348814741910323) + (x &&& 3689348814741910323) := by unfold st2; rw [rep51]
  refine ⟨?_, by omega⟩
  rw [e]
  exact (congrArg IntKind.u64.wrap (congr (congrArg HAdd.hAdd h1) h2)).trans (wrap_sum _ _ (by omega))
theorem ones3 (x : Nat) (hx : x ≤ 7378697629483820646) : bits BinOp.and IntKind.u64 (IntKind.u64.wrap ((x : Int) / 16 + (x : Int))) 1085102592571150095 = ((st3 8 x : Nat) : Int) ∧ st3 8 x ≤ 1085102592571150095 := by
  have e : st3 8 x = (x / 16 + x) &&& 1085102592571150095 := by unfold st3; rw [rep15]
  refine ⟨?_, by rw [e]; exact Nat.and_le_right⟩
  rw [e]
  have h1 : IntKind.u64.wrap ((x : Int) / 16 + (x : Int)) = ((x / 16 + x : Nat) : Int) := by rw [IntKind.wrap_u64]; omega
  rw [h1]
  exact bits_and_u64_nat _ 1085102592571150095 (by omega) (by decide)

end Go.Proofs.Ytblefbjmjhgkkaa

/- The contracts of the program's own sets: those that only compute. -/
set_option linter.unusedVariables false
set_option maxRecDepth 100000
set_option linter.unusedSimpArgs false
namespace Go.Proofs.Ytblefbjmjhgkkaa
open Go.RowKit

theorem onl_shl (k : Nat) : IntKind.u64.wrap (2 ^ min k 64) = ((onl (k : Int) : Nat) : Int) := by
  by_cases h : k < 64
  · have e : onl (k : Int) = 2 ^ k := by unfold onl; rw [if_pos (by omega)]; rfl
    rw [e, Nat.min_eq_left (by omega)]
    have l := onl_lt (k : Int)
    rw [e] at l
    have := wrap_nat (2 ^ k) l
    simpa using this
  · have e : onl (k : Int) = 0 := by unfold onl; rw [if_neg (by omega)]
    rw [e, Nat.min_eq_right (by omega)]
    decide
theorem beq_cast (n : Nat) : (((n : Nat) : Int) == 0) = (n == 0) := by
  cases n with
  | zero => rfl
  | succ n => rw [show (n + 1 == 0) = false from rfl]; simp; omega
theorem bne_cast (n : Nat) : (((n : Nat) : Int) != 0) = !(n == 0) := by
  rw [bne, beq_cast]
/-- Does b have all that a has? -/
def inn (a b : Nat) : Bool := but a b == 0
theorem most_cast (a b : Nat) : decide ((card b : Int) < 2 * (card (both a b) : Int)) = most a b := by
  unfold most
  congr 1
  apply propext
  omega
theorem below_neg (n : Int) (h : n < 0) : (below n : Nat) = 0 := by
  rw [below_clip n 0 (by decide) (by omega), below_nat 0 (by decide)]
theorem below_big (n : Int) (h : 64 < n) : (below n : Nat) = 18446744073709551615 := by
  rw [below_clip n 64 (by decide) (by omega), below_nat 64 (by decide)]
theorem below_mid (k : Nat) (h : k ≤ 64) : IntKind.u64.wrap (IntKind.u64.wrap (2 ^ k) - 1) = ((below (k : Int) : Nat) : Int) := by
  rw [below_nat k h]
  by_cases h2 : k = 64
  · subst h2; decide
  · have l : 2 ^ k < 2 ^ 64 := Nat.pow_lt_pow_right (by decide) (by omega)
    have p : 0 < 2 ^ k := Nat.two_pow_pos k
    have e := wrap_nat (2 ^ k) l
    rw [Int.natCast_pow] at e
    have c2 : (((2 : Nat)) : Int) = 2 := rfl
    rw [c2] at e
    rw [e]
    have e3 : ((2 : Int) ^ k - 1) = ((2 ^ k - 1 : Nat) : Int) := by
      rw [Int.natCast_sub p, Int.natCast_pow]; rfl
    rw [e3]
    exact wrap_nat _ (by omega)

theorem all_any (n : Int) (w : World) (h0 : -9223372036854775808 ≤ n) (h1 : n ≤ 9223372036854775807) :
    Calls Try.prog 42 #[.int .i64 n] w fun e w' => e = .returned (.int .u64 (below n : Nat)) ∧ w = w' := by
  by_cases hn : n < 0
  · rw [below_neg n hn]
    go_enter Try.func42, Try.ntmps42
    go_wp2
    go_ret
    exact ⟨rfl, rfl⟩
  by_cases hb : 64 < n
  · rw [below_big n hb]
    go_enter Try.func42, Try.ntmps42
    go_wp2
    go_ret
    exact ⟨rfl, rfl⟩
  obtain ⟨k, rfl⟩ := Int.eq_ofNat_of_zero_le (show 0 ≤ n by omega)
  have H := Lib.hid (below_mid k (by omega))
  go_enter Try.func42, Try.ntmps42
  go_wp2
  go_ret
  exact ⟨by rw [← H.out]; rfl, rfl⟩
end Go.Proofs.Ytblefbjmjhgkkaa

/- The contracts of the program's own sets: Min, Of, With, Less, List. -/
set_option linter.unusedVariables false
set_option maxRecDepth 100000
set_option linter.unusedSimpArgs false
namespace Go.Proofs.Ytblefbjmjhgkkaa
open Go.RowKit

theorem tz_key (x a : Nat) (hx : x < 18446744073709551616) (hx0 : x ≠ 0) (hlw : x &&& (18446744073709551616 - x) = a) :
    IntKind.u64.wrap (bits BinOp.and IntKind.u64 (x : Int) (IntKind.u64.wrap (-(x : Int))) * 285870213051353865) / 288230376151711744 = ((a * 285870213051353865 % 18446744073709551616 / 288230376151711744 : Nat) : Int) := by
  have e1 : IntKind.u64.wrap (-(x : Int)) = ((18446744073709551616 - x : Nat) : Int) := by rw [IntKind.wrap_u64]; omega
  rw [e1, bits_and_u64_nat x _ hx (by omega), hlw, IntKind.wrap_u64]
  omega

/-- A slice whose elements are the numbers l. -/
structure InI (w : World) (ao : Option Addr) (len : Nat) (l : List Int) : Prop where
  size : l.length = len
  src : ∀ j v, l[j]? = some v → ∃ ad, ao = some ad ∧ w.cell? (ad.add j) = some (.int .i64 v)
  bd : ∀ v ∈ l, -9223372036854775808 ≤ v ∧ v ≤ 9223372036854775807
theorem InI.below {w w' : World} {ao : Option Addr} {len : Nat} {l : List Int} (h : InI w ao len l) (hb : Below w.heap.size w w') : InI w' ao len l :=
  ⟨h.size, fun j v hj => let ⟨ad, e, hc⟩ := h.src j v hj; ⟨ad, e, cell_later hb hc⟩, h.bd⟩

end Go.Proofs.Ytblefbjmjhgkkaa
