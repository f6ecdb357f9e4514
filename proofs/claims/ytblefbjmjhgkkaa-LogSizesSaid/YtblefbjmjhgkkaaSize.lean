/- The contract of the count of bits. -/
import Derived.Test.YtblefbjmjhgkkaaRows
import Derived.Test.YtblefbjmjhgkkaaPop
import Derived.WalkKit
import Derived.ProofKit
import Derived.OpenShut
import Derived.LoopTactic
import Derived.Lib.Hide
import Derived.Laws.Bits64
import Derived.Laws.Bits64b
import Derived.Laws.Bits128
import Derived.IntWalk
set_option linter.unusedVariables false
set_option maxRecDepth 100000
set_option linter.unusedSimpArgs false
namespace Go.Proofs.Ytblefbjmjhgkkaa
open Go.RowKit


theorem half_and (x d m : Nat) (hx : x < 18446744073709551616) (hm : m < 18446744073709551616) : bits BinOp.and IntKind.u64 ((x : Int) / (d : Int)) (m : Int) = ((x / d &&& m : Nat) : Int) := by
  rw [← Int.natCast_ediv]
  exact bits_and_u64_nat _ _ (Nat.lt_of_le_of_lt (Nat.div_le_self _ _) hx) hm
theorem wrap_nat (n : Nat) (h : n < 18446744073709551616) : IntKind.u64.wrap (n : Int) = (n : Int) := by rw [IntKind.wrap_u64]; omega
theorem wrap_sum (a b : Nat) (h : a + b < 18446744073709551616) : IntKind.u64.wrap ((a : Int) + (b : Int)) = ((a + b : Nat) : Int) := by
  rw [← Int.natCast_add]; exact wrap_nat _ h

theorem ones1 (x : Nat) (hx : x < 18446744073709551616) : IntKind.u64.wrap (bits BinOp.and IntKind.u64 ((x : Int) / 2) 6148914691236517205 + bits BinOp.and IntKind.u64 (x : Int) 6148914691236517205) = ((st1 8 x : Nat) : Int) ∧ st1 8 x < 18446744073709551616 := by
  have h1 := half_and x 2 6148914691236517205 hx (by decide)
  have h2 := bits_and_u64_nat x 6148914691236517205 hx (by decide)
  have b1 : x / 2 &&& 6148914691236517205 ≤ 6148914691236517205 := Nat.and_le_right
  have b2 : x &&& 6148914691236517205 ≤ 6148914691236517205 := Nat.and_le_right
  have e : st1 8 x = (x / 2 &&& 6148914691236517205) + (x &&& 6148914691236517205) := by unfold st1; rw [rep85]
  refine ⟨?_, by omega⟩
  rw [e]
  exact (congrArg IntKind.u64.wrap (congr (congrArg HAdd.hAdd h1) h2)).trans (wrap_sum _ _ (by omega))
theorem ones2 (x : Nat) (hx : x < 18446744073709551616) : IntKind.u64.wrap (bits BinOp.and IntKind.u64 ((x : Int) / 4) 3689348814741910323 + bits BinOp.and IntKind.u64 (x : Int) 3689348814741910323) = ((st2 8 x : Nat) : Int) ∧ st2 8 x ≤ 7378697629483820646 := by
  have h1 := half_and x 4 3689348814741910323 hx (by decide)
  have h2 := bits_and_u64_nat x 3689348814741910323 hx (by decide)
  have b1 : x / 4 &&& 3689348814741910323 ≤ 3689348814741910323 := Nat.and_le_right
  have b2 : x &&& 3689348814741910323 ≤ 3689348814741910323 := Nat.and_le_right
  have e : st2 8 x = (x / 4 &&& 3689348814741910323) + (x &&& 3689348814741910323) := by unfold st2; rw [rep51]
  refine ⟨?_, by omega⟩
  rw [e]
  exact (congrArg IntKind.u64.wrap (congr (congrArg HAdd.hAdd h1) h2)).trans (wrap_sum _ _ (by omega))
theorem ones3 (x : Nat) (hx : x ≤ 7378697629483820646) : bits BinOp.and IntKind.u64 (IntKind.u64.wrap ((x : Int) / 16 + (x : Int))) 1085102592571150095 = ((st3 8 x : Nat) : Int) ∧ st3 8 x ≤ 1085102592571150095 := by
  have e : st3 8 x = (x / 16 + x) &&& 1085102592571150095 := by unfold st3; rw [rep15]
  refine ⟨?_, by rw [e]; exact Nat.and_le_right⟩
  rw [e]
  have h1 : IntKind.u64.wrap ((x : Int) / 16 + (x : Int)) = ((x / 16 + x : Nat) : Int) := by rw [IntKind.wrap_u64]; omega
  rw [h1]
  exact bits_and_u64_nat _ 1085102592571150095 (by omega) (by decide)

end Go.Proofs.Ytblefbjmjhgkkaa
