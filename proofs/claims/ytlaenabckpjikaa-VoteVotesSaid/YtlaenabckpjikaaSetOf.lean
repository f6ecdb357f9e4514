/- The contracts of the program's own sets: Min, Of, With, Less, List. -/
import Derived.Test.YtlaenabckpjikaaSetFns
import Derived.Laws.MakeOwn
import Derived.OwnWalk
import Derived.WalkSpells
import Derived.Laws.NewBlocks
import Derived.Laws.CopyOwn
import Derived.Deep.QuietTactic
import Derived.BigQuiet
import Derived.Maps.AppendAt
set_option linter.unusedVariables false
set_option linter.unusedSimpArgs false
namespace Go.Proofs.Ytlaenabckpjikaa
open Go.RowKit

theorem tz_key (x a : Nat) (hx : x < 18446744073709551616) (hx0 : x ≠ 0) (hlw : x &&& (18446744073709551616 - x) = a) :
    IntKind.u64.wrap (bits BinOp.and IntKind.u64 (x : Int) (IntKind.u64.wrap (-(x : Int))) * 285870213051353865) / 288230376151711744 = ((a * 285870213051353865 % 18446744073709551616 / 288230376151711744 : Nat) : Int) := by
  have e1 : IntKind.u64.wrap (-(x : Int)) = ((18446744073709551616 - x : Nat) : Int) := by rw [IntKind.wrap_u64]; omega
  rw [e1, bits_and_u64_nat x _ hx (by omega), hlw, IntKind.wrap_u64]
  omega

/-- A slice whose elements are the numbers l. -/
structure InI (w : World) (ao : Option Addr) (len : Nat) (l : List Int) : Prop where
  size : l.length = len
  src : ∀ j v, l[j]? = some v → ∃ ad, ao = some ad ∧ w.cell? (ad.add j) = some (.int .i64 v)
  bd : ∀ v ∈ l, -9223372036854775808 ≤ v ∧ v ≤ 9223372036854775807
theorem InI.below {w w' : World} {ao : Option Addr} {len : Nat} {l : List Int} (h : InI w ao len l) (hb : Below w.heap.size w w') : InI w' ao len l :=
  ⟨h.size, fun j v hj => let ⟨ad, e, hc⟩ := h.src j v hj; ⟨ad, e, cell_later hb hc⟩, h.bd⟩

end Go.Proofs.Ytlaenabckpjikaa
