/- The contracts of the program's own sets: Min, Of, With, Less, List. -/
import Derived.Test.YthgdiihibjnhoaaSetFns
import Derived.Laws.MakeOwn
import Derived.OwnWalk
import Derived.WalkSpells
import Derived.Laws.NewBlocks
import Derived.Laws.CopyOwn
import Derived.Deep.QuietTactic
import Derived.BigQuiet
import Derived.Maps.AppendAt
set_option linter.unusedVariables false
set_option linter.unusedSimpArgs false
namespace Go.Proofs.Ythgdiihibjnhoaa
open Go.RowKit

/-- A slice whose elements are the numbers l. -/
structure InI (w : World) (ao : Option Addr) (len : Nat) (l : List Int) : Prop where
  size : l.length = len
  src : ∀ j v, l[j]? = some v → ∃ ad, ao = some ad ∧ w.cell? (ad.add j) = some (.int .i64 v)
  bd : ∀ v ∈ l, -9223372036854775808 ≤ v ∧ v ≤ 9223372036854775807
theorem InI.below {w w' : World} {ao : Option Addr} {len : Nat} {l : List Int} (h : InI w ao len l) (hb : Below w.heap.size w w') : InI w' ao len l :=
  ⟨h.size, fun j v hj => let ⟨ad, e, hc⟩ := h.src j v hj; ⟨ad, e, cell_later hb hc⟩, h.bd⟩

set_option maxHeartbeats 400000 in
theorem of_any (ao : Option Addr) (len c : Nat) (l : List Int) (w : World) (hin : InI w ao len l) (hl : len ≤ 1099511627776) :
    Calls Try.prog 13 #[.slice ao len c] w fun e w' => e = .returned (.int .u64 (ofl l : Nat)) ∧ w = w' := by
  obtain ⟨hlen, hsrc, hbd⟩ := hin
  have HL := Lib.hid hlen
  have HS := Lib.hid hsrc
  have HB := Lib.hid hbd
  clear hlen hsrc hbd
  go_enter Try.func13, Try.ntmps13
  go_wp2
  go_loop [3, 8] (fun s i => ∃ k : Nat, k ≤ len ∧ i = .int .i64 k ∧ s = .int .u64 (ofl (l.take k) : Nat)) (fun _ i => len - (intOf i).toNat)
  case atStart => exact ⟨0, Nat.zero_le _, rfl, by rw [List.take_zero, ofl_nil]; rfl⟩
  case round =>
    obtain ⟨k, hk, rfl, rfl⟩ := hrel
    by_cases hlt : k < len
    · have hkl : k < l.length := by rw [HL.out]; exact hlt
      obtain ⟨ad, rfl, hc⟩ := HS.out k l[k] (List.getElem?_eq_getElem hkl)
      obtain ⟨b0, b1⟩ := HB.out l[k] (List.getElem_mem hkl)
      have HT := Lib.hid (show l.take (k + 1) = l.take k ++ [l[k]] from List.take_succ_eq_append_getElem hkl)
      have HA := Lib.hid (any_eq (ofl (l.take k)) (onl l[k]) (ofl_lt _) (onl_lt _))
      generalize l[k] = z at *
      have HO := Lib.hid (ofl_snoc (l.take k) z)
      clear hkl
      go_wp2_with fail
      refine (only_any z _ b0 b1).mono ?_
      rintro e w' ⟨rfl, rfl⟩
      go_wp2
      go_round
      case rel => exact ⟨k + 1, by omega, by go_num, by rw [HT.out, ← HO.out, ← HA.out]⟩
      case measure => simp [intOf]; omega
    · have HK := Lib.hid (show l.take k = l from List.take_of_length_le (by rw [HL.out]; omega))
      go_wp2
      go_ret
      exact ⟨by rw [HK.out]; rfl, rfl⟩

theorem with_any (a : Nat) (ao : Option Addr) (len c : Nat) (l : List Int) (w : World) (ha : a < 18446744073709551616) (hin : InI w ao len l) (hl : len ≤ 1099511627776) :
    Calls Try.prog 28 #[.int .u64 a, .slice ao len c] w fun e w' => e = .returned (.int .u64 (any a (ofl l) : Nat)) ∧ w = w' := by
  go_enter Try.func28, Try.ntmps28
  go_wp2_with fail
  refine (of_any _ _ _ _ _ hin hl).mono ?_
  rintro e w' ⟨rfl, rfl⟩
  go_wp2_with fail
  refine (any_any _ _ _ ha (ofl_lt _)).mono ?_
  rintro e w' ⟨rfl, rfl⟩
  go_wp2
  go_ret
  exact ⟨rfl, rfl⟩
end Go.Proofs.Ythgdiihibjnhoaa
