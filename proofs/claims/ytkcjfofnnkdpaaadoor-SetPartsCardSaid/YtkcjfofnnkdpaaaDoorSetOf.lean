/- The contracts of the program's own sets: Min, Of, With, Less, List. -/
import Derived.Test.YtkcjfofnnkdpaaaDoorSetFns
import Derived.Laws.MakeOwn
import Derived.OwnWalk
import Derived.WalkSpells
import Derived.Laws.NewBlocks
import Derived.Laws.CopyOwn
import Derived.Deep.QuietTactic
import Derived.BigQuiet
import Derived.Maps.AppendAt
set_option linter.unusedVariables false
set_option linter.unusedSimpArgs false
namespace Go.Proofs.YtkcjfofnnkdpaaaDoor
open Go.RowKit

/-- The library's table stands in its variable. -/
structure Tab (w : World) : Prop where
  size : 0 < w.heap.size
  at_ : ∀ j, j < 64 → w.cell? ⟨0, j, none⟩ = some (.int .u8 (Lib.deBruijn64tab.getD j 0 : Nat))
theorem Tab.below {w w' : World} (h : Tab w) {B : Nat} (hb : Below B w w') (hB : w.heap.size ≤ B) : Tab w' :=
  ⟨Nat.lt_of_lt_of_le h.size hb.size, fun j hj => (hb.cell (p := ⟨_, j, none⟩) (Nat.lt_of_lt_of_le h.size hB)).trans (h.at_ j hj)⟩

theorem tz_key (x a : Nat) (hx : x < 18446744073709551616) (hx0 : x ≠ 0) (hlow : x &&& (18446744073709551616 - x) = a) :
    IntKind.u64.wrap (bits BinOp.and IntKind.u64 (x : Int) (IntKind.u64.wrap (-(x : Int))) * 285870213051353865) / 288230376151711744 = ((a * 285870213051353865 % 18446744073709551616 / 288230376151711744 : Nat) : Int) := by
  have e1 : IntKind.u64.wrap (-(x : Int)) = ((18446744073709551616 - x : Nat) : Int) := by rw [IntKind.wrap_u64]; omega
  rw [e1, bits_and_u64_nat x _ hx (by omega), hlow, IntKind.wrap_u64]
  omega

theorem tz_core (x k idx : Nat) (w : World) (h0 : ((x : Int) == 0) = false)
    (key : IntKind.u64.wrap (bits BinOp.and IntKind.u64 (x : Int) (IntKind.u64.wrap (-(x : Int))) * 285870213051353865) / 288230376151711744 = (idx : Int))
    (hi : idx < 64) (hk : k < 64) (hcell : w.cell? ⟨0, idx, none⟩ = some (.int .u8 k)) :
    Calls Tryd.prog 39 #[.int .u64 x] w fun e w' => e = .returned (.int .i64 k) ∧ w = w' := by
  go_enter Tryd.func39, Tryd.ntmps39
  go_wp2_with (simp only [key])
  go_ret
  exact ⟨rfl, rfl⟩
theorem tz_any (x : Nat) (w : World) (hx : x < 18446744073709551616) (hx0 : x ≠ 0) (hT : Tab w) :
    Calls Tryd.prog 39 #[.int .u64 x] w fun e w' => e = .returned (.int .i64 (Lib.ctz 64 x)) ∧ w = w' := by
  obtain ⟨hlow, hk⟩ := Lib.lowest_bit 64 x hx0 hx
  obtain ⟨hi, htab⟩ := Lib.deBruijn64_at _ hk
  have hcell := hT.at_ _ hi
  rw [htab] at hcell
  exact tz_core x _ _ w (by simp; omega) (tz_key x _ hx hx0 hlow) hi hk hcell

theorem min_any (x : Nat) (w : World) (hx : x < 18446744073709551616) (hT : x ≠ 0 → Tab w) :
    Calls Tryd.prog 22 #[.int .u64 x] w fun e w' => e = .returned (.int .i64 (mn x)) ∧ w = w' := by
  by_cases h : x = 0
  · subst h
    rw [mn_zero]
    clear hT
    go_enter Tryd.func22, Tryd.ntmps22
    go_wp2
    go_ret
    exact ⟨rfl, rfl⟩
  · have h0 : ((x : Int) == 0) = false := by simp; omega
    have HT := Lib.hid (hT h)
    have HM := Lib.hid (show mn x = (Lib.ctz 64 x : Int) by unfold mn; rw [if_neg h])
    have HX := Lib.hid h
    clear hT h
    go_enter Tryd.func22, Tryd.ntmps22
    go_wp2_with fail
    refine (tz_any _ _ hx HX.out HT.out).mono ?_
    rintro e w' ⟨rfl, rfl⟩
    go_wp2
    go_ret
    exact ⟨by rw [HM.out]; rfl, rfl⟩

/-- A slice whose elements are the numbers l. -/
structure InI (w : World) (ao : Option Addr) (len : Nat) (l : List Int) : Prop where
  size : l.length = len
  src : ∀ j v, l[j]? = some v → ∃ ad, ao = some ad ∧ w.cell? (ad.add j) = some (.int .i64 v)
  bd : ∀ v ∈ l, -9223372036854775808 ≤ v ∧ v ≤ 9223372036854775807
theorem InI.below {w w' : World} {ao : Option Addr} {len : Nat} {l : List Int} (h : InI w ao len l) (hb : Below w.heap.size w w') : InI w' ao len l :=
  ⟨h.size, fun j v hj => let ⟨ad, e, hc⟩ := h.src j v hj; ⟨ad, e, cell_later hb hc⟩, h.bd⟩

set_option maxHeartbeats 400000 in
theorem of_any (ao : Option Addr) (len c : Nat) (l : List Int) (w : World) (hin : InI w ao len l) (hl : len ≤ 1099511627776) :
    Calls Tryd.prog 32 #[.slice ao len c] w fun e w' => e = .returned (.int .u64 (ofl l : Nat)) ∧ w = w' := by
  obtain ⟨hlen, hsrc, hbd⟩ := hin
  have HL := Lib.hid hlen
  have HS := Lib.hid hsrc
  have HB := Lib.hid hbd
  clear hlen hsrc hbd
  go_enter Tryd.func32, Tryd.ntmps32
  go_wp2
  go_loop [3, 8] (fun s i => ∃ k : Nat, k ≤ len ∧ i = .int .i64 k ∧ s = .int .u64 (ofl (l.take k) : Nat)) (fun _ i => len - (intOf i).toNat)
  case atStart => exact ⟨0, Nat.zero_le _, rfl, by rw [List.take_zero, ofl_nil]; rfl⟩
  case round =>
    obtain ⟨k, hk, rfl, rfl⟩ := hrel
    by_cases hlt : k < len
    · have hkl : k < l.length := by rw [HL.out]; exact hlt
      obtain ⟨ad, rfl, hc⟩ := HS.out k l[k] (List.getElem?_eq_getElem hkl)
      obtain ⟨b0, b1⟩ := HB.out l[k] (List.getElem_mem hkl)
      have HT := Lib.hid (show l.take (k + 1) = l.take k ++ [l[k]] from List.take_succ_eq_append_getElem hkl)
      have HA := Lib.hid (any_eq (ofl (l.take k)) (onl l[k]) (ofl_lt _) (onl_lt _))
      generalize l[k] = z at *
      have HO := Lib.hid (ofl_snoc (l.take k) z)
      clear hkl
      go_wp2_with fail
      refine (only_any z _ b0 b1).mono ?_
      rintro e w' ⟨rfl, rfl⟩
      go_wp2
      go_round
      case rel => exact ⟨k + 1, by omega, by go_num, by rw [HT.out, ← HO.out, ← HA.out]⟩
      case measure => simp [intOf]; omega
    · have HK := Lib.hid (show l.take k = l from List.take_of_length_le (by rw [HL.out]; omega))
      go_wp2
      go_ret
      exact ⟨by rw [HK.out]; rfl, rfl⟩

theorem with_any (a : Nat) (ao : Option Addr) (len c : Nat) (l : List Int) (w : World) (ha : a < 18446744073709551616) (hin : InI w ao len l) (hl : len ≤ 1099511627776) :
    Calls Tryd.prog 33 #[.int .u64 a, .slice ao len c] w fun e w' => e = .returned (.int .u64 (any a (ofl l) : Nat)) ∧ w = w' := by
  go_enter Tryd.func33, Tryd.ntmps33
  go_wp2_with fail
  refine (of_any _ _ _ _ _ hin hl).mono ?_
  rintro e w' ⟨rfl, rfl⟩
  go_wp2_with fail
  refine (any_any _ _ _ ha (ofl_lt _)).mono ?_
  rintro e w' ⟨rfl, rfl⟩
  go_wp2
  go_ret
  exact ⟨rfl, rfl⟩
theorem less_any (a : Nat) (ao : Option Addr) (len c : Nat) (l : List Int) (w : World) (ha : a < 18446744073709551616) (hin : InI w ao len l) (hl : len ≤ 1099511627776) :
    Calls Tryd.prog 34 #[.int .u64 a, .slice ao len c] w fun e w' => e = .returned (.int .u64 (but a (ofl l) : Nat)) ∧ w = w' := by
  go_enter Tryd.func34, Tryd.ntmps34
  go_wp2_with fail
  refine (of_any _ _ _ _ _ hin hl).mono ?_
  rintro e w' ⟨rfl, rfl⟩
  go_wp2_with fail
  refine (but_any _ _ _ ha (ofl_lt _)).mono ?_
  rintro e w' ⟨rfl, rfl⟩
  go_wp2
  go_ret
  exact ⟨rfl, rfl⟩
end Go.Proofs.YtkcjfofnnkdpaaaDoor
