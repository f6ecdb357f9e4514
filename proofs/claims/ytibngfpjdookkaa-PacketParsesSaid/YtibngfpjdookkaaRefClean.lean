/- The document's Clean: which fields a kind names. -/
import Derived.Test.YtibngfpjdookkaaPkVal
import Derived.Test.YtibngfpjdookkaaWrAll
import Derived.Deep.DeepCutAuto
set_option linter.unusedVariables false
set_option linter.unusedSimpArgs false
namespace Go.Proofs.Ytibngfpjdookkaa
open Go.RowKit Go.Sort

/-- The row of a kind, as the document's reader of rows spells it. -/
def rowS : Nat → ByteArray
  | 1 => ⟨#[99, 109]⟩
  | 2 => ⟨#[99, 115, 110, 103, 104]⟩
  | 3 => ⟨#[99, 119, 113]⟩
  | 4 => ⟨#[99, 112, 101, 98]⟩
  | 5 => ⟨#[99, 98]⟩
  | 6 => ⟨#[99, 120]⟩
  | 7 => ⟨#[99, 98, 108]⟩
  | 8 => ⟨#[99, 119, 113]⟩
  | 9 => ⟨#[99, 119, 109]⟩
  | 10 => ⟨#[99]⟩
  | 11 => ⟨#[99]⟩
  | _ => ⟨#[]⟩
def hasB (r : ByteArray) (f : Nat) : Bool := (r.data.toList.map UInt8.toNat).contains f
theorem hasB_at {r : ByteArray} {f k : Nat} (h : k < r.size) (he : r[k].toNat = f) : hasB r f = true := by
  unfold hasB
  rw [List.contains_iff_mem]
  refine List.mem_map.2 ⟨r[k], ?_, he⟩
  exact Array.mem_toList_iff.2 (Array.getElem_mem h)
theorem hasB_no {r : ByteArray} {f : Nat} (h : ∀ k (hk : k < r.size), r[k].toNat ≠ f) : hasB r f = false := by
  unfold hasB
  rw [Bool.eq_false_iff, ne_eq, List.contains_iff_mem]
  intro hm
  obtain ⟨b, hb, rfl⟩ := List.mem_map.1 hm
  obtain ⟨k, hk, e⟩ := Array.getElem_of_mem (Array.mem_toList_iff.1 hb)
  exact h k hk (by show (r.data[k]).toNat = _; rw [e])

set_option maxHeartbeats 1000000 in
theorem has_any (r : ByteArray) (f : Nat) (hf : f < 256) (hr : r.size ≤ 100) (w : World) :
    Calls Try.prog 38 #[.string r, .int .u8 (f : Int)] w fun e w' => e = .returned (.bool (hasB r f)) ∧ w = w' := by
  go_enter Try.func38, Try.ntmps38
  go_wp2
  go_loopw [5] (fun si wr => ∃ k : Nat, k ≤ r.size ∧ si = .int .i64 k ∧ wr = w ∧ Hid (∀ j (hj : j < r.size), j < k → r[j].toNat ≠ f)) (fun si _ => r.size - (intOf si).toNat)
  case atStart => exact ⟨0, Nat.zero_le _, rfl, rfl, Lib.hid fun j _ h => absurd h (Nat.not_lt_zero _)⟩
  case round =>
    obtain ⟨k, hk, rfl, rfl, HN⟩ := hrel
    by_cases hlt : k < r.size
    · have HI := Lib.hid (fun he => hasB_at (f := f) hlt he)
      by_cases hz : r[k].toNat = f
      · have HE := Lib.hid (HI.out hz)
        go_wp2
        go_ret
        exact ⟨by rw [HE.out]; rfl, rfl⟩
      · have HN2 : Hid (∀ j (hj : j < r.size), j < k + 1 → r[j].toNat ≠ f) := Lib.hid fun j hj h => by
          by_cases hjk : j = k
          · subst hjk; exact hz
          · exact HN.out j hj (by omega)
        go_wp2
        go_roundw
        case rel => exact ⟨k + 1, by omega, by go_num, (by first | rfl | trivial), HN2⟩
        case measure => simp [intOf]; omega
    · have HE : Hid (hasB r f = false) := Lib.hid (hasB_no fun j hj => HN.out j hj (by omega))
      go_wp2
      go_ret
      exact ⟨by rw [HE.out]; rfl, rfl⟩
set_option maxHeartbeats 1000000 in
set_option maxRecDepth 100000 in
theorem row_1 (w : World) :
    Calls Try.prog 25 #[.int .i64 1] w fun e w' => e = .returned (.string (rowS 1)) ∧ w = w' := by
  have hi : ∀ w : World, (Instr.index 106 (.agg #[.string { data := #[] }, .string { data := #[99, 109] }, .string { data := #[99, 115, 110, 103, 104] }, .string { data := #[99, 119, 113] }, .string { data := #[99, 112, 101, 98] }, .string { data := #[99, 98] }, .string { data := #[99, 120] }, .string { data := #[99, 98, 108] }, .string { data := #[99, 119, 113] }, .string { data := #[99, 119, 109] }, .string { data := #[99] }, .string { data := #[99] }]) (.int .i64 1)).run Try.prog w = .ok (.string { data := #[99, 109] }) w := fun w => by kernel_rfl
  go_enter Try.func25, Try.ntmps25
  go_wp2
  go_ret
  exact ⟨rfl, rfl⟩
set_option maxHeartbeats 1000000 in
set_option maxRecDepth 100000 in
theorem row_2 (w : World) :
    Calls Try.prog 25 #[.int .i64 2] w fun e w' => e = .returned (.string (rowS 2)) ∧ w = w' := by
  have hi : ∀ w : World, (Instr.index 106 (.agg #[.string { data := #[] }, .string { data := #[99, 109] }, .string { data := #[99, 115, 110, 103, 104] }, .string { data := #[99, 119, 113] }, .string { data := #[99, 112, 101, 98] }, .string { data := #[99, 98] }, .string { data := #[99, 120] }, .string { data := #[99, 98, 108] }, .string { data := #[99, 119, 113] }, .string { data := #[99, 119, 109] }, .string { data := #[99] }, .string { data := #[99] }]) (.int .i64 2)).run Try.prog w = .ok (.string { data := #[99, 115, 110, 103, 104] }) w := fun w => by kernel_rfl
  go_enter Try.func25, Try.ntmps25
  go_wp2
  go_ret
  exact ⟨rfl, rfl⟩
set_option maxHeartbeats 1000000 in
set_option maxRecDepth 100000 in
theorem row_3 (w : World) :
    Calls Try.prog 25 #[.int .i64 3] w fun e w' => e = .returned (.string (rowS 3)) ∧ w = w' := by
  have hi : ∀ w : World, (Instr.index 106 (.agg #[.string { data := #[] }, .string { data := #[99, 109] }, .string { data := #[99, 115, 110, 103, 104] }, .string { data := #[99, 119, 113] }, .string { data := #[99, 112, 101, 98] }, .string { data := #[99, 98] }, .string { data := #[99, 120] }, .string { data := #[99, 98, 108] }, .string { data := #[99, 119, 113] }, .string { data := #[99, 119, 109] }, .string { data := #[99] }, .string { data := #[99] }]) (.int .i64 3)).run Try.prog w = .ok (.string { data := #[99, 119, 113] }) w := fun w => by kernel_rfl
  go_enter Try.func25, Try.ntmps25
  go_wp2
  go_ret
  exact ⟨rfl, rfl⟩
set_option maxHeartbeats 1000000 in
set_option maxRecDepth 100000 in
theorem row_4 (w : World) :
    Calls Try.prog 25 #[.int .i64 4] w fun e w' => e = .returned (.string (rowS 4)) ∧ w = w' := by
  have hi : ∀ w : World, (Instr.index 106 (.agg #[.string { data := #[] }, .string { data := #[99, 109] }, .string { data := #[99, 115, 110, 103, 104] }, .string { data := #[99, 119, 113] }, .string { data := #[99, 112, 101, 98] }, .string { data := #[99, 98] }, .string { data := #[99, 120] }, .string { data := #[99, 98, 108] }, .string { data := #[99, 119, 113] }, .string { data := #[99, 119, 109] }, .string { data := #[99] }, .string { data := #[99] }]) (.int .i64 4)).run Try.prog w = .ok (.string { data := #[99, 112, 101, 98] }) w := fun w => by kernel_rfl
  go_enter Try.func25, Try.ntmps25
  go_wp2
  go_ret
  exact ⟨rfl, rfl⟩
set_option maxHeartbeats 1000000 in
set_option maxRecDepth 100000 in
theorem row_5 (w : World) :
    Calls Try.prog 25 #[.int .i64 5] w fun e w' => e = .returned (.string (rowS 5)) ∧ w = w' := by
  have hi : ∀ w : World, (Instr.index 106 (.agg #[.string { data := #[] }, .string { data := #[99, 109] }, .string { data := #[99, 115, 110, 103, 104] }, .string { data := #[99, 119, 113] }, .string { data := #[99, 112, 101, 98] }, .string { data := #[99, 98] }, .string { data := #[99, 120] }, .string { data := #[99, 98, 108] }, .string { data := #[99, 119, 113] }, .string { data := #[99, 119, 109] }, .string { data := #[99] }, .string { data := #[99] }]) (.int .i64 5)).run Try.prog w = .ok (.string { data := #[99, 98] }) w := fun w => by kernel_rfl
  go_enter Try.func25, Try.ntmps25
  go_wp2
  go_ret
  exact ⟨rfl, rfl⟩
set_option maxHeartbeats 1000000 in
set_option maxRecDepth 100000 in
theorem row_6 (w : World) :
    Calls Try.prog 25 #[.int .i64 6] w fun e w' => e = .returned (.string (rowS 6)) ∧ w = w' := by
  have hi : ∀ w : World, (Instr.index 106 (.agg #[.string { data := #[] }, .string { data := #[99, 109] }, .string { data := #[99, 115, 110, 103, 104] }, .string { data := #[99, 119, 113] }, .string { data := #[99, 112, 101, 98] }, .string { data := #[99, 98] }, .string { data := #[99, 120] }, .string { data := #[99, 98, 108] }, .string { data := #[99, 119, 113] }, .string { data := #[99, 119, 109] }, .string { data := #[99] }, .string { data := #[99] }]) (.int .i64 6)).run Try.prog w = .ok (.string { data := #[99, 120] }) w := fun w => by kernel_rfl
  go_enter Try.func25, Try.ntmps25
  go_wp2
  go_ret
  exact ⟨rfl, rfl⟩
set_option maxHeartbeats 1000000 in
set_option maxRecDepth 100000 in
theorem row_7 (w : World) :
    Calls Try.prog 25 #[.int .i64 7] w fun e w' => e = .returned (.string (rowS 7)) ∧ w = w' := by
  have hi : ∀ w : World, (Instr.index 106 (.agg #[.string { data := #[] }, .string { data := #[99, 109] }, .string { data := #[99, 115, 110, 103, 104] }, .string { data := #[99, 119, 113] }, .string { data := #[99, 112, 101, 98] }, .string { data := #[99, 98] }, .string { data := #[99, 120] }, .string { data := #[99, 98, 108] }, .string { data := #[99, 119, 113] }, .string { data := #[99, 119, 109] }, .string { data := #[99] }, .string { data := #[99] }]) (.int .i64 7)).run Try.prog w = .ok (.string { data := #[99, 98, 108] }) w := fun w => by kernel_rfl
  go_enter Try.func25, Try.ntmps25
  go_wp2
  go_ret
  exact ⟨rfl, rfl⟩
set_option maxHeartbeats 1000000 in
set_option maxRecDepth 100000 in
theorem row_8 (w : World) :
    Calls Try.prog 25 #[.int .i64 8] w fun e w' => e = .returned (.string (rowS 8)) ∧ w = w' := by
  have hi : ∀ w : World, (Instr.index 106 (.agg #[.string { data := #[] }, .string { data := #[99, 109] }, .string { data := #[99, 115, 110, 103, 104] }, .string { data := #[99, 119, 113] }, .string { data := #[99, 112, 101, 98] }, .string { data := #[99, 98] }, .string { data := #[99, 120] }, .string { data := #[99, 98, 108] }, .string { data := #[99, 119, 113] }, .string { data := #[99, 119, 109] }, .string { data := #[99] }, .string { data := #[99] }]) (.int .i64 8)).run Try.prog w = .ok (.string { data := #[99, 119, 113] }) w := fun w => by kernel_rfl
  go_enter Try.func25, Try.ntmps25
  go_wp2
  go_ret
  exact ⟨rfl, rfl⟩
set_option maxHeartbeats 1000000 in
set_option maxRecDepth 100000 in
theorem row_9 (w : World) :
    Calls Try.prog 25 #[.int .i64 9] w fun e w' => e = .returned (.string (rowS 9)) ∧ w = w' := by
  have hi : ∀ w : World, (Instr.index 106 (.agg #[.string { data := #[] }, .string { data := #[99, 109] }, .string { data := #[99, 115, 110, 103, 104] }, .string { data := #[99, 119, 113] }, .string { data := #[99, 112, 101, 98] }, .string { data := #[99, 98] }, .string { data := #[99, 120] }, .string { data := #[99, 98, 108] }, .string { data := #[99, 119, 113] }, .string { data := #[99, 119, 109] }, .string { data := #[99] }, .string { data := #[99] }]) (.int .i64 9)).run Try.prog w = .ok (.string { data := #[99, 119, 109] }) w := fun w => by kernel_rfl
  go_enter Try.func25, Try.ntmps25
  go_wp2
  go_ret
  exact ⟨rfl, rfl⟩
set_option maxHeartbeats 1000000 in
set_option maxRecDepth 100000 in
theorem row_10 (w : World) :
    Calls Try.prog 25 #[.int .i64 10] w fun e w' => e = .returned (.string (rowS 10)) ∧ w = w' := by
  have hi : ∀ w : World, (Instr.index 106 (.agg #[.string { data := #[] }, .string { data := #[99, 109] }, .string { data := #[99, 115, 110, 103, 104] }, .string { data := #[99, 119, 113] }, .string { data := #[99, 112, 101, 98] }, .string { data := #[99, 98] }, .string { data := #[99, 120] }, .string { data := #[99, 98, 108] }, .string { data := #[99, 119, 113] }, .string { data := #[99, 119, 109] }, .string { data := #[99] }, .string { data := #[99] }]) (.int .i64 10)).run Try.prog w = .ok (.string { data := #[99] }) w := fun w => by kernel_rfl
  go_enter Try.func25, Try.ntmps25
  go_wp2
  go_ret
  exact ⟨rfl, rfl⟩
set_option maxHeartbeats 1000000 in
set_option maxRecDepth 100000 in
theorem row_11 (w : World) :
    Calls Try.prog 25 #[.int .i64 11] w fun e w' => e = .returned (.string (rowS 11)) ∧ w = w' := by
  have hi : ∀ w : World, (Instr.index 106 (.agg #[.string { data := #[] }, .string { data := #[99, 109] }, .string { data := #[99, 115, 110, 103, 104] }, .string { data := #[99, 119, 113] }, .string { data := #[99, 112, 101, 98] }, .string { data := #[99, 98] }, .string { data := #[99, 120] }, .string { data := #[99, 98, 108] }, .string { data := #[99, 119, 113] }, .string { data := #[99, 119, 109] }, .string { data := #[99] }, .string { data := #[99] }]) (.int .i64 11)).run Try.prog w = .ok (.string { data := #[99] }) w := fun w => by kernel_rfl
  go_enter Try.func25, Try.ntmps25
  go_wp2
  go_ret
  exact ⟨rfl, rfl⟩
theorem row_any (k : Nat) (h1 : 1 ≤ k) (h2 : k ≤ 11) (w : World) :
    Calls Try.prog 25 #[.int .i64 (k : Int)] w fun e w' => e = .returned (.string (rowS k)) ∧ w = w' := by
  match k, h1, h2 with
  | 1, _, _ => exact row_1 w
  | 2, _, _ => exact row_2 w
  | 3, _, _ => exact row_3 w
  | 4, _, _ => exact row_4 w
  | 5, _, _ => exact row_5 w
  | 6, _, _ => exact row_6 w
  | 7, _, _ => exact row_7 w
  | 8, _, _ => exact row_8 w
  | 9, _, _ => exact row_9 w
  | 10, _, _ => exact row_10 w
  | 11, _, _ => exact row_11 w
  | 0, h, _ => exact absurd h (by decide)
  | k + 12, _, h => omega
end Go.Proofs.Ytibngfpjdookkaa
