/- A sum goes on by a byte: the program's way, and the document's half step. -/
import Derived.Test.YtimdemidnleiiaaRows
import Derived.Test.YtimdemidnleiiaaCrcBits
import Derived.WalkKit
import Derived.ProofKit
import Derived.OpenShut
import Derived.Lib.Hide
import Derived.LoopTactic
set_option linter.unusedVariables false
set_option linter.unusedSimpArgs false
namespace Go.Proofs.Ytimdemidnleiiaa
open Go.RowKit

set_option maxHeartbeats 1000000 in
theorem on_any (c b : Nat) (w : World) (hc : c < 4294967296) (hb : b < 256) :
    Calls Try.prog 43 #[.int .u32 c, .int .u8 b] w fun e w' => e = .returned (.int .u32 (step c b : Nat)) ∧ w = w' := by
  have hx := xor_u32 c b hc (by omega)
  have hd : c ^^^ b < 4294967296 := Nat.xor_lt_two_pow (n := 32) hc (Nat.lt_trans hb (by decide))
  have HS := Lib.hid (step_at c b)
  generalize c ^^^ b = d at *
  go_enter Try.func43, Try.ntmps43
  go_wp2
  go_loop [0, 10] (fun sc sk => ∃ k : Nat, k ≤ 8 ∧ sk = .int .i64 k ∧ sc = .int .u32 (halfN k d : Nat)) (fun _ sk => 8 - (intOf sk).toNat)
  case atStart => exact ⟨0, Nat.zero_le _, rfl, rfl⟩
  case round =>
    obtain ⟨k, hk, rfl, rfl⟩ := hrel
    by_cases hlt : k < 8
    · have ht := halfN_lt k hd
      have HN := Lib.hid (halfN_next k d)
      generalize halfN k d = t at *
      have ha := and1_u32 t ht
      by_cases h1 : t % 2 = 1
      · have hh := half_odd ht h1
        have hh2 : bits .xor .u32 ((t : Int) / 2) 3988292384 = ((half t : Nat) : Int) := by rw [← hh]; rfl
        have h2 : ((t % 2 : Nat) : Int) = 1 := by omega
        have HE := Lib.hid hh2
        rw [h2] at ha
        clear hh hh2 h1 h2
        go_wp2
        go_round
        case rel => exact ⟨k + 1, by omega, by go_num, by rw [HE.out, HN.out]⟩
        case measure => simp [intOf]; omega
      · have hh := half_even h1
        have h2 : ((t % 2 : Nat) : Int) = 0 := by omega
        have HE := Lib.hid hh
        rw [h2] at ha
        clear hh h1 h2
        go_wp2
        go_round
        case rel => exact ⟨k + 1, by omega, by go_num, by rw [HN.out, HE.out]; rfl⟩
        case measure => simp [intOf]; omega
    · have hk2 : k = 8 := by omega
      have h8 : ¬ ((k : Int) < 8) := by omega
      have HK := Lib.hid hk2
      clear hk2
      go_wp2
      go_ret
      exact ⟨by rw [HS.out, HK.out]; rfl, rfl⟩

theorem half_ref (c : Nat) (w : World) (hc : c < 4294967296) :
    Calls Try.prog 40 #[.int .u32 c] w fun e w' => e = .returned (.int .u32 (half c : Nat)) ∧ w = w' := by
  by_cases h1 : c % 2 = 1
  · have hh := half_odd hc h1
    have hh2 : bits .xor .u32 ((c : Int) / 2) 3988292384 = ((half c : Nat) : Int) := by rw [← hh]; rfl
    have HE := Lib.hid hh2
    have hd : ((c : Int) % 2 == 1) = true := by simp; omega
    clear hh hh2 h1
    go_enter Try.func40, Try.ntmps40
    go_wp2
    go_ret
    exact ⟨by rw [HE.out]; rfl, rfl⟩
  · have hh := half_even h1
    have HE := Lib.hid hh
    have hd : ((c : Int) % 2 == 1) = false := by simp; omega
    clear hh h1
    go_enter Try.func40, Try.ntmps40
    go_wp2
    go_ret
    exact ⟨by rw [HE.out]; rfl, rfl⟩
end Go.Proofs.Ytimdemidnleiiaa
