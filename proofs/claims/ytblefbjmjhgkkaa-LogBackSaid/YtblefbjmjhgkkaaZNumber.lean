/- The contract of the number that some bytes are. -/
import Derived.Test.YtblefbjmjhgkkaaRows
import Derived.Test.YtblefbjmjhgkkaaZMath
import Derived.WalkKit
import Derived.ProofKit
import Derived.OpenShut
import Derived.LoopTactic
import Derived.Lib.Hide
import Derived.Laws.Bits64
set_option linter.unusedVariables false
set_option maxRecDepth 100000
set_option linter.unusedSimpArgs false
namespace Go.Proofs.Ytblefbjmjhgkkaa
open Go.RowKit

theorem number_any (s : ByteArray) (w : World) (hs : s.size ≤ 8) :
    Calls Try.prog 62 #[.string s] w fun e w' => e = .returned (.int .u64 (be s.data.toList)) ∧ w = w' := by
  go_enter Try.func62, Try.ntmps62
  go_wp2
  go_loop [3, 7] (fun v i => ∃ k : Nat, k ≤ s.size ∧ i = .int .i64 k ∧ v = .int .u64 (be (s.data.toList.take k))) (fun _ i => s.size - (intOf i).toNat)
  case atStart => exact ⟨0, Nat.zero_le _, rfl, rfl⟩
  case round =>
    obtain ⟨k, hk, rfl, rfl⟩ := hrel
    by_cases hlt : k < s.size
    · have hs7 : be (s.data.toList.take k) < 72057594037927936 := by
        have := be_lt _ (s.data.toList.take k) rfl
        have hl : (s.data.toList.take k).length ≤ 7 := by simp; omega
        exact Nat.lt_of_lt_of_le this (Nat.le_trans (Nat.pow_le_pow_right (by omega) hl) (by decide))
      have HS := Lib.hid (or_step (be (s.data.toList.take k)) s[k] hs7)
      have HT := Lib.hid (take_snoc s k hlt)
      clear hs7
      go_wp2
      go_round
      case rel => exact ⟨k + 1, by omega, by go_num, by rw [HS.out, HT.out, be_snoc]⟩
      case measure => simp [intOf]; omega
    · have hk2 : k = s.size := by omega
      have HT := Lib.hid (show s.data.toList.take k = s.data.toList by rw [hk2]; exact List.take_of_length_le (by simp))
      clear hk2
      go_wp2
      go_ret
      exact ⟨by rw [HT.out]; rfl, rfl⟩
end Go.Proofs.Ytblefbjmjhgkkaa
