/- The contracts of the document's own size and Put. -/
import Derived.Test.YtibngfpjdookkaaLaws
set_option linter.unusedVariables false
set_option linter.unusedSimpArgs false
namespace Go.Proofs.Ytibngfpjdookkaa
open Go.RowKit

theorem refSize_any (n : Int) (w : World) :
    Calls Try.prog 40 #[.int .i64 n] w fun e w' => e = .returned (.int .i64 (wid n)) ∧ w = w' := by
  by_cases h1 : n < 0
  · rw [show wid n = 0 by unfold wid; (repeat' split) <;> omega]
    go_enter Try.func40, Try.ntmps40
    go_wp2
    go_ret
    exact ⟨rfl, rfl⟩
  by_cases h2 : 8 < n
  · rw [show wid n = 8 by unfold wid; (repeat' split) <;> omega]
    go_enter Try.func40, Try.ntmps40
    go_wp2
    go_ret
    exact ⟨rfl, rfl⟩
  rw [show wid n = n by unfold wid; (repeat' split) <;> omega]
  go_enter Try.func40, Try.ntmps40
  go_wp2
  go_ret
  exact ⟨rfl, rfl⟩

/-- 'string([]byte{x})'. -/
theorem conv_one (W : World) (x : Int) : (convert 51 9 (.slice (some ⟨W.heap.size, 0, none⟩) 1 1)).run Try.prog (W.alloc (.cells #[.int .u8 x] 5)) = .ok (.string ⟨#[UInt8.ofNat x.toNat]⟩) (W.alloc (.cells #[.int .u8 x] 5)) := by
  rw [run_convert_bytes_string _ _ _ 5 _ _ _ Try.underlying51 Try.underlying5 Try.underlying9]
  have hl := run_loadCells_list (P := Try.prog) (W.alloc (.cells #[.int .u8 x] 5)) ⟨W.heap.size, 0, none⟩ ([x].map (Value.int .u8)) (cell_one_new W _ _)
  rw [run_bytesToString _ _ _ _ [x] (by simpa using hl)]
  rfl

theorem byte_low (u : Nat) : UInt8.ofNat ((u : Int) % 256).toNat = UInt8.ofNat (u % 256) := by
  congr 1

set_option maxHeartbeats 400000 in
theorem refPut_any (s X : ByteArray) (v : Nat) (n : Int) (m : Nat) (w : World) (hs : s.size ≤ 1099511627776) (hv : v < 18446744073709551616) (hn : wid n = m) (hm8 : m ≤ 8) (hX : X.data.toList = s.data.toList ++ pb m v) :
    Calls Try.prog 17 #[.string s, .int .u64 v, .int .i64 n] w fun e w' => e = .returned (.string X) ∧ Below w.heap.size w w' := by
  have HN := Lib.hid hn
  have HX := Lib.hid hX
  have hco := conv_one
  clear hn hX
  go_enter Try.func17, Try.ntmps17
  go_wp2_with fail
  go_loopw [1, 7, 8] (fun vv t i wr => ∃ (k : Nat) (T : ByteArray) (V : Nat), k ≤ m ∧ i = .int .i64 k ∧ vv = .int .u64 (V : Int) ∧ V = v / 256 ^ k ∧ t = .string T ∧ T.data.toList = pb k v ∧ Below w.heap.size w wr)
    (fun _ _ i _ => m - (intOf i).toNat)
  case atStart => exact ⟨0, _, v, Nat.zero_le _, rfl, rfl, by simp, rfl, rfl, Below.refl _ _⟩
  case round =>
    obtain ⟨k, T, V, hk, rfl, rfl, hV, rfl, hT, hnx⟩ := hrel
    have hV64 : V < 18446744073709551616 := by rw [hV]; exact Nat.lt_of_le_of_lt (Nat.div_le_self _ _) hv
    have HV := Lib.hid hV
    have HT := Lib.hid hT
    have hTs : T.size = k := by
      show T.data.size = k
      rw [← Array.length_toList, hT, pb_length]
    have HTs := Lib.hid hTs
    have hT8 : T.size ≤ 8 := by omega
    clear hT hTs hV
    go_wp2_with fail
    refine (refSize_any _ _).mono ?_
    rintro e w1 ⟨rfl, rfl⟩
    rw [HN.out]
    by_cases hlt : k < m
    · go_wp2
      go_roundw
      case rel =>
        refine ⟨k + 1, _, V / 256, by omega, by go_num, by go_num, ?_, rfl, ?_, hnx.alloc hnx.size _⟩
        · rw [HV.out, Nat.div_div_eq_div_mul, Nat.pow_succ]
        · rw [ByteArray.data_append, Array.toList_append, HT.out]
          exact congrArg (fun c => c :: pb k v) (by rw [HV.out])
      case measure => simp [intOf]; omega
    · have hkm : k = m := by omega
      have HK := Lib.hid hkm
      have he : s ++ T = X := by
        apply ByteArray.ext
        apply Array.ext'
        rw [ByteArray.data_append, Array.toList_append, HT.out, HX.out, hkm]
      have HE := Lib.hid he
      clear hkm he
      go_wp2
      go_ret
      exact ⟨by rw [← HE.out]; rfl, hnx⟩
end Go.Proofs.Ytibngfpjdookkaa
