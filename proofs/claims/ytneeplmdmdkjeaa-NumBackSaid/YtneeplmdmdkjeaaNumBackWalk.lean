/- The walk of 'NumBack'. -/
import Derived.Test.YtneeplmdmdkjeaaNumGetsWalk
set_option linter.unusedVariables false
set_option linter.unusedSimpArgs false
namespace Go.Proofs.Ytneeplmdmdkjeaa
open Go.RowKit

/-- What '[]byte(s)' lays reads as s's bytes. -/
theorem Src.bytes (w : World) (s : ByteArray) (c : Nat) (fr : Nat × Nat) : Src (w.alloc (.cells (bytesRow s c) 5 fr)) (some ⟨w.heap.size, 0, none⟩) s.data.toList := by
  refine .inr ⟨_, rfl, fun j v hj => ?_⟩
  rw [show (⟨w.heap.size, 0, none⟩ : Addr).add j = ⟨w.heap.size, j, none⟩ by cases j <;> simp [Addr.add], World.cell?_alloc_mark]
  have hlt : j < s.data.size := by
    have := (List.getElem?_eq_some_iff.1 hj).1
    simpa [cells8] using this
  rw [bytesRow_at s c j hlt, ← hj, cells8, List.getElem?_map, List.getElem?_eq_getElem (by simpa using hlt)]
  simp [cell8]

theorem walk_NumBack (ahead : ByteArray) (wa : ahead.size ≤ maxLen) (behind : ByteArray) (wb : behind.size ≤ maxLen) (v : Int) (wv : (Lit.int .u64 v).wf = true) (n : Int) (wn : (Lit.int .i64 n).wf = true) (w : World) :
    Calls Try.prog 5 #[.string ahead, .string behind, .int .u64 v, .int .i64 n] w fun e w' => e = .returned (.bool true) ∧ Below w.heap.size w w' := by
  obtain ⟨v0, v1⟩ := wf_u64 wv
  obtain ⟨n0, n1⟩ := wf_i64 wn
  have ha' : (ahead.size : Int) ≤ 9223372036854775807 := by unfold maxLen at wa; omega
  have hb' : (behind.size : Int) ≤ 9223372036854775807 := by unfold maxLen at wb; omega
  by_cases h1 : (10000 : Int) < ahead.size
  · go_enter Try.func5, Try.ntmps5
    go_wp2_with fail
    refine (awake_any _).mono ?_
    rintro e w1 ⟨rfl, hb1⟩
    go_wp2
    go_ret
    exact ⟨rfl, hb1⟩
  by_cases h2 : (10000 : Int) < behind.size
  · go_enter Try.func5, Try.ntmps5
    go_wp2_with fail
    refine (awake_any _).mono ?_
    rintro e w1 ⟨rfl, hb1⟩
    go_wp2
    go_ret
    exact ⟨rfl, hb1⟩
  by_cases h3 : n < 1
  · go_enter Try.func5, Try.ntmps5
    go_wp2_with fail
    refine (awake_any _).mono ?_
    rintro e w1 ⟨rfl, hb1⟩
    go_wp2
    go_ret
    exact ⟨rfl, hb1⟩
  by_cases h4 : 8 < n
  · go_enter Try.func5, Try.ntmps5
    go_wp2_with fail
    refine (awake_any _).mono ?_
    rintro e w1 ⟨rfl, hb1⟩
    go_wp2
    go_ret
    exact ⟨rfl, hb1⟩
  obtain ⟨m, rfl⟩ := Int.eq_ofNat_of_zero_le (show 0 ≤ n by omega)
  obtain ⟨u, rfl⟩ := Int.eq_ofNat_of_zero_le v0
  have hm1 : 1 ≤ m := by omega
  have hm8 : m ≤ 8 := by omega
  have hwid : wid (m : Int) = m := by unfold wid; (repeat' split) <;> omega
  have HW := Lib.hid hwid
  have hu : u < 18446744073709551616 := by omega
  clear hwid
  have hbs := fun W => run_bytes_of_string (P := Try.prog) W 9 22 5 ahead Try.underlying9 Try.underlying22 Try.underlying5
  go_enter Try.func5, Try.ntmps5
  go_wp2_with fail
  refine (awake_any _).mono ?_
  rintro e w1 ⟨rfl, hb1⟩
  go_wp2_with fail
  refine (put_len (w1.heap.size + 1) _ ahead.data.toList _ _ _ _ m _ (by simp) (Src.bytes w1.drew ahead _ _) ?_ ?_ hu HW.out hm8).mono ?_
  · simp
  · omega
  rintro e w2 ⟨rfl, hown, hb2⟩
  have hcv := conv_own _ _ _ _ _ _ hown
  have hb3 : Below w.heap.size w w2 := (hb1.drew.alloc hb1.size _).trans (hb2.mono (by have := hb1.size; omega))
  clear hb2 hown
  obtain ⟨X, hX⟩ : ∃ X, X = ({ data := (ahead.data.toList ++ pb m u).toArray } : ByteArray) := ⟨_, rfl⟩
  rw [← hX] at hcv
  have hXz : X.size = ahead.size + m := by
    rw [hX]
    show (ahead.data.toList ++ pb m u).toArray.size = _
    simp [pb_length]
  have hSz : (X ++ behind).size = ahead.size + m + behind.size := by rw [ByteArray.size_append, hXz]
  have hSd : ((X ++ behind).data.toList.drop ahead.size).take m = pb m u := by
    rw [hX, ByteArray.data_append, Array.toList_append]
    show ((((ahead.data.toList ++ pb m u) ++ behind.data.toList).drop ahead.size).take m) = _
    rw [List.append_assoc, List.drop_append_of_le_length (by simp), List.drop_of_length_le (by simp), List.nil_append, List.take_append_of_le_length (by rw [pb_length]; omega)]
    exact List.take_of_length_le (by rw [pb_length]; omega)
  have HD := Lib.hid hSd
  have HZ := Lib.hid hSz
  have hSm : (X ++ behind).size ≤ maxLen := by unfold maxLen; omega
  have hSk : ahead.size + m ≤ (X ++ behind).size := by omega
  have HM := Lib.hid hSm
  have HK := Lib.hid hSk
  have hq1 : X.size ≤ 10008 := by omega
  have HQ := Lib.hid hXz
  clear hX hSd hSz hSm hSk hXz
  go_wp2_with fail
  refine (get_yes (X ++ behind) ahead.size m _ HM.out hm1 hm8 HK.out).mono ?_
  rintro e w3 ⟨rfl, rfl⟩
  rw [HD.out, be_pb]
  have hl : (((X.size : Int) + behind.size) == (ahead.size : Int) + m + behind.size) = true := by
    rw [beq_iff_eq, HQ.out]; omega
  by_cases h8 : (m : Int) < 8
  · have hz := pow256_pos m (by omega)
    have he := mod256 u m (by omega)
    go_wp2
    go_ret
    exact ⟨rfl, hb3⟩
  · obtain rfl : m = 8 := by omega
    have he := mod256_8 u hu
    have hl8 : (((X.size : Int) + behind.size) == (ahead.size : Int) + 8 + behind.size) = true := hl
    go_wp2
    go_ret
    exact ⟨rfl, hb3⟩
end Go.Proofs.Ytneeplmdmdkjeaa
