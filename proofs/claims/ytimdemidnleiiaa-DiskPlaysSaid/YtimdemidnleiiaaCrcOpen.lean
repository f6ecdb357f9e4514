/- What was sealed is opened: the program's Open and the document's. -/
import Derived.Test.YtimdemidnleiiaaCrcTail
set_option linter.unusedVariables false
set_option linter.unusedSimpArgs false
namespace Go.Proofs.Ytimdemidnleiiaa
open Go.RowKit

/-- Was it sealed, and what is ahead of its sum. -/
def okB (s : ByteArray) : Bool := decide (Ok (nats s))
def openS (s : ByteArray) : ByteArray := if okB s then s.extract 0 (s.size - 4) else { data := #[] }
theorem nats_extract (s : ByteArray) (i j : Nat) : nats (s.extract i j) = ((nats s).drop i).take (j - i) := by
  unfold nats
  rw [ByteArray.data_extract, Array.toList_extract, List.extract_eq_take_drop, List.map_take, List.map_drop]
theorem nats_front (s : ByteArray) (m : Nat) : nats (s.extract 0 m) = (nats s).take m := by rw [nats_extract]; simp
theorem ok_tail (s : ByteArray) (m : Nat) (h : m + 4 = s.size) : okB s = true ↔ s.extract m s.size = tailz (crc (nats (s.extract 0 m))) := by
  have hl : (nats s).length - 4 = m := by rw [nats_length]; omega
  have ha : nats s = nats (s.extract 0 m) ++ nats (s.extract m s.size) := by
    rw [nats_extract, nats_extract, List.drop_zero, Nat.sub_zero, show s.size - m = ((nats s).drop m).length by rw [List.length_drop, nats_length], List.take_length, List.take_append_drop]
  have hf : (nats s).take m = nats (s.extract 0 m) := (nats_front s m).symm
  unfold okB
  rw [decide_eq_true_iff]
  unfold Ok
  rw [hl, hf]
  constructor
  · rintro ⟨_, h1⟩
    unfold sealB at h1
    have h2 := h1.trans ha
    have h3 := List.append_cancel_left h2
    rw [← tailz_nats (crc_lt _)] at h3
    exact (nats_inj h3).symm
  · intro h1
    refine ⟨by rw [nats_length]; omega, ?_⟩
    unfold sealB
    rw [← tailz_nats (crc_lt _), ← h1]
    exact ha.symm
theorem ok_short (s : ByteArray) (h : s.size < 4) : okB s = false := by
  unfold okB
  rw [decide_eq_false_iff_not]
  rintro ⟨h1, _⟩
  rw [nats_length] at h1
  omega

theorem toList_inj {a b : ByteArray} (h : a.toList = b.toList) : a = b := by
  have h2 : a.data.toList = b.data.toList := by rw [← ByteArray.toList_eq, ← ByteArray.toList_eq]; exact h
  exact ByteArray.ext (Array.ext' h2)
theorem ok_yes (s : ByteArray) (m : Nat) (h : m + 4 = s.size) (hy : okB s = true) : ((s.extract m s.size).toList == (tailz (crc (nats (s.extract 0 m)))).toList) = true := by
  rw [(ok_tail s m h).1 hy]; exact beq_self_eq_true _
theorem ok_not (s : ByteArray) (m : Nat) (h : m + 4 = s.size) (hy : okB s = false) : ((s.extract m s.size).toList == (tailz (crc (nats (s.extract 0 m)))).toList) = false := by
  rw [beq_eq_false_iff_ne]
  intro e
  have := (ok_tail s m h).2 (toList_inj e)
  rw [this] at hy
  cases hy

set_option maxHeartbeats 2000000 in
theorem open_any (s : ByteArray) (w : World) (hs : s.size ≤ 1099511627776) :
    Calls Try.prog 34 #[.string s] w fun e w' => e = .returned (.tuple #[.string (openS s), .bool (okB s)]) ∧ Grw w w' := by
  have mixed : Try.prog.follows .mixedOrders = true := by kernel_rfl
  by_cases h4 : s.size < 4
  · have h0 := ok_short s h4
    have h1 : openS s = { data := #[] } := by unfold openS; rw [h0]; rfl
    rw [h0, h1]
    have hd : decide ((s.size : Int) - 4 < 0) = true := by simp; omega
    have hd2 : ((s.size : Int) - 4 < 0) := by omega
    clear h0 h1
    go_enter Try.func34, Try.ntmps34
    go_wp2
    go_quiet_grown (fail)
    go_wp2
    go_ret2
    exact ⟨rfl, nq, osq, rfl⟩
  · obtain ⟨m, hm⟩ : ∃ m, m + 4 = s.size := ⟨s.size - 4, by omega⟩
    have hy := ok_yes s m hm
    have hn := ok_not s m hm
    have hfs : (s.extract 0 m).size ≤ 1099511627776 := by rw [ByteArray.size_extract]; omega
    have HT := fun W => tail_any (s.extract 0 m) W hfs
    have hm2 : (s.size : Int) - 4 = (m : Int) := by omega
    have hd : decide ((m : Int) < 0) = false := by simp
    have hm4 : m ≤ s.size := by omega
    have HM := Lib.hid hm
    clear hfs hm h4
    generalize tailz (crc (nats (s.extract 0 m))) = z at *
    cases hB : okB s with
    | true =>
      have hz := hy hB
      have HE : Hid (openS s = s.extract 0 m) := Lib.hid (by unfold openS; rw [hB, if_pos rfl, ← HM.out]; rfl)
      clear hy hn hB
      go_enter Try.func34, Try.ntmps34
      go_wp2
      go_quiet_grown ((go_at_call 39; exact Calls.grown_of (HT _)))
      go_wp2
      go_ret2
      exact ⟨by rw [HE.out]; rfl, nq, osq, rfl⟩
    | false =>
      have hz := hn hB
      have HE : Hid (openS s = { data := #[] }) := Lib.hid (by unfold openS; rw [hB]; rfl)
      clear hy hn hB
      go_enter Try.func34, Try.ntmps34
      go_wp2
      go_quiet_grown ((go_at_call 39; exact Calls.grown_of (HT _)))
      go_wp2
      go_ret2
      exact ⟨by rw [HE.out]; rfl, nq, osq, rfl⟩
end Go.Proofs.Ytimdemidnleiiaa
