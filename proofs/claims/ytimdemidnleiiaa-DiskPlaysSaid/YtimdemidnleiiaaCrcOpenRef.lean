/- The document's Open. -/
import Derived.Test.YtimdemidnleiiaaCrcOpen
set_option linter.unusedVariables false
set_option linter.unusedSimpArgs false
namespace Go.Proofs.Ytimdemidnleiiaa
open Go.RowKit

theorem ok_seal (s : ByteArray) (m : Nat) (h : m + 4 = s.size) : okB s = true ↔ sealz (s.extract 0 m) = s := by
  have hl : (nats s).length - 4 = m := by rw [nats_length]; omega
  have hf : (nats s).take m = nats (s.extract 0 m) := (nats_front s m).symm
  unfold okB
  rw [decide_eq_true_iff]
  unfold Ok
  rw [hl, hf, ← sealz_nats]
  constructor
  · rintro ⟨_, h1⟩
    exact nats_inj h1
  · intro h1
    exact ⟨by rw [nats_length]; omega, by rw [h1]⟩
theorem ok_yes' (s : ByteArray) (m : Nat) (h : m + 4 = s.size) (hy : okB s = true) : ((sealz (s.extract 0 m)).toList == s.toList) = true := by
  rw [(ok_seal s m h).1 hy]; exact beq_self_eq_true _
theorem ok_not' (s : ByteArray) (m : Nat) (h : m + 4 = s.size) (hy : okB s = false) : ((sealz (s.extract 0 m)).toList == s.toList) = false := by
  rw [beq_eq_false_iff_ne]
  intro e
  have := (ok_seal s m h).2 (toList_inj e)
  rw [this] at hy
  cases hy

set_option maxHeartbeats 2000000 in
theorem open_ref (s : ByteArray) (w : World) (hs : s.size ≤ 1099511627776) :
    Calls Try.prog 36 #[.string s] w fun e w' => e = .returned (.tuple #[.string (openS s), .bool (okB s)]) ∧ Grw w w' := by
  have mixed : Try.prog.follows .mixedOrders = true := by kernel_rfl
  by_cases h4 : s.size < 4
  · have h0 := ok_short s h4
    have h1 : openS s = { data := #[] } := by unfold openS; rw [h0]; rfl
    rw [h0, h1]
    have hd : decide ((s.size : Int) < 4) = true := by simp; omega
    clear h0 h1
    go_enter Try.func36, Try.ntmps36
    go_wp2
    go_ret2
    exact ⟨rfl, Grw.refl _⟩
  · obtain ⟨m, hm⟩ : ∃ m, m + 4 = s.size := ⟨s.size - 4, by omega⟩
    have hy := ok_yes' s m hm
    have hn := ok_not' s m hm
    have hfs : (s.extract 0 m).size ≤ 1099511627776 := by rw [ByteArray.size_extract]; omega
    have HT := fun W => seal_ref (s.extract 0 m) W hfs
    have hm2 : (s.size : Int) - 4 = (m : Int) := by omega
    have hd : decide ((s.size : Int) < 4) = false := by simp; omega
    have hm4 : m ≤ s.size := by omega
    have HM := Lib.hid hm
    clear hfs hm h4
    generalize sealz (s.extract 0 m) = z at *
    cases hB : okB s with
    | true =>
      have hz := hy hB
      have HE : Hid (openS s = s.extract 0 m) := Lib.hid (by unfold openS; rw [hB, if_pos rfl, ← HM.out]; rfl)
      clear hy hn hB
      go_enter Try.func36, Try.ntmps36
      go_wp2_with fail
      refine (HT _).mono ?_
      rintro e w' ⟨rfl, hG⟩
      go_wp2
      go_ret2
      exact ⟨by rw [HE.out]; rfl, hG⟩
    | false =>
      have hz := hn hB
      have HE : Hid (openS s = { data := #[] }) := Lib.hid (by unfold openS; rw [hB]; rfl)
      clear hy hn hB
      go_enter Try.func36, Try.ntmps36
      go_wp2_with fail
      refine (HT _).mono ?_
      rintro e w' ⟨rfl, hG⟩
      go_wp2
      go_ret2
      exact ⟨by rw [HE.out]; rfl, hG⟩
end Go.Proofs.Ytimdemidnleiiaa
