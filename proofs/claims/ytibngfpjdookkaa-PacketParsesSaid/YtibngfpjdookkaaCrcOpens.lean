import Derived.Test.YtibngfpjdookkaaCrcSums
import Derived.Test.YtibngfpjdookkaaGrw
import Derived.Laws.IdiomStrings
import Derived.Below
/- The four bytes of a sum; sealing: the program's and the document's. -/
set_option linter.unusedVariables false
set_option linter.unusedSimpArgs false
namespace Go.Proofs.Ytibngfpjdookkaa
open Go.RowKit

/-- Parts in new memory. -/
theorem Parts.one (w : World) (s : ByteArray) (t : TypeId) (h : s.size ≤ 1099511627776) : Parts (w.alloc (.cells #[.string s] t)) (some ⟨w.heap.size, 0, none⟩) 1 [s] where
  size := rfl
  src := fun _ => ⟨_, _, rfl, fun i x hx => by
    match i, hx with
    | 0, hx => cases hx; simp⟩
  few := fun x hx => by cases List.mem_singleton.1 hx; exact h

/-- The four bytes of a sum. -/
def tailz (c : Nat) : ByteArray := ⟨#[UInt8.ofNat (c % 256), UInt8.ofNat (c / 256 % 256), UInt8.ofNat (c / 65536 % 256), UInt8.ofNat (c / 16777216)]⟩
theorem tailz_size (c : Nat) : (tailz c).size = 4 := rfl
theorem tailz_nats {c : Nat} (hc : c < 4294967296) : nats (tailz c) = le4 c := by
  unfold nats tailz le4
  simp only [List.map_cons, List.map_nil, UInt8.toNat_ofNat']
  simp only [List.cons.injEq, and_true]
  refine ⟨?_, ?_, ?_, ?_⟩ <;> omega
theorem conv_four (W : World) (c : Nat) (hc : c < 4294967296) (g : Nat) (hg : W.heap.size = g) :
    (convert 51 9 (.slice (some ⟨g, 0, none⟩) 4 4)).run Try.prog (W.alloc (.cells #[.int .u8 ((c : Int) % 256), .int .u8 ((c : Int) / 256 % 256), .int .u8 ((c : Int) / 65536 % 256), .int .u8 ((c : Int) / 16777216)] 5)) =
      .ok (.string (tailz c)) (W.alloc (.cells #[.int .u8 ((c : Int) % 256), .int .u8 ((c : Int) / 256 % 256), .int .u8 ((c : Int) / 65536 % 256), .int .u8 ((c : Int) / 16777216)] 5)) := by
  subst hg
  have h := run_convert_bytes_back (P := Try.prog) (W.alloc (.cells #[.int .u8 ((c : Int) % 256), .int .u8 ((c : Int) / 256 % 256), .int .u8 ((c : Int) / 65536 % 256), .int .u8 ((c : Int) / 16777216)] 5)) 51 9 5 ⟨W.heap.size, 0, none⟩ 4
    [UInt8.ofNat (c % 256), UInt8.ofNat (c / 256 % 256), UInt8.ofNat (c / 65536 % 256), UInt8.ofNat (c / 16777216)] Try.underlying51 Try.underlying5 Try.underlying9 (fun j hj => by
      match j, hj with
      | 0, _ => simp [Addr.add]
      | 1, _ => simp [Addr.add]
      | 2, _ => simp [Addr.add]
      | 3, _ => simp [Addr.add]; omega
      | j + 4, h => simp at h; omega)
  exact h

/-- Bytes with their sum behind them. -/
def sealz (s : ByteArray) : ByteArray := s ++ tailz (crc (nats s))
theorem sealz_nats (s : ByteArray) : nats (sealz s) = sealB (nats s) := by
  unfold sealz sealB
  rw [nats_append, tailz_nats (crc_lt _)]
theorem sealz_size (s : ByteArray) : (sealz s).size = s.size + 4 := by
  unfold sealz
  rw [ByteArray.size_append, tailz_size]

set_option maxHeartbeats 2000000 in
theorem tail_any (s : ByteArray) (w : World) (hs : s.size ≤ 1099511627776) :
    Calls Try.prog 72 #[.string s] w fun e w' => e = .returned (.string (tailz (crc (nats s)))) ∧ Grw w w' := by
  have hp := Parts.one w s 9 hs
  have hsum := sum_parts _ 1 1 [s] _ hp (by omega)
  rw [show allN [s] = nats s by simp [allN]] at hsum
  have hc := crc_lt (nats s)
  generalize crc (nats s) = c at *
  have hcv := conv_four (w.alloc (.cells #[.string s] 9)) c hc (w.heap.size + 1) (by simp)
  generalize tailz c = z at *
  clear hp
  go_enter Try.func72, Try.ntmps72
  go_wp2_with fail
  refine hsum.mono ?_
  rintro e w' ⟨rfl, rfl⟩
  go_wp2
  go_ret
  exact ⟨rfl, ((Grw.refl _).alloc _).alloc _⟩

theorem seal_any (s : ByteArray) (w : World) (hs : s.size ≤ 1099511627776) :
    Calls Try.prog 62 #[.string s] w fun e w' => e = .returned (.string (sealz s)) ∧ Grw w w' := by
  have ht := tail_any s w hs
  have HZ := Lib.hid (show sealz s = s ++ tailz (crc (nats s)) from rfl)
  have hz : (tailz (crc (nats s))).size ≤ 4 := Nat.le_of_eq rfl
  generalize tailz (crc (nats s)) = z at *
  go_enter Try.func62, Try.ntmps62
  go_wp2_with fail
  refine ht.mono ?_
  rintro e w' ⟨rfl, hb⟩
  go_wp2
  go_ret
  exact ⟨by rw [HZ.out]; rfl, hb⟩

set_option maxHeartbeats 2000000 in
theorem seal_ref (s : ByteArray) (w : World) (hs : s.size ≤ 1099511627776) :
    Calls Try.prog 16 #[.string s] w fun e w' => e = .returned (.string (sealz s)) ∧ Grw w w' := by
  have hsum := sum_ref s w hs
  have hc := crc_lt (nats s)
  have HZ := Lib.hid (show sealz s = s ++ tailz (crc (nats s)) from rfl)
  generalize crc (nats s) = c at *
  have hcv := conv_four w c hc w.heap.size rfl
  have hz : (tailz c).size ≤ 4 := Nat.le_of_eq rfl
  generalize tailz c = z at *
  go_enter Try.func16, Try.ntmps16
  go_wp2_with fail
  refine hsum.mono ?_
  rintro e w' ⟨rfl, rfl⟩
  go_wp2
  go_ret
  exact ⟨by rw [HZ.out]; rfl, (Grw.refl _).alloc _⟩
end Go.Proofs.Ytibngfpjdookkaa

/- What was sealed is opened: the program's Open and the document's. -/
set_option linter.unusedVariables false
set_option linter.unusedSimpArgs false
namespace Go.Proofs.Ytibngfpjdookkaa
open Go.RowKit

/-- Was it sealed, and what is ahead of its sum. -/
def okB (s : ByteArray) : Bool := decide (Ok (nats s))
def openS (s : ByteArray) : ByteArray := if okB s then s.extract 0 (s.size - 4) else { data := #[] }
theorem nats_extract (s : ByteArray) (i j : Nat) : nats (s.extract i j) = ((nats s).drop i).take (j - i) := by
  unfold nats
  rw [ByteArray.data_extract, Array.toList_extract, List.extract_eq_take_drop, List.map_take, List.map_drop]
theorem nats_front (s : ByteArray) (m : Nat) : nats (s.extract 0 m) = (nats s).take m := by rw [nats_extract]; simp
theorem ok_tail (s : ByteArray) (m : Nat) (h : m + 4 = s.size) : okB s = true ↔ s.extract m s.size = tailz (crc (nats (s.extract 0 m))) := by
  have hl : (nats s).length - 4 = m := by rw [nats_length]; omega
  have ha : nats s = nats (s.extract 0 m) ++ nats (s.extract m s.size) := by
    rw [nats_extract, nats_extract, List.drop_zero, Nat.sub_zero, show s.size - m = ((nats s).drop m).length by rw [List.length_drop, nats_length], List.take_length, List.take_append_drop]
  have hf : (nats s).take m = nats (s.extract 0 m) := (nats_front s m).symm
  unfold okB
  rw [decide_eq_true_iff]
  unfold Ok
  rw [hl, hf]
  constructor
  · rintro ⟨_, h1⟩
    unfold sealB at h1
    have h2 := h1.trans ha
    have h3 := List.append_cancel_left h2
    rw [← tailz_nats (crc_lt _)] at h3
    exact (nats_inj h3).symm
  · intro h1
    refine ⟨by rw [nats_length]; omega, ?_⟩
    unfold sealB
    rw [← tailz_nats (crc_lt _), ← h1]
    exact ha.symm
theorem ok_short (s : ByteArray) (h : s.size < 4) : okB s = false := by
  unfold okB
  rw [decide_eq_false_iff_not]
  rintro ⟨h1, _⟩
  rw [nats_length] at h1
  omega

theorem toList_inj {a b : ByteArray} (h : a.toList = b.toList) : a = b := by
  have h2 : a.data.toList = b.data.toList := by rw [← ByteArray.toList_eq, ← ByteArray.toList_eq]; exact h
  exact ByteArray.ext (Array.ext' h2)
theorem ok_yes (s : ByteArray) (m : Nat) (h : m + 4 = s.size) (hy : okB s = true) : ((s.extract m s.size).toList == (tailz (crc (nats (s.extract 0 m)))).toList) = true := by
  rw [(ok_tail s m h).1 hy]; exact beq_self_eq_true _
theorem ok_not (s : ByteArray) (m : Nat) (h : m + 4 = s.size) (hy : okB s = false) : ((s.extract m s.size).toList == (tailz (crc (nats (s.extract 0 m)))).toList) = false := by
  rw [beq_eq_false_iff_ne]
  intro e
  have := (ok_tail s m h).2 (toList_inj e)
  rw [this] at hy
  cases hy

set_option maxHeartbeats 2000000 in
theorem open_any (s : ByteArray) (w : World) (hs : s.size ≤ 1099511627776) :
    Calls Try.prog 41 #[.string s] w fun e w' => e = .returned (.tuple #[.string (openS s), .bool (okB s)]) ∧ Grw w w' := by
  have mixed : Try.prog.follows .mixedOrders = true := by kernel_rfl
  by_cases h4 : s.size < 4
  · have h0 := ok_short s h4
    have h1 : openS s = { data := #[] } := by unfold openS; rw [h0]; rfl
    rw [h0, h1]
    have hd : decide ((s.size : Int) - 4 < 0) = true := by simp; omega
    have hd2 : ((s.size : Int) - 4 < 0) := by omega
    clear h0 h1
    go_enter Try.func41, Try.ntmps41
    go_wp2
    go_quiet_grown (fail)
    go_wp2
    go_ret2
    exact ⟨rfl, nq, osq, rfl⟩
  · obtain ⟨m, hm⟩ : ∃ m, m + 4 = s.size := ⟨s.size - 4, by omega⟩
    have hy := ok_yes s m hm
    have hn := ok_not s m hm
    have hfs : (s.extract 0 m).size ≤ 1099511627776 := by rw [ByteArray.size_extract]; omega
    have HT := fun W => tail_any (s.extract 0 m) W hfs
    have hm2 : (s.size : Int) - 4 = (m : Int) := by omega
    have hd : decide ((m : Int) < 0) = false := by simp
    have hm4 : m ≤ s.size := by omega
    have HM := Lib.hid hm
    clear hfs hm h4
    generalize tailz (crc (nats (s.extract 0 m))) = z at *
    cases hB : okB s with
    | true =>
      have hz := hy hB
      have HE : Hid (openS s = s.extract 0 m) := Lib.hid (by unfold openS; rw [hB, if_pos rfl, ← HM.out]; rfl)
      clear hy hn hB
      go_enter Try.func41, Try.ntmps41
      go_wp2
      go_quiet_grown ((go_at_call 72; exact Calls.grown_of (HT _)))
      go_wp2
      go_ret2
      exact ⟨by rw [HE.out]; rfl, nq, osq, rfl⟩
    | false =>
      have hz := hn hB
      have HE : Hid (openS s = { data := #[] }) := Lib.hid (by unfold openS; rw [hB]; rfl)
      clear hy hn hB
      go_enter Try.func41, Try.ntmps41
      go_wp2
      go_quiet_grown ((go_at_call 72; exact Calls.grown_of (HT _)))
      go_wp2
      go_ret2
      exact ⟨by rw [HE.out]; rfl, nq, osq, rfl⟩
end Go.Proofs.Ytibngfpjdookkaa

/- The document's Open. -/
set_option linter.unusedVariables false
set_option linter.unusedSimpArgs false
namespace Go.Proofs.Ytibngfpjdookkaa
open Go.RowKit

theorem ok_seal (s : ByteArray) (m : Nat) (h : m + 4 = s.size) : okB s = true ↔ sealz (s.extract 0 m) = s := by
  have hl : (nats s).length - 4 = m := by rw [nats_length]; omega
  have hf : (nats s).take m = nats (s.extract 0 m) := (nats_front s m).symm
  unfold okB
  rw [decide_eq_true_iff]
  unfold Ok
  rw [hl, hf, ← sealz_nats]
  constructor
  · rintro ⟨_, h1⟩
    exact nats_inj h1
  · intro h1
    exact ⟨by rw [nats_length]; omega, by rw [h1]⟩
theorem ok_yes' (s : ByteArray) (m : Nat) (h : m + 4 = s.size) (hy : okB s = true) : ((sealz (s.extract 0 m)).toList == s.toList) = true := by
  rw [(ok_seal s m h).1 hy]; exact beq_self_eq_true _
theorem ok_not' (s : ByteArray) (m : Nat) (h : m + 4 = s.size) (hy : okB s = false) : ((sealz (s.extract 0 m)).toList == s.toList) = false := by
  rw [beq_eq_false_iff_ne]
  intro e
  have := (ok_seal s m h).2 (toList_inj e)
  rw [this] at hy
  cases hy

set_option maxHeartbeats 2000000 in
theorem open_ref (s : ByteArray) (w : World) (hs : s.size ≤ 1099511627776) :
    Calls Try.prog 51 #[.string s] w fun e w' => e = .returned (.tuple #[.string (openS s), .bool (okB s)]) ∧ Grw w w' := by
  have mixed : Try.prog.follows .mixedOrders = true := by kernel_rfl
  by_cases h4 : s.size < 4
  · have h0 := ok_short s h4
    have h1 : openS s = { data := #[] } := by unfold openS; rw [h0]; rfl
    rw [h0, h1]
    have hd : decide ((s.size : Int) < 4) = true := by simp; omega
    clear h0 h1
    go_enter Try.func51, Try.ntmps51
    go_wp2
    go_ret2
    exact ⟨rfl, Grw.refl _⟩
  · obtain ⟨m, hm⟩ : ∃ m, m + 4 = s.size := ⟨s.size - 4, by omega⟩
    have hy := ok_yes' s m hm
    have hn := ok_not' s m hm
    have hfs : (s.extract 0 m).size ≤ 1099511627776 := by rw [ByteArray.size_extract]; omega
    have HT := fun W => seal_ref (s.extract 0 m) W hfs
    have hm2 : (s.size : Int) - 4 = (m : Int) := by omega
    have hd : decide ((s.size : Int) < 4) = false := by simp; omega
    have hm4 : m ≤ s.size := by omega
    have HM := Lib.hid hm
    clear hfs hm h4
    generalize sealz (s.extract 0 m) = z at *
    cases hB : okB s with
    | true =>
      have hz := hy hB
      have HE : Hid (openS s = s.extract 0 m) := Lib.hid (by unfold openS; rw [hB, if_pos rfl, ← HM.out]; rfl)
      clear hy hn hB
      go_enter Try.func51, Try.ntmps51
      go_wp2_with fail
      refine (HT _).mono ?_
      rintro e w' ⟨rfl, hG⟩
      go_wp2
      go_ret2
      exact ⟨by rw [HE.out]; rfl, hG⟩
    | false =>
      have hz := hn hB
      have HE : Hid (openS s = { data := #[] }) := Lib.hid (by unfold openS; rw [hB]; rfl)
      clear hy hn hB
      go_enter Try.func51, Try.ntmps51
      go_wp2_with fail
      refine (HT _).mono ?_
      rintro e w' ⟨rfl, hG⟩
      go_wp2
      go_ret2
      exact ⟨by rw [HE.out]; rfl, hG⟩
end Go.Proofs.Ytibngfpjdookkaa

/- 'awake' answers true: the answers that the document fixes. -/
set_option linter.unusedVariables false
set_option linter.unusedSimpArgs false
namespace Go.Proofs.Ytibngfpjdookkaa
open Go.RowKit

theorem Parts.new (w : World) (ps : List ByteArray) (t : TypeId) (h : ∀ s ∈ ps, s.size ≤ 1099511627776) : Parts (w.alloc (.cells (ps.map Value.string).toArray t)) (some ⟨w.heap.size, 0, none⟩) ps.length ps where
  size := rfl
  src := fun _ => ⟨_, _, rfl, fun i x hx => by
    rw [Nat.zero_add]; simp [hx]⟩
  few := h
theorem okB_seal (s : ByteArray) : okB (sealz s) = true := by
  unfold okB
  rw [sealz_nats]
  exact decide_eq_true (seal_ok _)
theorem openS_seal (s : ByteArray) : openS (sealz s) = s := by
  unfold openS
  rw [okB_seal, if_pos rfl]
  apply nats_inj
  rw [nats_front, sealz_nats, ← nats_length, sealz_nats, seal_take]

def ab : ByteArray := { data := #[97, 98] }
theorem awake_sum : crc (allN [{ data := #[49, 50, 51, 52] }, { data := #[53, 54, 55, 56, 57] }]) = 3421780262 := by decide +kernel
theorem awake_none : crc (allN []) = 0 := by decide +kernel

end Go.Proofs.Ytibngfpjdookkaa
