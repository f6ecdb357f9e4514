/- The four bytes of a sum; sealing: the program's and the document's. -/
import Derived.Test.YtimdemidnleiiaaCrcSum
import Derived.Test.YtimdemidnleiiaaGrw
import Derived.Laws.IdiomStrings
import Derived.Below
set_option linter.unusedVariables false
set_option linter.unusedSimpArgs false
namespace Go.Proofs.Ytimdemidnleiiaa
open Go.RowKit

/-- Parts in new memory. -/
theorem Parts.one (w : World) (s : ByteArray) (t : TypeId) (h : s.size ≤ 1099511627776) : Parts (w.alloc (.cells #[.string s] t)) (some ⟨w.heap.size, 0, none⟩) 1 [s] where
  size := rfl
  src := fun _ => ⟨_, _, rfl, fun i x hx => by
    match i, hx with
    | 0, hx => cases hx; simp⟩
  few := fun x hx => by cases List.mem_singleton.1 hx; exact h

/-- The four bytes of a sum. -/
def tailz (c : Nat) : ByteArray := ⟨#[UInt8.ofNat (c % 256), UInt8.ofNat (c / 256 % 256), UInt8.ofNat (c / 65536 % 256), UInt8.ofNat (c / 16777216)]⟩
theorem tailz_size (c : Nat) : (tailz c).size = 4 := rfl
theorem tailz_nats {c : Nat} (hc : c < 4294967296) : nats (tailz c) = le4 c := by
  unfold nats tailz le4
  simp only [List.map_cons, List.map_nil, UInt8.toNat_ofNat']
  simp only [List.cons.injEq, and_true]
  refine ⟨?_, ?_, ?_, ?_⟩ <;> omega
theorem conv_four (W : World) (c : Nat) (hc : c < 4294967296) (g : Nat) (hg : W.heap.size = g) :
    (convert 64 9 (.slice (some ⟨g, 0, none⟩) 4 4)).run Try.prog (W.alloc (.cells #[.int .u8 ((c : Int) % 256), .int .u8 ((c : Int) / 256 % 256), .int .u8 ((c : Int) / 65536 % 256), .int .u8 ((c : Int) / 16777216)] 5)) =
      .ok (.string (tailz c)) (W.alloc (.cells #[.int .u8 ((c : Int) % 256), .int .u8 ((c : Int) / 256 % 256), .int .u8 ((c : Int) / 65536 % 256), .int .u8 ((c : Int) / 16777216)] 5)) := by
  subst hg
  have h := run_convert_bytes_back (P := Try.prog) (W.alloc (.cells #[.int .u8 ((c : Int) % 256), .int .u8 ((c : Int) / 256 % 256), .int .u8 ((c : Int) / 65536 % 256), .int .u8 ((c : Int) / 16777216)] 5)) 64 9 5 ⟨W.heap.size, 0, none⟩ 4
    [UInt8.ofNat (c % 256), UInt8.ofNat (c / 256 % 256), UInt8.ofNat (c / 65536 % 256), UInt8.ofNat (c / 16777216)] Try.underlying64 Try.underlying5 Try.underlying9 (fun j hj => by
      match j, hj with
      | 0, _ => simp [Addr.add]
      | 1, _ => simp [Addr.add]
      | 2, _ => simp [Addr.add]
      | 3, _ => simp [Addr.add]; omega
      | j + 4, h => simp at h; omega)
  exact h

/-- Bytes with their sum behind them. -/
def sealz (s : ByteArray) : ByteArray := s ++ tailz (crc (nats s))
theorem sealz_nats (s : ByteArray) : nats (sealz s) = sealB (nats s) := by
  unfold sealz sealB
  rw [nats_append, tailz_nats (crc_lt _)]
theorem sealz_size (s : ByteArray) : (sealz s).size = s.size + 4 := by
  unfold sealz
  rw [ByteArray.size_append, tailz_size]

set_option maxHeartbeats 2000000 in
theorem tail_any (s : ByteArray) (w : World) (hs : s.size ≤ 1099511627776) :
    Calls Try.prog 39 #[.string s] w fun e w' => e = .returned (.string (tailz (crc (nats s)))) ∧ Grw w w' := by
  have hp := Parts.one w s 9 hs
  have hsum := sum_parts _ 1 1 [s] _ hp (by omega)
  rw [show allN [s] = nats s by simp [allN]] at hsum
  have hc := crc_lt (nats s)
  generalize crc (nats s) = c at *
  have hcv := conv_four (w.alloc (.cells #[.string s] 9)) c hc (w.heap.size + 1) (by simp)
  generalize tailz c = z at *
  clear hp
  go_enter Try.func39, Try.ntmps39
  go_wp2_with fail
  refine hsum.mono ?_
  rintro e w' ⟨rfl, rfl⟩
  go_wp2
  go_ret
  exact ⟨rfl, ((Grw.refl _).alloc _).alloc _⟩

theorem seal_any (s : ByteArray) (w : World) (hs : s.size ≤ 1099511627776) :
    Calls Try.prog 30 #[.string s] w fun e w' => e = .returned (.string (sealz s)) ∧ Grw w w' := by
  have ht := tail_any s w hs
  have HZ := Lib.hid (show sealz s = s ++ tailz (crc (nats s)) from rfl)
  have hz : (tailz (crc (nats s))).size ≤ 4 := Nat.le_of_eq rfl
  generalize tailz (crc (nats s)) = z at *
  go_enter Try.func30, Try.ntmps30
  go_wp2_with fail
  refine ht.mono ?_
  rintro e w' ⟨rfl, hb⟩
  go_wp2
  go_ret
  exact ⟨by rw [HZ.out]; rfl, hb⟩

set_option maxHeartbeats 2000000 in
theorem seal_ref (s : ByteArray) (w : World) (hs : s.size ≤ 1099511627776) :
    Calls Try.prog 25 #[.string s] w fun e w' => e = .returned (.string (sealz s)) ∧ Grw w w' := by
  have hsum := sum_ref s w hs
  have hc := crc_lt (nats s)
  have HZ := Lib.hid (show sealz s = s ++ tailz (crc (nats s)) from rfl)
  generalize crc (nats s) = c at *
  have hcv := conv_four w c hc w.heap.size rfl
  have hz : (tailz c).size ≤ 4 := Nat.le_of_eq rfl
  generalize tailz c = z at *
  go_enter Try.func25, Try.ntmps25
  go_wp2_with fail
  refine hsum.mono ?_
  rintro e w' ⟨rfl, rfl⟩
  go_wp2
  go_ret
  exact ⟨by rw [HZ.out]; rfl, (Grw.refl _).alloc _⟩
end Go.Proofs.Ytimdemidnleiiaa
