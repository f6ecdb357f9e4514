import Derived.Test.YtibngfpjdookkaaRows
import Derived.Test.YtibngfpjdookkaaCrcBits
import Derived.WalkKit
import Derived.ProofKit
import Derived.OpenShut
import Derived.Lib.Hide
import Derived.LoopTactic
/- A sum goes on by a byte: the program's way, and the document's half step. -/
set_option linter.unusedVariables false
set_option linter.unusedSimpArgs false
namespace Go.Proofs.Ytibngfpjdookkaa
open Go.RowKit

set_option maxHeartbeats 1000000 in
theorem on_any (c b : Nat) (w : World) (hc : c < 4294967296) (hb : b < 256) :
    Calls Try.prog 91 #[.int .u32 c, .int .u8 b] w fun e w' => e = .returned (.int .u32 (step c b : Nat)) ∧ w = w' := by
  have hx := xor_u32 c b hc (by omega)
  have hd : c ^^^ b < 4294967296 := Nat.xor_lt_two_pow (n := 32) hc (Nat.lt_trans hb (by decide))
  have HS := Lib.hid (step_at c b)
  generalize c ^^^ b = d at *
  go_enter Try.func91, Try.ntmps91
  go_wp2
  go_loop [0, 10] (fun sc sk => ∃ k : Nat, k ≤ 8 ∧ sk = .int .i64 k ∧ sc = .int .u32 (halfN k d : Nat)) (fun _ sk => 8 - (intOf sk).toNat)
  case atStart => exact ⟨0, Nat.zero_le _, rfl, rfl⟩
  case round =>
    obtain ⟨k, hk, rfl, rfl⟩ := hrel
    by_cases hlt : k < 8
    · have ht := halfN_lt k hd
      have HN := Lib.hid (halfN_next k d)
      generalize halfN k d = t at *
      have ha := and1_u32 t ht
      by_cases h1 : t % 2 = 1
      · have hh := half_odd ht h1
        have hh2 : bits .xor .u32 ((t : Int) / 2) 3988292384 = ((half t : Nat) : Int) := by rw [← hh]; rfl
        have h2 : ((t % 2 : Nat) : Int) = 1 := by omega
        have HE := Lib.hid hh2
        rw [h2] at ha
        clear hh hh2 h1 h2
        go_wp2
        go_round
        case rel => exact ⟨k + 1, by omega, by go_num, by rw [HE.out, HN.out]⟩
        case measure => simp [intOf]; omega
      · have hh := half_even h1
        have h2 : ((t % 2 : Nat) : Int) = 0 := by omega
        have HE := Lib.hid hh
        rw [h2] at ha
        clear hh h1 h2
        go_wp2
        go_round
        case rel => exact ⟨k + 1, by omega, by go_num, by rw [HN.out, HE.out]; rfl⟩
        case measure => simp [intOf]; omega
    · have hk2 : k = 8 := by omega
      have h8 : ¬ ((k : Int) < 8) := by omega
      have HK := Lib.hid hk2
      clear hk2
      go_wp2
      go_ret
      exact ⟨by rw [HS.out, HK.out]; rfl, rfl⟩

theorem half_ref (c : Nat) (w : World) (hc : c < 4294967296) :
    Calls Try.prog 71 #[.int .u32 c] w fun e w' => e = .returned (.int .u32 (half c : Nat)) ∧ w = w' := by
  by_cases h1 : c % 2 = 1
  · have hh := half_odd hc h1
    have hh2 : bits .xor .u32 ((c : Int) / 2) 3988292384 = ((half c : Nat) : Int) := by rw [← hh]; rfl
    have HE := Lib.hid hh2
    have hd : ((c : Int) % 2 == 1) = true := by simp; omega
    clear hh hh2 h1
    go_enter Try.func71, Try.ntmps71
    go_wp2
    go_ret
    exact ⟨by rw [HE.out]; rfl, rfl⟩
  · have hh := half_even h1
    have HE := Lib.hid hh
    have hd : ((c : Int) % 2 == 1) = false := by simp; omega
    clear hh h1
    go_enter Try.func71, Try.ntmps71
    go_wp2
    go_ret
    exact ⟨by rw [HE.out]; rfl, rfl⟩
end Go.Proofs.Ytibngfpjdookkaa

/- The sum of bytes: the program's, of parts, and the document's, of one text. -/
set_option linter.unusedVariables false
set_option linter.unusedSimpArgs false
namespace Go.Proofs.Ytibngfpjdookkaa
open Go.RowKit

/-- The parts of a sum, as they lie in memory. -/
structure Parts (w : World) (ao : Option Addr) (len : Nat) (ps : List ByteArray) : Prop where
  size : ps.length = len
  src : 0 < len → ∃ b o, ao = some ⟨b, o, none⟩ ∧ ∀ i s, ps[i]? = some s → w.cell? ⟨b, o + i, none⟩ = some (.string s)
  few : ∀ s ∈ ps, s.size ≤ 1099511627776
/-- The bytes of all parts. -/
def allN (ps : List ByteArray) : List Nat := ps.flatMap nats
theorem allN_append (a b : List ByteArray) : allN (a ++ b) = allN a ++ allN b := by unfold allN; rw [List.flatMap_append]
theorem allN_next {ps : List ByteArray} {k : Nat} {s : ByteArray} (h : ps[k]? = some s) : allN (ps.take (k + 1)) = allN (ps.take k) ++ nats s := by
  obtain ⟨hk, e⟩ := List.getElem?_eq_some_iff.1 h
  rw [List.take_succ_eq_append_getElem hk, e, allN_append]
  simp [allN]
theorem allN_bytes (ps : List ByteArray) : Bytes (allN ps) := by
  intro b hb
  obtain ⟨s, _, h⟩ := List.mem_flatMap.1 hb
  exact nats_bytes s b h
theorem Bytes.take {l : List Nat} (h : Bytes l) (k : Nat) : Bytes (l.take k) := fun b hb => h b (List.mem_of_mem_take hb)

set_option maxHeartbeats 2000000 in
theorem sum_parts (ao : Option Addr) (len cap : Nat) (ps : List ByteArray) (w : World) (h : Parts w ao len ps) (hl : len ≤ 1099511627776) :
    Calls Try.prog 87 #[.slice ao len cap] w fun e w' => e = .returned (.int .u32 (crc (allN ps) : Nat)) ∧ w = w' := by
  have HL := Lib.hid h.size
  have HS := Lib.hid h
  clear h
  go_enter Try.func87, Try.ntmps87
  go_wp2
  go_loop [3, 9] (fun sc sk => ∃ k : Nat, k ≤ len ∧ sk = .int .i64 k ∧ sc = .int .u32 (run 4294967295 (allN (ps.take k)) : Nat)) (fun _ sk => len - (intOf sk).toNat)
  case atStart => exact ⟨0, Nat.zero_le _, rfl, rfl⟩
  case round =>
    obtain ⟨k, hk, rfl, rfl⟩ := hrel
    have hbt := run_lt (allN (ps.take k)) (c := 4294967295) (by decide) (allN_bytes _)
    by_cases hlt : k < len
    · obtain ⟨b, o, rfl, hr⟩ := HS.out.src (by omega)
      have hlt' : k < ps.length := by rw [HL.out]; exact hlt
      obtain ⟨s, hs⟩ : ∃ s, ps[k]? = some s := ⟨_, List.getElem?_eq_getElem hlt'⟩
      have e0 := hr k s hs
      have hsz := HS.out.few s (List.mem_of_getElem? hs)
      have HN := Lib.hid (show run 4294967295 (allN (ps.take (k + 1))) = run (run 4294967295 (allN (ps.take k))) (nats s) by rw [allN_next hs, run_append])
      clear hr hs hlt'
      generalize run 4294967295 (allN (ps.take k)) = c at *
      go_wp2
      go_loop [3, 15] (fun sc sj => ∃ j : Nat, j ≤ s.size ∧ sj = .int .i64 j ∧ sc = .int .u32 (run c ((nats s).take j) : Nat)) (fun _ sj => s.size - (intOf sj).toNat)
      case atStart => exact ⟨0, Nat.zero_le _, rfl, rfl⟩
      case round =>
        obtain ⟨j, hj, rfl, rfl⟩ := hrel
        by_cases hjt : j < s.size
        · have hrt := run_lt ((nats s).take j) hbt ((nats_bytes s).take j)
          have HM := Lib.hid (run_next (c := c) (nats_at hjt))
          have hon := fun W => on_any (run c ((nats s).take j)) s[j].toNat W hrt s[j].toNat_lt
          generalize run c ((nats s).take j) = d at *
          go_wp2_with fail
          refine (hon _).mono ?_
          rintro e w' ⟨rfl, rfl⟩
          clear hon
          go_wp2
          go_round
          case rel => exact ⟨j + 1, by omega, by go_num, by rw [HM.out]; rfl⟩
          case measure => simp [intOf]; omega
        · have HK := Lib.hid (show run c ((nats s).take j) = run c (nats s) by rw [List.take_of_length_le (by rw [nats_length]; omega)])
          go_wp2
          go_round
          case rel => exact ⟨k + 1, by omega, by go_num, by rw [HN.out, HK.out]⟩
          case measure => simp [intOf]; omega
    · have HK := Lib.hid (show crc (allN ps) = 4294967295 - run 4294967295 (allN (ps.take k)) by rw [List.take_of_length_le (by rw [HL.out]; omega)]; rfl)
      have hx := xor_ones hbt
      generalize run 4294967295 (allN (ps.take k)) = c at *
      have HX := Lib.hid hx
      clear hx
      go_wp2
      go_ret
      exact ⟨by rw [HK.out, ← HX.out]; rfl, rfl⟩

set_option maxHeartbeats 2000000 in
theorem sum_ref (s : ByteArray) (w : World) (hsz : s.size ≤ 1099511627776) :
    Calls Try.prog 39 #[.string s] w fun e w' => e = .returned (.int .u32 (crc (nats s) : Nat)) ∧ w = w' := by
  go_enter Try.func39, Try.ntmps39
  go_wp2
  go_loop [3, 4] (fun sc sj => ∃ j : Nat, j ≤ s.size ∧ sj = .int .i64 j ∧ sc = .int .u32 (run 4294967295 ((nats s).take j) : Nat)) (fun _ sj => s.size - (intOf sj).toNat)
  case atStart => exact ⟨0, Nat.zero_le _, rfl, rfl⟩
  case round =>
    obtain ⟨j, hj, rfl, rfl⟩ := hrel
    have hrt := run_lt ((nats s).take j) (c := 4294967295) (by decide) ((nats_bytes s).take j)
    by_cases hjt : j < s.size
    · have HM := Lib.hid (run_next (c := 4294967295) (nats_at hjt))
      have hb : s[j].toNat < 256 := s[j].toNat_lt
      have HQ := Lib.hid (show (nats s)[j]? = some s[j].toNat from nats_at hjt)
      have hx := xor_u32 (run 4294967295 ((nats s).take j)) s[j].toNat hrt (by omega)
      have HM2 : Hid (run 4294967295 ((nats s).take (j + 1)) = halfN 8 (run 4294967295 ((nats s).take j) ^^^ s[j].toNat)) := Lib.hid (HM.out.trans (step_at _ _))
      have hd : run 4294967295 ((nats s).take j) ^^^ s[j].toNat < 4294967296 := Nat.xor_lt_two_pow (n := 32) hrt (Nat.lt_trans hb (by decide))
      clear HM HQ
      generalize run 4294967295 ((nats s).take j) ^^^ s[j].toNat = d at *
      generalize run 4294967295 ((nats s).take j) = c at *
      go_wp2
      go_loop [3, 5] (fun sc sk => ∃ k : Nat, k ≤ 8 ∧ sk = .int .i64 k ∧ sc = .int .u32 (halfN k d : Nat)) (fun _ sk => 8 - (intOf sk).toNat)
      case atStart => exact ⟨0, Nat.zero_le _, rfl, rfl⟩
      case round =>
        obtain ⟨k, hk, rfl, rfl⟩ := hrel
        by_cases hlt : k < 8
        · have ht := halfN_lt k hd
          have HN := Lib.hid (halfN_next k d)
          have hh := fun W => half_ref (halfN k d) W ht
          generalize halfN k d = t at *
          go_wp2_with fail
          refine (hh _).mono ?_
          rintro e w' ⟨rfl, rfl⟩
          clear hh
          go_wp2
          go_round
          case rel => exact ⟨k + 1, by omega, by go_num, by rw [HN.out]⟩
          case measure => simp [intOf]; omega
        · have hk2 : k = 8 := by omega
          have h8 : ¬ ((k : Int) < 8) := by omega
          have HK := Lib.hid hk2
          clear hk2
          go_wp2
          go_round
          case rel => exact ⟨j + 1, by omega, by go_num, by rw [HM2.out, HK.out]⟩
          case measure => simp [intOf]; omega
    · have HK := Lib.hid (show crc (nats s) = 4294967295 - run 4294967295 ((nats s).take j) by rw [List.take_of_length_le (by rw [nats_length]; omega)]; rfl)
      generalize run 4294967295 ((nats s).take j) = c at *
      have HI := Lib.hid (show ((4294967295 - c : Nat) : Int) = 4294967295 - (c : Int) by omega)
      go_wp2
      go_ret
      exact ⟨by rw [HK.out, HI.out]; rfl, rfl⟩
end Go.Proofs.Ytibngfpjdookkaa
