/- The walk of 'CrcOnly'. -/
import Derived.Test.YtbalgnhnipeafaaCrcAwake
set_option linter.unusedVariables false
set_option linter.unusedSimpArgs false
namespace Go.Proofs.Ytbalgnhnipeafaa
open Go.RowKit

theorem okB_again {x : ByteArray} (h : okB x = true) : ((sealz (openS x)).toList == x.toList) = true := by
  have h4 : 4 ≤ x.size := by
    by_cases h4 : x.size < 4
    · rw [ok_short x h4] at h; cases h
    · omega
  have h1 : openS x = x.extract 0 (x.size - 4) := by unfold openS; rw [h, if_pos rfl]
  rw [h1, (ok_seal x (x.size - 4) (by omega)).1 h]
  exact beq_self_eq_true _
theorem openS_not {x : ByteArray} (h : okB x = false) : openS x = { data := #[] } := by unfold openS; rw [h]; rfl
theorem openS_size (x : ByteArray) : (openS x).size ≤ x.size := by
  unfold openS
  split
  · rw [ByteArray.size_extract]; omega
  · exact Nat.zero_le _

/-- A cell of the call's own, in each world behind. -/
def Held (w : World) (g k : Nat) (x : ByteArray) : Prop := g < w.heap.size ∧ w.cell? ⟨g, k, none⟩ = some (.string x)
theorem Held.grw {w w' : World} {g k : Nat} {x : ByteArray} (h : Held w g k x) (hG : Grw w w') : Held w' g k x :=
  ⟨Nat.lt_of_lt_of_le h.1 hG.below.size, (hG.below.cell (p := ⟨g, k, none⟩) h.1).trans h.2⟩

set_option maxHeartbeats 2000000 in
theorem walk_CrcOnly (s : ByteArray) (ws : s.size ≤ maxLen) (w : World) :
    Calls Try.prog 7 #[.string s] w fun e w' => e = .returned (.bool true) ∧ Below w.heap.size w w' := by
  have hs' : (s.size : Int) ≤ 9223372036854775807 := by unfold maxLen at ws; omega
  have mixed : Try.prog.follows .mixedOrders = true := by kernel_rfl
  by_cases h1 : (5000 : Int) < s.size
  · go_enter Try.func7, Try.ntmps7
    go_wp2_with fail
    refine (awake_any _).mono ?_
    rintro e w1 ⟨rfl, G1⟩
    go_wp2
    go_ret
    exact ⟨rfl, G1.below⟩
  have hz : (sealz s).size ≤ 6000 := by rw [sealz_size]; omega
  have p1 := fun W => seal_ref s W (by omega)
  generalize sealz s = z at *
  go_enter Try.func7, Try.ntmps7
  go_wp2_with fail
  refine (awake_any _).mono ?_
  rintro e w1 ⟨rfl, G1⟩
  go_wp2_with fail
  refine (p1 _).mono ?_
  rintro e w2 ⟨rfl, G2⟩
  go_wp2
  have hA : Held (w2.alloc (.cells #[.string s, .string z] 34)) w2.heap.size 0 s := ⟨by simp, by simp⟩
  have hB : Held (w2.alloc (.cells #[.string s, .string z] 34)) w2.heap.size 1 z := ⟨by simp, by simp⟩
  have hG : Grw w (w2.alloc (.cells #[.string s, .string z] 34)) := (G1.trans G2).alloc _
  generalize w2.heap.size = g at *
  generalize w2.alloc (.cells #[.string s, .string z] 34) = w3 at *
  have HA := Lib.hid hA
  have HB := Lib.hid hB
  have HG := Lib.hid hG
  clear hA hB hG G1 G2 p1
  go_loopw [4] (fun si wr => ∃ k : Nat, k ≤ 2 ∧ si = .int .i64 k ∧ Grw w3 wr) (fun si _ => 2 - (intOf si).toNat)
  case atStart => exact ⟨0, Nat.zero_le _, rfl, Grw.refl _⟩
  case round =>
    obtain ⟨k, hk, rfl, hR⟩ := hrel
    by_cases hlt : k < 2
    · obtain ⟨x, hx, hxs⟩ : ∃ x : ByteArray, Held w3 g k x ∧ x.size ≤ 6000 := by
        by_cases h0 : k = 0
        · subst h0; exact ⟨s, HA.out, by omega⟩
        · obtain rfl : k = 1 := by omega
          exact ⟨z, HB.out, hz⟩
      have hx2 := hx.grw hR
      have hc := hx2.2
      have ho := fun W => open_any x W (by omega)
      cases hok : okB x with
      | true =>
        have hq := okB_again hok
        have hsz := openS_size x
        have hsl := fun W => seal_any (openS x) W (by omega)
        rw [hok] at ho
        have HR := Lib.hid hR
        clear hok hR hx
        generalize sealz (openS x) = y at *
        generalize openS x = u at *
        go_wp2_with fail
        refine (ho _).mono ?_
        rintro e w4 ⟨rfl, G4⟩
        have hcs := cell_grown (World.block_lt_of_cell? _ _ (hx2.grw G4).2) (hx2.grw G4).2
        have H4 := Lib.hid G4
        clear hc hx2 G4 ho
        go_wp2_with fail
        go_quiet_grown ((go_at_call 13; exact Calls.grown_of (hsl _)))
        go_wp2
        go_roundw
        case rel => exact ⟨k + 1, by omega, by go_num, (HR.out.trans H4.out).trans ⟨nq, osq, rfl⟩⟩
        case measure => simp [intOf]; omega
      | false =>
        have hu := openS_not hok
        rw [hok, hu] at ho
        have HR := Lib.hid hR
        clear hok hR hx hu
        go_wp2_with fail
        refine (ho _).mono ?_
        rintro e w4 ⟨rfl, G4⟩
        have H4 := Lib.hid G4
        clear hc hx2 G4 ho
        go_wp2_with fail
        go_quiet_grown (fail)
        go_wp2
        go_roundw
        case rel => exact ⟨k + 1, by omega, by go_num, (HR.out.trans H4.out).trans ⟨nq, osq, rfl⟩⟩
        case measure => simp [intOf]; omega
    · have h8 : ¬ ((k : Int) < 2) := by omega
      have HR := Lib.hid hR
      clear hR
      go_wp2
      go_ret
      exact ⟨rfl, (HG.out.trans HR.out).below⟩
end Go.Proofs.Ytbalgnhnipeafaa
