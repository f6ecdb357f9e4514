/- The walk of 'FrameOne'. -/
import Derived.Test.YtbciamoaohdbjaaFrameAwake
set_option linter.unusedVariables false
set_option linter.unusedSimpArgs false
namespace Go.Proofs.Ytbciamoaohdbjaa
open Go.RowKit Go.Sort

/-- A cell of the call's own that holds a text, in each world behind. -/
def Holds (w : World) (g k : Nat) (x : ByteArray) : Prop := w.cell? ⟨g, k, none⟩ = some (.string x)
theorem Holds.is {w : World} {g k : Nat} {x : ByteArray} (h : Holds w g k x) : w.cell? ⟨g, k, none⟩ = some (.string x) := h
theorem Holds.below {w w' : World} {g k : Nat} {x : ByteArray} (h : Holds w g k x) (hb : Below w.heap.size w w') : Holds w' g k x :=
  (hb.cell (p := ⟨g, k, none⟩) (World.block_lt_of_cell? _ _ h)).trans h

set_option maxHeartbeats 2000000 in
theorem walk_FrameOne (s : ByteArray) (ws : s.size ≤ maxLen) (w : World) :
    Calls Try.prog 6 #[.string s] w fun e w' => e = .returned (.bool true) ∧ Below w.heap.size w w' := by
  have hs' : (s.size : Int) ≤ 9223372036854775807 := by unfold maxLen at ws; omega
  have mixed : Try.prog.follows .mixedOrders = true := by kernel_rfl
  by_cases h1 : (40000 : Int) < s.size
  · go_enter Try.func6, Try.ntmps6
    go_wp2_with fail
    refine (frameAwake_any _).mono ?_
    rintro e w1 ⟨rfl, L1⟩
    go_wp2
    go_ret
    exact ⟨rfl, L1⟩
  have hz : (sealz s).size ≤ 50000 := by rw [sealz_size]; omega
  have p1 := fun W => seal_ref s W (by omega)
  generalize sealz s = z at *
  go_enter Try.func6, Try.ntmps6
  go_wp2_with fail
  refine (frameAwake_any _).mono ?_
  rintro e w1 ⟨rfl, L1⟩
  go_wp2_with fail
  refine (p1 _).mono ?_
  rintro e w2 ⟨rfl, G2⟩
  go_wp2
  have hA : Holds (w2.alloc (.cells #[.string s, .string z] 32)) w2.heap.size 0 s := by unfold Holds; simp
  have hB : Holds (w2.alloc (.cells #[.string s, .string z] 32)) w2.heap.size 1 z := by unfold Holds; simp
  have L2 : Below w.heap.size w w2 := L1.trans (G2.below.mono L1.size)
  have hG : Below w.heap.size w (w2.alloc (.cells #[.string s, .string z] 32)) := L2.alloc L2.size _
  generalize w2.heap.size = g at *
  generalize w2.alloc (.cells #[.string s, .string z] 32) = w3 at *
  have HA := Lib.hid hA
  have HB := Lib.hid hB
  have HG := Lib.hid hG
  clear hA hB hG G2 L1 L2 p1
  go_loopw [4] (fun si wr => ∃ k : Nat, k ≤ 2 ∧ si = .int .i64 k ∧ Below w3.heap.size w3 wr) (fun si _ => 2 - (intOf si).toNat)
  case atStart => exact ⟨0, Nat.zero_le _, rfl, Below.refl _ _⟩
  case round =>
    obtain ⟨k, hk, rfl, hR⟩ := hrel
    by_cases hlt : k < 2
    · obtain ⟨x, hx, hxs⟩ : ∃ x : ByteArray, Holds w3 g k x ∧ x.size ≤ 50000 := by
        by_cases h0 : k = 0
        · subst h0; exact ⟨s, HA.out, by omega⟩
        · obtain rfl : k = 1 := by omega
          exact ⟨z, HB.out, hz⟩
      have q1 := fun W => parse_any x W (by omega)
      have hx2 := hx.below hR
      have hc := hx2.is
      have HX := Lib.hid hx2
      have HR := Lib.hid hR
      clear hR hx hx2
      by_cases hpc : pc x = 0
      · obtain ⟨hf, hp⟩ := printed_parsed hpc
        have hle := pbody_le x
        have q2 := fun W => print_yes (pk x) (pf x) (pt x) (pbody x) W (by omega) hf
        rw [hp] at q2
        rw [hpc] at q1
        clear hf hp hpc hle
        generalize pk x = xk at *
        generalize pf x = xf at *
        generalize pt x = xt at *
        generalize pbody x = xb at *
        go_wp2_with fail
        refine (q1 _).mono ?_
        rintro e w4 ⟨rfl, L4⟩
        have hx4 := (HX.out.below L4).below (((Grw.refl w4).alloc (.cells #[.int .i64 (xk : Int), .int .i64 (xf : Int), .int .i64 (xt : Int), .string xb] 23)).below)
        have M4 : Below w3.heap.size w3 (w4.alloc (.cells #[.int .i64 (xk : Int), .int .i64 (xf : Int), .int .i64 (xt : Int), .string xb] 23)) :=
          (HR.out.trans (L4.mono HR.out.size)).alloc (Nat.le_trans HR.out.size L4.size) _
        have HX4 := Lib.hid hx4
        have HM4 := Lib.hid M4
        clear hc hx4 M4 L4
        go_wp2_with fail
        refine (q2 _).mono ?_
        rintro e w5 ⟨rfl, L5⟩
        have hc5 := (HX4.out.below L5).is
        have HM5 := Lib.hid (HM4.out.trans (L5.mono HM4.out.size))
        clear L5
        go_wp2
        go_roundw
        case rel => exact ⟨k + 1, by omega, by go_num, HM5.out⟩
        case measure => simp [intOf]; omega
      · rw [pk_bad hpc, pf_bad hpc, pt_bad hpc, pbody_bad hpc] at q1
        have hcb : ((pc x : Int) != 0) = true := by simp; omega
        clear hpc
        generalize pc x = xc at *
        go_wp2_with fail
        refine (q1 _).mono ?_
        rintro e w4 ⟨rfl, L4⟩
        have M4 : Below w3.heap.size w3 (w4.alloc (.cells #[.int .i64 0, .int .i64 0, .int .i64 0, .string { data := #[] }] 23)) :=
          (HR.out.trans (L4.mono HR.out.size)).alloc (Nat.le_trans HR.out.size L4.size) _
        have HM4 := Lib.hid M4
        clear hc M4 L4
        go_wp2
        go_roundw
        case rel => exact ⟨k + 1, by omega, by go_num, HM4.out⟩
        case measure => simp [intOf]; omega
    · have h8 : ¬ ((k : Int) < 2) := by omega
      have HR := Lib.hid hR
      clear hR
      go_wp2
      go_ret
      exact ⟨rfl, HG.out.trans (HR.out.mono HG.out.size)⟩
end Go.Proofs.Ytbciamoaohdbjaa
