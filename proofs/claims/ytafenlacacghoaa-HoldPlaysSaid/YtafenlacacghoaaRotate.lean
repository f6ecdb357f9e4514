/- The stable sort's family: rotate. -/
import Derived.Test.YtafenlacacghoaaSwapRange
set_option linter.unusedVariables false
set_option linter.unusedSimpArgs false
namespace Go.Proofs.Ytafenlacacghoaa
open Go.Shelf Go.RowKit Go.Lib Go.Sort
variable {P : Program} {α : Type} [Inhabited α]

set_option maxHeartbeats 4000000 in
set_option maxRecDepth 1000000 in
theorem rotate_any (k : Nat) (F : Fam P k) (enc : α → List Value) (g : Nat) (cb : Array Value) (blk off len cap a m b : Nat) (d0 : Array α) (w0 w : World) (X A B Z : List α)
    (R : RowK enc k w0 blk off d0) (hs : d0.size = len) (S : SWK enc k w0 blk off (X ++ (A ++ (B ++ Z))).toArray w)
    (hL : (X ++ (A ++ (B ++ Z))).length = len) (hX : X.length = a) (hA : a + A.length = m) (hB : m + B.length = b) (hA0 : 0 < A.length) (hB0 : 0 < B.length) (hsz : len < 4611686018427387904) :
    Calls P 51 #[.slice (some ⟨blk, off, none⟩) len cap, .int .i64 a, .int .i64 m, .int .i64 b, .func (.func g) #[] cb] w fun e w' => e = .returned (.tuple #[]) ∧ SWK enc k w0 blk off (X ++ (B ++ (A ++ Z))).toArray w' := by
  have e46 : ∀ args w, (callFunc 52 args).run P w = .ok (.enter 52 args) w := enters_of F.fs (by kernel_rfl) rfl
  have mixed := F.mixed; have t0 := F.t0; have a0 := F.a0; have z0 := F.z0; have v0 := F.v0; have t3 := F.t3; have a3 := F.a3; have z3 := F.z3; have v3 := F.v3; have t4 := F.t4; have a4 := F.a4; have z4 := F.z4; have v4 := F.v4; have t40 := F.t40; have a40 := F.a40; have z40 := F.z40; have v40 := F.v40; have t64 := F.t64; have a64 := F.a64; have z64 := F.z64; have v64 := F.v64; have aE := F.aE; have zE := F.zE
  have FG := F.fr
  have HF := Lib.hid F
  have S0 : Aside (SWK enc k w0 blk off (X ++ (A ++ (B ++ Z))).toArray w) := S
  have hbb : b ≤ len := by simp only [List.length_append] at hL; omega
  have hi0 : (m : Int) - (a : Int) = (A.length : Int) := by omega
  have hj0 : (b : Int) - (m : Int) = (B.length : Int) := by omega
  have HL := Lib.hid hL
  have HS := Lib.hid hs
  have HX := Lib.hid hX
  have HI := Lib.hid hi0
  have HJ := Lib.hid hj0
  have hma : a + A.length = m := hA
  have HA := Lib.hid hA
  have HB := Lib.hid hB
  have ham : a ≤ m := by omega
  have hmb : m ≤ b := by omega
  clear S hL hX hs F hi0 hj0 hA hB hma
  go_enter FG, Try.ntmps51
  go_wp2
  rw [HI.out, HJ.out]
  go_loopg [10, 11] (A.length + B.length) (fun kx s10 s11 wr => ∃ (i j : Nat) (X1 A1 B1 Z1 : List α), s10 = .int .i64 i ∧ s11 = .int .i64 j ∧ 0 < i ∧ 0 < j ∧ i + j ≤ kx ∧ i ≤ m ∧ m + j ≤ len ∧
    Hid (A1.length = i ∧ B1.length = j ∧ X1.length + i = m ∧ (X1 ++ (A1 ++ (B1 ++ Z1))).length = len ∧ X1 ++ (B1 ++ (A1 ++ Z1)) = X ++ (B ++ (A ++ Z))) ∧
    Aside (SWK enc k w0 blk off (X1 ++ (A1 ++ (B1 ++ Z1))).toArray wr))
  case atStart => exact ⟨_, _, X, A, B, Z, rfl, rfl, hA0, hB0, Nat.le_refl _, by have := HA.out; omega, by have := HB.out; omega, Lib.hid ⟨rfl, rfl, by rw [HX.out, HA.out], HL.out, rfl⟩, S0⟩
  case round =>
    clear S0
    obtain ⟨i, j, X1, A1, B1, Z1, rfl, rfl, hi, hj, hkx, him, hmj, HP, S1⟩ := hrel
    have him2 : (m : Int) - (i : Int) = ((m - i : Nat) : Int) := by omega
    have HIM := Lib.hid him2
    clear him2
    by_cases hij : i = j
    · have HIJ := Lib.hid hij
      have hq : ((i : Int) == (j : Int)) = true := by simp; omega
      have hq2 : ((i : Int) != (j : Int)) = false := by simp; omega
      clear hij
      go_wp2_with fail
      rw [HIM.out]
      go_at_fn 52
      refine (swapRange_any k HF.out enc g cb blk off len cap (m - i) m i d0 w0 _ X1 A1 [] B1 Z1 R HS.out S1.out (by have := HP.out.2.2.2.1; simpa using this) (by have := HP.out.2.2.1; omega) HP.out.1 (by simp; omega) (by have := HP.out.2.1; have := HIJ.out; omega) hsz).mono ?_
      rintro e w' ⟨rfl, S2⟩
      clear S1
      have S3 : Aside (SWK enc k w0 blk off (X ++ (B ++ (A ++ Z))).toArray w') := by
        rw [← HP.out.2.2.2.2]
        exact S2
      clear S2
      go_wp2
      go_end0
      exact ⟨rfl, S3.out⟩
    · have HIJ := Lib.hid hij
      have hq : ((i : Int) == (j : Int)) = false := by simp; omega
      have hq2 : ((i : Int) != (j : Int)) = true := by simp; omega
      clear hij
      by_cases hlt : j < i
      · obtain ⟨a1, a2, ha⟩ : ∃ a1 a2, A1 = a1 ++ a2 ∧ a1.length = j := ⟨A1.take j, A1.drop j, (List.take_append_drop _ _).symm, by have := HP.out.1; rw [List.length_take]; omega⟩
        have HA1 := Lib.hid ha
        have hlz : (j : Int) < (i : Int) := by omega
        have hij2 : (i : Int) - (j : Int) = ((i - j : Nat) : Int) := by omega
        have HIJ2 := Lib.hid hij2
        clear ha hij2
        go_wp2_with fail
        rw [HIM.out]
        go_at_fn 52
        refine (swapRange_any k HF.out enc g cb blk off len cap (m - i) m j d0 w0 _ X1 a1 a2 B1 Z1 R HS.out (by have := S1.out; rw [HA1.out.1, List.append_assoc] at this; exact this) (by have := HP.out.2.2.2.1; rw [HA1.out.1] at this; simpa using this) (by have := HP.out.2.2.1; omega) HA1.out.2 (by
          have h1 := HP.out.1; have h2 := HA1.out.2; rw [HA1.out.1, List.length_append] at h1; omega) HP.out.2.1 hsz).mono ?_
        rintro e w' ⟨rfl, S2⟩
        clear S1
        have S3 : Aside (SWK enc k w0 blk off ((X1 ++ B1) ++ (a2 ++ (a1 ++ Z1))).toArray w') := by
          rw [List.append_assoc]
          exact S2
        clear S2
        go_wp2
        rw [HIJ2.out]
        go_roundg (i - j + j)
        case measure => omega
        case rel =>
          refine ⟨i - j, j, X1 ++ B1, a2, a1, Z1, rfl, rfl, by omega, hj, Nat.le_refl _, by omega, hmj, Lib.hid ⟨?_, HA1.out.2, ?_, ?_, ?_⟩, S3⟩
          · have h1 := HP.out.1; have h2 := HA1.out.2; rw [HA1.out.1, List.length_append] at h1; omega
          · have h1 := HP.out.2.2.1; have h2 := HP.out.2.1; rw [List.length_append]; omega
          · have h1 := HP.out.2.2.2.1; rw [HA1.out.1] at h1; simp only [List.length_append] at h1 ⊢; omega
          · rw [← HP.out.2.2.2.2, HA1.out.1]; simp
      · have hlt2 : i < j := by have := HIJ.out; omega
        obtain ⟨b1, b2, hb⟩ : ∃ b1 b2, B1 = b1 ++ b2 ∧ b2.length = i := ⟨B1.take (j - i), B1.drop (j - i), (List.take_append_drop _ _).symm, by have := HP.out.2.1; rw [List.length_drop]; omega⟩
        have HB1 := Lib.hid hb
        have hlz : ¬ (j : Int) < (i : Int) := by omega
        have hij2 : (j : Int) - (i : Int) = ((j - i : Nat) : Int) := by omega
        have HIJ2 := Lib.hid hij2
        have hij3 : (m : Int) + (j : Int) - (i : Int) = ((m + j - i : Nat) : Int) := by omega
        have HIJ3 := Lib.hid hij3
        clear hb hij2 hij3
        go_wp2_with fail
        rw [HIM.out, HIJ3.out]
        go_at_fn 52
        refine (swapRange_any k HF.out enc g cb blk off len cap (m - i) (m + j - i) i d0 w0 _ X1 A1 b1 b2 Z1 R HS.out (by have := S1.out; rw [HB1.out.1, List.append_assoc] at this; exact this) (by have := HP.out.2.2.2.1; rw [HB1.out.1] at this; simpa using this) (by have := HP.out.2.2.1; omega) HP.out.1 (by
          have h1 := HP.out.2.1; have h2 := HB1.out.2; rw [HB1.out.1, List.length_append] at h1; omega) HB1.out.2 hsz).mono ?_
        rintro e w' ⟨rfl, S2⟩
        clear S1
        have S3 : Aside (SWK enc k w0 blk off (X1 ++ (b2 ++ (b1 ++ (A1 ++ Z1)))).toArray w') := S2
        clear S2
        go_wp2
        rw [HIJ2.out]
        go_roundg (i + (j - i))
        case measure => omega
        case rel =>
          refine ⟨i, j - i, X1, b2, b1, A1 ++ Z1, rfl, rfl, hi, by omega, Nat.le_refl _, him, by omega, Lib.hid ⟨HB1.out.2, ?_, HP.out.2.2.1, ?_, ?_⟩, S3⟩
          · have h1 := HP.out.2.1; have h2 := HB1.out.2; rw [HB1.out.1, List.length_append] at h1; omega
          · have h1 := HP.out.2.2.2.1; rw [HB1.out.1] at h1; simp only [List.length_append] at h1 ⊢; omega
          · rw [← HP.out.2.2.2.2, HB1.out.1]; simp
end Go.Proofs.Ytafenlacacghoaa
