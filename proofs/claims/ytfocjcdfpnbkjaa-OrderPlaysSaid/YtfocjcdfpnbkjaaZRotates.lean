/- The stable sort's family: rotate. -/
import Derived.Test.YtfocjcdfpnbkjaaZKeyMaths
set_option linter.unusedVariables false
set_option linter.unusedSimpArgs false
namespace Go.Proofs.Ytfocjcdfpnbkjaa
open Go.Shelf Go.RowKit Go.Lib Go.Sort
variable {P : Program} {α : Type} [Inhabited α]

set_option maxHeartbeats 4000000 in
set_option maxRecDepth 1000000 in
theorem rotate_any (k : Nat) (F : Fam P k) (enc : α → List Value) (g : Nat) (cb : Array Value) (blk off len cap a m b : Nat) (d0 : Array α) (w0 w : World) (X A B Z : List α)
    (R : RowK enc k w0 blk off d0) (hs : d0.size = len) (S : SWK enc k w0 blk off (X ++ (A ++ (B ++ Z))).toArray w)
    (hL : (X ++ (A ++ (B ++ Z))).length = len) (hX : X.length = a) (hA : a + A.length = m) (hB : m + B.length = b) (hA0 : 0 < A.length) (hB0 : 0 < B.length) (hsz : len < 4611686018427387904) :
    Calls P 150 #[.slice (some ⟨blk, off, none⟩) len cap, .int .i64 a, .int .i64 m, .int .i64 b, .func (.func g) #[] cb] w fun e w' => e = .returned (.tuple #[]) ∧ SWK enc k w0 blk off (X ++ (B ++ (A ++ Z))).toArray w' := by
  have e46 : ∀ args w, (callFunc 151 args).run P w = .ok (.enter 151 args) w := enters_of F.fs (by kernel_rfl) rfl
  have mixed := F.mixed; have t0 := F.t0; have a0 := F.a0; have z0 := F.z0; have v0 := F.v0; have t3 := F.t3; have a3 := F.a3; have z3 := F.z3; have v3 := F.v3; have t4 := F.t4; have a4 := F.a4; have z4 := F.z4; have v4 := F.v4; have t40 := F.t40; have a40 := F.a40; have z40 := F.z40; have v40 := F.v40; have t64 := F.t64; have a64 := F.a64; have z64 := F.z64; have v64 := F.v64; have aE := F.aE; have zE := F.zE
  have FG := F.fr
  have HF := Lib.hid F
  have S0 : Aside (SWK enc k w0 blk off (X ++ (A ++ (B ++ Z))).toArray w) := S
  have hbb : b ≤ len := by simp only [List.length_append] at hL; omega
  have hi0 : (m : Int) - (a : Int) = (A.length : Int) := by omega
  have hj0 : (b : Int) - (m : Int) = (B.length : Int) := by omega
  have HL := Lib.hid hL
  have HS := Lib.hid hs
  have HX := Lib.hid hX
  have HI := Lib.hid hi0
  have HJ := Lib.hid hj0
  have hma : a + A.length = m := hA
  have HA := Lib.hid hA
  have HB := Lib.hid hB
  have ham : a ≤ m := by omega
  have hmb : m ≤ b := by omega
  clear S hL hX hs F hi0 hj0 hA hB hma
  go_enter FG, Try.ntmps150
  go_wp2
  rw [HI.out, HJ.out]
  go_loopg [10, 11] (A.length + B.length) (fun kx s10 s11 wr => ∃ (i j : Nat) (X1 A1 B1 Z1 : List α), s10 = .int .i64 i ∧ s11 = .int .i64 j ∧ 0 < i ∧ 0 < j ∧ i + j ≤ kx ∧ i ≤ m ∧ m + j ≤ len ∧
    Hid (A1.length = i ∧ B1.length = j ∧ X1.length + i = m ∧ (X1 ++ (A1 ++ (B1 ++ Z1))).length = len ∧ X1 ++ (B1 ++ (A1 ++ Z1)) = X ++ (B ++ (A ++ Z))) ∧
    Aside (SWK enc k w0 blk off (X1 ++ (A1 ++ (B1 ++ Z1))).toArray wr))
  case atStart => exact ⟨_, _, X, A, B, Z, rfl, rfl, hA0, hB0, Nat.le_refl _, by have := HA.out; omega, by have := HB.out; omega, Lib.hid ⟨rfl, rfl, by rw [HX.out, HA.out], HL.out, rfl⟩, S0⟩
  case round =>
    clear S0
    obtain ⟨i, j, X1, A1, B1, Z1, rfl, rfl, hi, hj, hkx, him, hmj, HP, S1⟩ := hrel
    have him2 : (m : Int) - (i : Int) = ((m - i : Nat) : Int) := by omega
    have HIM := Lib.hid him2
    clear him2
    by_cases hij : i = j
    · have HIJ := Lib.hid hij
      have hq : ((i : Int) == (j : Int)) = true := by simp; omega
      have hq2 : ((i : Int) != (j : Int)) = false := by simp; omega
      clear hij
      go_wp2_with fail
      rw [HIM.out]
      go_at_fn 151
      refine (swapRange_any k HF.out enc g cb blk off len cap (m - i) m i d0 w0 _ X1 A1 [] B1 Z1 R HS.out S1.out (by have := HP.out.2.2.2.1; simpa using this) (by have := HP.out.2.2.1; omega) HP.out.1 (by simp; omega) (by have := HP.out.2.1; have := HIJ.out; omega) hsz).mono ?_
      rintro e w' ⟨rfl, S2⟩
      clear S1
      have S3 : Aside (SWK enc k w0 blk off (X ++ (B ++ (A ++ Z))).toArray w') := by
        rw [← HP.out.2.2.2.2]
        exact S2
      clear S2
      go_wp2
      go_end0
      exact ⟨rfl, S3.out⟩
    · have HIJ := Lib.hid hij
      have hq : ((i : Int) == (j : Int)) = false := by simp; omega
      have hq2 : ((i : Int) != (j : Int)) = true := by simp; omega
      clear hij
      by_cases hlt : j < i
      · obtain ⟨a1, a2, ha⟩ : ∃ a1 a2, A1 = a1 ++ a2 ∧ a1.length = j := ⟨A1.take j, A1.drop j, (List.take_append_drop _ _).symm, by have := HP.out.1; rw [List.length_take]; omega⟩
        have HA1 := Lib.hid ha
        have hlz : (j : Int) < (i : Int) := by omega
        have hij2 : (i : Int) - (j : Int) = ((i - j : Nat) : Int) := by omega
        have HIJ2 := Lib.hid hij2
        clear ha hij2
        go_wp2_with fail
        rw [HIM.out]
        go_at_fn 151
        refine (swapRange_any k HF.out enc g cb blk off len cap (m - i) m j d0 w0 _ X1 a1 a2 B1 Z1 R HS.out (by have := S1.out; rw [HA1.out.1, List.append_assoc] at this; exact this) (by have := HP.out.2.2.2.1; rw [HA1.out.1] at this; simpa using this) (by have := HP.out.2.2.1; omega) HA1.out.2 (by
          have h1 := HP.out.1; have h2 := HA1.out.2; rw [HA1.out.1, List.length_append] at h1; omega) HP.out.2.1 hsz).mono ?_
        rintro e w' ⟨rfl, S2⟩
        clear S1
        have S3 : Aside (SWK enc k w0 blk off ((X1 ++ B1) ++ (a2 ++ (a1 ++ Z1))).toArray w') := by
          rw [List.append_assoc]
          exact S2
        clear S2
        go_wp2
        rw [HIJ2.out]
        go_roundg (i - j + j)
        case measure => omega
        case rel =>
          refine ⟨i - j, j, X1 ++ B1, a2, a1, Z1, rfl, rfl, by omega, hj, Nat.le_refl _, by omega, hmj, Lib.hid ⟨?_, HA1.out.2, ?_, ?_, ?_⟩, S3⟩
          · have h1 := HP.out.1; have h2 := HA1.out.2; rw [HA1.out.1, List.length_append] at h1; omega
          · have h1 := HP.out.2.2.1; have h2 := HP.out.2.1; rw [List.length_append]; omega
          · have h1 := HP.out.2.2.2.1; rw [HA1.out.1] at h1; simp only [List.length_append] at h1 ⊢; omega
          · rw [← HP.out.2.2.2.2, HA1.out.1]; simp
      · have hlt2 : i < j := by have := HIJ.out; omega
        obtain ⟨b1, b2, hb⟩ : ∃ b1 b2, B1 = b1 ++ b2 ∧ b2.length = i := ⟨B1.take (j - i), B1.drop (j - i), (List.take_append_drop _ _).symm, by have := HP.out.2.1; rw [List.length_drop]; omega⟩
        have HB1 := Lib.hid hb
        have hlz : ¬ (j : Int) < (i : Int) := by omega
        have hij2 : (j : Int) - (i : Int) = ((j - i : Nat) : Int) := by omega
        have HIJ2 := Lib.hid hij2
        have hij3 : (m : Int) + (j : Int) - (i : Int) = ((m + j - i : Nat) : Int) := by omega
        have HIJ3 := Lib.hid hij3
        clear hb hij2 hij3
        go_wp2_with fail
        rw [HIM.out, HIJ3.out]
        go_at_fn 151
        refine (swapRange_any k HF.out enc g cb blk off len cap (m - i) (m + j - i) i d0 w0 _ X1 A1 b1 b2 Z1 R HS.out (by have := S1.out; rw [HB1.out.1, List.append_assoc] at this; exact this) (by have := HP.out.2.2.2.1; rw [HB1.out.1] at this; simpa using this) (by have := HP.out.2.2.1; omega) HP.out.1 (by
          have h1 := HP.out.2.1; have h2 := HB1.out.2; rw [HB1.out.1, List.length_append] at h1; omega) HB1.out.2 hsz).mono ?_
        rintro e w' ⟨rfl, S2⟩
        clear S1
        have S3 : Aside (SWK enc k w0 blk off (X1 ++ (b2 ++ (b1 ++ (A1 ++ Z1)))).toArray w') := S2
        clear S2
        go_wp2
        rw [HIJ2.out]
        go_roundg (i + (j - i))
        case measure => omega
        case rel =>
          refine ⟨i, j - i, X1, b2, b1, A1 ++ Z1, rfl, rfl, hi, by omega, Nat.le_refl _, him, by omega, Lib.hid ⟨HB1.out.2, ?_, HP.out.2.2.1, ?_, ?_⟩, S3⟩
          · have h1 := HP.out.2.1; have h2 := HB1.out.2; rw [HB1.out.1, List.length_append] at h1; omega
          · have h1 := HP.out.2.2.2.1; rw [HB1.out.1] at h1; simp only [List.length_append] at h1 ⊢; omega
          · rw [← HP.out.2.2.2.2, HB1.out.1]; simp
end Go.Proofs.Ytfocjcdfpnbkjaa

/- The stable sort's family: symMerge where the left part has one element. -/
set_option linter.unusedVariables false
set_option linter.unusedSimpArgs false
namespace Go.Proofs.Ytfocjcdfpnbkjaa
open Go.Shelf Go.RowKit Go.Lib Go.Sort
variable {P : Program} {α : Type} [Inhabited α]

theorem half (i j : Nat) : ((i : Int) + (j : Int)) / 2 = (((i + j) / 2 : Nat) : Int) := by omega

set_option maxHeartbeats 8000000 in
set_option maxRecDepth 1000000 in
theorem symA_any (k : Nat) (F : Fam P k) (enc : α → List Value) (key : α → K) (cf : α → α → Int) (hcf : ∀ x y, cf x y < 0 ↔ (key x).less (key y) = true) (g : Nat) (cb : Array Value) (eg : ∀ args w, (callFunc g args).run P w = .ok (.enter g args) w)
    (blk off len cap a m b : Nat) (d0 : Array α) (w0 w : World) (X : List α) (x : α) (B Z : List α) (hcmp : CmpLays P g cb enc k cf blk off d0.size w0)
    (R : RowK enc k w0 blk off d0) (hs : d0.size = len) (S : SWK enc k w0 blk off (X ++ x :: (B ++ Z)).toArray w)
    (hL : (X ++ x :: (B ++ Z)).length = len) (hX : X.length = a) (hm : a + 1 = m) (hB : m + B.length = b) (hB0 : 0 < B.length) (hsB : Srt key B) (hsz : len < 4611686018427387904) :
    Calls P 149 #[.slice (some ⟨blk, off, none⟩) len cap, .int .i64 a, .int .i64 m, .int .i64 b, .func (.func g) #[] cb] w fun e w' => e = .returned (.tuple #[]) ∧ ∃ M, IsSrt key (x :: B) M ∧ SWK enc k w0 blk off (X ++ (M ++ Z)).toArray w' := by
  have mixed := F.mixed; have t0 := F.t0; have a0 := F.a0; have z0 := F.z0; have v0 := F.v0; have t3 := F.t3; have a3 := F.a3; have z3 := F.z3; have v3 := F.v3; have t4 := F.t4; have a4 := F.a4; have z4 := F.z4; have v4 := F.v4; have t40 := F.t40; have a40 := F.a40; have z40 := F.z40; have v40 := F.v40; have t64 := F.t64; have a64 := F.a64; have z64 := F.z64; have v64 := F.v64; have t71 := F.t71; have a71 := F.a71; have z71 := F.z71; have v71 := F.v71; have aE := F.aE; have zE := F.zE
  have u3 := run_underlying F.t3; have u71 := run_underlying F.t71
  have FG := F.fm
  have HC : Aside _ := hcmp
  have HCF := Lib.hid hcf
  obtain ⟨dk, hdk⟩ : ∃ dk, dk = (X ++ x :: (B ++ Z)).toArray := ⟨_, rfl⟩
  have S0 : Aside (SWK enc k w0 blk off dk w) := by rw [hdk]; exact S
  have hds : dk.size = len := by rw [hdk, List.size_toArray]; exact hL
  have hds0 : dk.size = d0.size := by rw [hds, hs]
  have hbb : b ≤ len := by simp only [List.length_append, List.length_cons] at hL; omega
  have hxa : dk[a]! = x := by rw [hdk, ← hX]; exact list_at X (B ++ Z) x
  have hxb : ∀ C y D, B = C ++ y :: D → dk[m + C.length]! = y := fun C y D e => by
    have := list_at (X ++ x :: C) (D ++ Z) y
    rw [hdk, e]
    rw [List.append_assoc, List.length_append, List.length_cons] at this
    rw [show m + C.length = X.length + (C.length + 1) by omega]
    simp only [List.append_assoc, List.cons_append] at this ⊢
    exact this
  have HXA := Lib.hid hxa
  have HXB := Lib.hid hxb
  have HDK := Lib.hid hdk
  have HX := Lib.hid hX
  have HM := Lib.hid hm
  have HB := Lib.hid hB
  have HSB := Lib.hid hsB
  have HDS := Lib.hid hds
  have HDS0 := Lib.hid hds0
  have hm1 : ((m : Int) - (a : Int) == 1) = true := by simp; omega
  have hmb : m < b := by omega
  have ham : a < m := by omega
  have HS := Lib.hid hs
  clear S hL hX hm hB hB0 hsB hdk hxa hxb hds hds0 hcmp hcf F hs
  go_enter FG, Try.ntmps149
  go_wp2_with fail
  go_loopg [10, 11] (b - m) (fun kx s10 s11 wr => ∃ i j : Nat, s10 = .int .i64 i ∧ s11 = .int .i64 j ∧ m ≤ i ∧ i ≤ j ∧ j ≤ b ∧ j - i ≤ kx ∧ Aside (SWK enc k w0 blk off dk wr) ∧
    Hid ((∀ h, m ≤ h → h + 1 = i → (key dk[h]!).less (key x) = true) ∧ (j < b → (key dk[j]!).less (key x) = false)))
  case atStart => exact ⟨m, b, rfl, rfl, Nat.le_refl _, by omega, Nat.le_refl _, Nat.le_refl _, S0, Lib.hid ⟨fun h h1 h2 => by omega, fun h => by omega⟩⟩
  case round =>
    clear S0
    obtain ⟨i, j, rfl, rfl, hmi, hij, hjb, hkx, S1, HI⟩ := hrel
    by_cases hlt : i < j
    · obtain ⟨h, hh⟩ : ∃ h, h = (i + j) / 2 := ⟨_, rfl⟩
      have hz := half i j
      rw [← hh] at hz
      have HZ := Lib.hid hz
      have hh1 : i ≤ h := by omega
      have hh2 : h < j := by omega
      clear hh hz
      go_wp2_with fail
      rw [HZ.out]
      have hdl := HDS.out
      have hd0 := HDS0.out
      have l1 := S1.out.ld R hd0 P h (by omega)
      have l2 := S1.out.ld R hd0 P a (by omega)
      have hc := S1.out.cmp HC.out hd0 dk[h]! dk[a]!
      have hv := HCF.out dk[h]! dk[a]!
      rw [HXA.out] at l2 hc hv
      clear hdl hd0
      obtain ⟨y, hy⟩ : ∃ y, y = dk[h]! := ⟨_, rfl⟩
      rw [← hy] at l1 hc hv
      have HY := Lib.hid hy
      have hb1 : (h : Int) < (len : Int) := by omega
      have hb2 : (a : Int) < (len : Int) := by omega
      clear hy
      by_cases hlv : cf y x < 0
      · have HV := Lib.hid (hv.1 hlv)
        have hd : decide (cf y x < 0) = true := decide_eq_true hlv
        clear hv
        go_wp2_with fail
        go_quiet_grown (first | (go_at_fn g; refine Calls.grown_of (hc _ _)))
        have S2 : Aside (SWK enc k w0 blk off dk (grow (wr.drewN nq) osq)) := S1.out.grown nq osq
        clear l1 l2 hc S1
        generalize grow (wr.drewN nq) osq = w2 at S2 ⊢
        go_wp2_with fail
        go_roundg (j - (h + 1))
        case measure => omega
        case rel => exact ⟨h + 1, j, by go_num, rfl, by omega, by omega, hjb, Nat.le_refl _, S2, Lib.hid ⟨fun t ht1 ht2 => by
          obtain rfl : t = h := by omega
          rw [← HY.out]; exact HV.out, HI.out.2⟩⟩
      · have HV := Lib.hid (show (key y).less (key x) = false by
          rcases hq : (key y).less (key x) with _ | _
          · rfl
          · exact absurd (hv.2 hq) hlv)
        have hd : decide (cf y x < 0) = false := decide_eq_false hlv
        clear hv
        go_wp2_with fail
        go_quiet_grown (first | (go_at_fn g; refine Calls.grown_of (hc _ _)))
        have S2 : Aside (SWK enc k w0 blk off dk (grow (wr.drewN nq) osq)) := S1.out.grown nq osq
        clear l1 l2 hc S1
        generalize grow (wr.drewN nq) osq = w2 at S2 ⊢
        go_wp2_with fail
        go_roundg (h - i)
        case measure => omega
        case rel => exact ⟨i, h, rfl, rfl, hmi, hh1, by omega, Nat.le_refl _, S2, Lib.hid ⟨HI.out.1, fun _ => by rw [← HY.out]; exact HV.out⟩⟩
    · have hji : j = i := by omega
      obtain ⟨c, hc⟩ : ∃ c, c = i - m := ⟨_, rfl⟩
      have hci : m + c = i := by omega
      have hcl : c ≤ B.length := by have := HB.out; omega
      obtain ⟨B1, B2, hb12, hb1l⟩ : ∃ B1 B2, B = B1 ++ B2 ∧ B1.length = c := ⟨B.take c, B.drop c, (List.take_append_drop _ _).symm, by rw [List.length_take]; omega⟩
      have HRES : Hid (IsSrt key (x :: B) (B1 ++ x :: B2)) := by
        refine Lib.hid ?_
        have hsb := HSB.out
        rw [hb12] at hsb ⊢
        refine put_first hsb (fun A y e => ?_) (fun y D e => ?_)
        · have hl : A.length + 1 = c := by rw [← hb1l, e, List.length_append]; rfl
          have h1 := HI.out.1 (m + A.length) (by omega) (by omega)
          rw [HXB.out A y B2 (by rw [hb12, e]; simp)] at h1
          exact h1
        · have h0 : B.length = c + B2.length := by rw [hb12, List.length_append, hb1l]
          have hne : j < b := by have := HB.out; rw [e, List.length_cons] at h0; omega
          have h1 := HI.out.2 hne
          rw [show j = m + B1.length by omega, HXB.out B1 y D (by rw [hb12, e])] at h1
          exact h1
      have HB12 := Lib.hid (And.intro hb12 hb1l)
      have S1' : Aside (SWK enc k w0 blk off (X ++ ([] ++ x :: (B1 ++ (B2 ++ Z)))).toArray wr) := by
        have := S1.out
        rw [HDK.out, hb12, List.append_assoc] at this
        exact this
      have HHL : Hid (X.length + B.length + Z.length + 1 = len) := Lib.hid (by
        have := HDS.out
        rw [HDK.out, List.size_toArray] at this
        simp only [List.length_append, List.length_cons] at this
        omega)
      have hil : i ≤ len := by omega
      have hi1 : (i : Int) - 1 = ((a + c : Nat) : Int) := by have := HM.out; omega
      have HI1 := Lib.hid hi1
      have hjz : ¬ (i : Int) < (j : Int) := by omega
      have hacm : a + c < len := by have := HM.out; have := HB.out; omega
      clear hb12 hb1l hc hci hi1 S1 hji HI hkx
      go_wp2_with fail
      go_loopg [13] c (fun kx s13 w2 => ∃ (t : Nat) (C1 C2 : List α), s13 = .int .i64 (a + t : Nat) ∧ t ≤ c ∧ c - t ≤ kx ∧ Hid (B1 = C1 ++ C2 ∧ C1.length = t) ∧ Aside (SWK enc k w0 blk off (X ++ (C1 ++ x :: (C2 ++ (B2 ++ Z)))).toArray w2))
      case atStart => exact ⟨0, [], B1, rfl, Nat.zero_le _, Nat.le_refl _, Lib.hid ⟨rfl, rfl⟩, S1'⟩
      case round =>
        clear S1'
        obtain ⟨t, C1, C2, rfl, htc, hkx, HP, S1⟩ := hrel
        by_cases htl : t < c
        · obtain ⟨y, C3, hC2⟩ : ∃ y C3, C2 = y :: C3 := by
            match C2 with
            | y :: C3 => exact ⟨y, C3, rfl⟩
            | [] => have h1 := HP.out.1; have h2 := HP.out.2; have h3 := HB12.out.2; rw [h1, List.append_nil] at h3; omega
          subst hC2
          obtain ⟨dj, hdj⟩ : ∃ dj, dj = (X ++ (C1 ++ x :: (y :: C3 ++ (B2 ++ Z)))).toArray := ⟨_, rfl⟩
          have hsj : dj.size = len := by
            have h1 := HB12.out.1
            have h2 := HP.out.1
            have h3 := HHL.out
            rw [hdj, List.size_toArray]
            rw [h1, h2] at h3
            simp only [List.length_append, List.length_cons] at h3 ⊢
            omega
          have hsj0 : dj.size = d0.size := by rw [hsj, HS.out]
          have hsw : Hid (swp dj (a + t) (a + t + 1) = (X ++ ((C1 ++ [y]) ++ x :: (C3 ++ (B2 ++ Z)))).toArray) := by
            refine Lib.hid ?_
            have := swp_list (X ++ C1) [] (C3 ++ (B2 ++ Z)) x y (a + t) (a + t + 1) (by rw [List.length_append, HX.out, HP.out.2]) (by rw [List.length_append, HX.out, HP.out.2]; rfl)
            rw [hdj]
            simp only [List.append_assoc, List.nil_append, List.cons_append, List.singleton_append] at this ⊢
            exact this
          have S1' : Aside (SWK enc k w0 blk off dj wr) := by rw [hdj]; exact S1
          have S2 : Aside (SWK enc k w0 blk off (swp dj (a + t) (a + t + 1)) ((wr.drew.setCells blk (off + (a + t) * k) (enc dj[a + t + 1]!)).setCells blk (off + (a + t + 1) * k) (enc dj[a + t]!))) := S1'.out.swapped R (a + t) (a + t + 1) (by omega) (by omega)
          have l1 := S1'.out.ld1 R hsj0 P (a + t) (by omega)
          have l2 := S1'.out.ld1 R hsj0 P (a + t + 1) (by omega)
          have s1 := S1'.out.st1 R hsj0 P (a + t) (by omega) dj[a + t + 1]!
          have s2 := S1'.out.st2 R hsj0 P (a + t) (a + t + 1) (by omega) (by omega) dj[a + t + 1]! dj[a + t]!
          have n1 : (enc dj[a + t]!).length = k := R.hk _
          have n2 : (enc dj[a + t + 1]!).length = k := R.hk _
          generalize enc dj[a + t]! = cI at S2 l1 s2 n1
          generalize enc dj[a + t + 1]! = cJ at S2 l2 s1 s2 n2
          clear S1 S1' hdj hsj hsj0
          rw [hsw.out] at S2
          obtain ⟨u, hu⟩ : ∃ u, u = a + t := ⟨_, rfl⟩
          rw [← hu] at l1 l2 s1 s2 S2 ⊢
          have HU := Lib.hid hu
          have hul : u < a + c := by omega
          clear hu
          have htl' : (u : Int) < (i : Int) - 1 := by have := HI1.out; omega
          have bu : (u : Int) < (len : Int) := by omega
          have eu : ((u : Int) + 1).toNat = u + 1 := by omega
          have pu : (0 : Int) ≤ (u : Int) + 1 := by omega
          have bu1 : (u : Int) + 1 < (len : Int) := by omega
          have ru : IntKind.i64.wrap ((u : Int) + 1) = (u : Int) + 1 := by rw [IntKind.wrap_i64]; omega
          go_wp2_with fail
          go_big_region_o
          clear l1 l2 s1 s2
          generalize (wr.drew.setCells blk (off + u * k) cJ).setCells blk (off + (u + 1) * k) cI = w2 at S2 ⊢
          go_wp2_with fail
          go_roundg (c - (t + 1))
          case measure => omega
          case rel =>
            refine ⟨t + 1, C1 ++ [y], C3, by rw [show a + (t + 1) = u + 1 by have := HU.out; omega]; go_num, by omega, Nat.le_refl _, Lib.hid ⟨by rw [HP.out.1]; simp, by rw [List.length_append, HP.out.2]; rfl⟩, S2⟩
        · have hc2 : C2 = [] := List.eq_nil_of_length_eq_zero (by have h1 := HP.out.1; have h2 := HP.out.2; have h3 := HB12.out.2; rw [h1, List.length_append] at h3; omega)
          have htz : ¬ ((a + t : Nat) : Int) < (i : Int) - 1 := by have := HI1.out; omega
          have S3 : Aside (SWK enc k w0 blk off (X ++ ((B1 ++ x :: B2) ++ Z)).toArray wr) := by
            have h := S1.out
            rw [hc2, List.nil_append] at h
            rw [HP.out.1, hc2, List.append_nil, List.append_assoc]
            exact h
          clear S1 hc2
          go_wp2_with fail
          (try simp only [Exit.inBlock, Exit.then]); refine bodyPost_ret (results_none rfl _ _ _) rfl ?_
          exact ⟨rfl, _, HRES.out, S3.out⟩
end Go.Proofs.Ytfocjcdfpnbkjaa

/- The stable sort's family: symMerge where the right part has one element. -/
set_option linter.unusedVariables false
set_option linter.unusedSimpArgs false
namespace Go.Proofs.Ytfocjcdfpnbkjaa
open Go.Shelf Go.RowKit Go.Lib Go.Sort
variable {P : Program} {α : Type} [Inhabited α]

set_option maxHeartbeats 8000000 in
set_option maxRecDepth 1000000 in
theorem symB_any (k : Nat) (F : Fam P k) (enc : α → List Value) (key : α → K) (cf : α → α → Int) (hcf : ∀ x y, cf x y < 0 ↔ (key x).less (key y) = true) (g : Nat) (cb : Array Value) (eg : ∀ args w, (callFunc g args).run P w = .ok (.enter g args) w)
    (blk off len cap a m b : Nat) (d0 : Array α) (w0 w : World) (X : List α) (y : α) (A Z : List α) (hcmp : CmpLays P g cb enc k cf blk off d0.size w0)
    (R : RowK enc k w0 blk off d0) (hs : d0.size = len) (S : SWK enc k w0 blk off (X ++ (A ++ y :: Z)).toArray w)
    (hL : (X ++ (A ++ y :: Z)).length = len) (hX : X.length = a) (hA : a + A.length = m) (hb : m + 1 = b) (hA0 : 1 < A.length) (hsA : Srt key A) (hsz : len < 4611686018427387904) :
    Calls P 149 #[.slice (some ⟨blk, off, none⟩) len cap, .int .i64 a, .int .i64 m, .int .i64 b, .func (.func g) #[] cb] w fun e w' => e = .returned (.tuple #[]) ∧ ∃ M, IsSrt key (A ++ [y]) M ∧ SWK enc k w0 blk off (X ++ (M ++ Z)).toArray w' := by
  have mixed := F.mixed; have t0 := F.t0; have a0 := F.a0; have z0 := F.z0; have v0 := F.v0; have t3 := F.t3; have a3 := F.a3; have z3 := F.z3; have v3 := F.v3; have t4 := F.t4; have a4 := F.a4; have z4 := F.z4; have v4 := F.v4; have t40 := F.t40; have a40 := F.a40; have z40 := F.z40; have v40 := F.v40; have t64 := F.t64; have a64 := F.a64; have z64 := F.z64; have v64 := F.v64; have t71 := F.t71; have a71 := F.a71; have z71 := F.z71; have v71 := F.v71; have aE := F.aE; have zE := F.zE
  have u3 := run_underlying F.t3; have u71 := run_underlying F.t71
  have FG := F.fm
  have HC : Aside _ := hcmp
  have HCF := Lib.hid hcf
  obtain ⟨dk, hdk⟩ : ∃ dk, dk = (X ++ (A ++ y :: Z)).toArray := ⟨_, rfl⟩
  have S0 : Aside (SWK enc k w0 blk off dk w) := by rw [hdk]; exact S
  have hds : dk.size = len := by rw [hdk, List.size_toArray]; exact hL
  have hds0 : dk.size = d0.size := by rw [hds, hs]
  have hbb : b ≤ len := by simp only [List.length_append, List.length_cons] at hL; omega
  have hya : dk[m]! = y := by
    have := list_at (X ++ A) Z y
    rw [List.append_assoc, List.length_append] at this
    rw [hdk, show m = X.length + A.length by omega]
    exact this
  have hxb : ∀ C z D, A = C ++ z :: D → dk[a + C.length]! = z := fun C z D e => by
    have := list_at (X ++ C) (D ++ y :: Z) z
    rw [List.append_assoc, List.length_append] at this
    rw [hdk, e, show a + C.length = X.length + C.length by omega]
    simp only [List.append_assoc, List.cons_append] at this ⊢
    exact this
  have HYA := Lib.hid hya
  have HXB := Lib.hid hxb
  have HDK := Lib.hid hdk
  have HX := Lib.hid hX
  have HA := Lib.hid hA
  have HSA := Lib.hid hsA
  have HDS := Lib.hid hds
  have HDS0 := Lib.hid hds0
  have hm1 : ((m : Int) - (a : Int) == 1) = false := by simp; omega
  have hb1 : ((b : Int) - (m : Int) == 1) = true := by simp; omega
  have hmb : m < b := by omega
  have ham : a < m := by omega
  have hml : m < len := by omega
  have HS := Lib.hid hs
  clear S hL hX hA hb hA0 hsA hdk hya hxb hds hds0 hcmp hcf F hs
  go_enter FG, Try.ntmps149
  go_wp2_with fail
  go_loopg [14, 15] (m - a) (fun kx s14 s15 wr => ∃ i j : Nat, s14 = .int .i64 i ∧ s15 = .int .i64 j ∧ a ≤ i ∧ i ≤ j ∧ j ≤ m ∧ j - i ≤ kx ∧ Aside (SWK enc k w0 blk off dk wr) ∧
    Hid ((∀ h, a ≤ h → h + 1 = i → (key y).less (key dk[h]!) = false) ∧ (j < m → (key y).less (key dk[j]!) = true)))
  case atStart => exact ⟨a, m, rfl, rfl, Nat.le_refl _, by omega, Nat.le_refl _, Nat.le_refl _, S0, Lib.hid ⟨fun h h1 h2 => by omega, fun h => by omega⟩⟩
  case round =>
    clear S0
    obtain ⟨i, j, rfl, rfl, hai, hij, hjm, hkx, S1, HI⟩ := hrel
    by_cases hlt : i < j
    · obtain ⟨h, hh⟩ : ∃ h, h = (i + j) / 2 := ⟨_, rfl⟩
      have hz := half i j
      rw [← hh] at hz
      have HZ := Lib.hid hz
      have hh1 : i ≤ h := by omega
      have hh2 : h < j := by omega
      clear hh hz
      go_wp2_with fail
      rw [HZ.out]
      have hdl := HDS.out
      have hd0 := HDS0.out
      have l1 := S1.out.ld R hd0 P m (by omega)
      have l2 := S1.out.ld R hd0 P h (by omega)
      have hc := S1.out.cmp HC.out hd0 dk[m]! dk[h]!
      have hv := HCF.out dk[m]! dk[h]!
      rw [HYA.out] at l1 hc hv
      clear hdl hd0
      obtain ⟨z, hy⟩ : ∃ z, z = dk[h]! := ⟨_, rfl⟩
      rw [← hy] at l2 hc hv
      have HY := Lib.hid hy
      have hb2 : (h : Int) < (len : Int) := by omega
      have hb3 : (m : Int) < (len : Int) := by omega
      clear hy
      by_cases hlv : cf y z < 0
      · have HV := Lib.hid (hv.1 hlv)
        have hd : decide (cf y z < 0) = true := decide_eq_true hlv
        clear hv
        go_wp2_with fail
        go_quiet_grown (first | (go_at_fn g; refine Calls.grown_of (hc _ _)))
        have S2 : Aside (SWK enc k w0 blk off dk (grow (wr.drewN nq) osq)) := S1.out.grown nq osq
        clear l1 l2 hc S1
        generalize grow (wr.drewN nq) osq = w2 at S2 ⊢
        go_wp2_with fail
        go_roundg (h - i)
        case measure => omega
        case rel => exact ⟨i, h, rfl, rfl, hai, hh1, by omega, Nat.le_refl _, S2, Lib.hid ⟨HI.out.1, fun _ => by rw [← HY.out]; exact HV.out⟩⟩
      · have HV := Lib.hid (show (key y).less (key z) = false by
          rcases hq : (key y).less (key z) with _ | _
          · rfl
          · exact absurd (hv.2 hq) hlv)
        have hd : decide (cf y z < 0) = false := decide_eq_false hlv
        clear hv
        go_wp2_with fail
        go_quiet_grown (first | (go_at_fn g; refine Calls.grown_of (hc _ _)))
        have S2 : Aside (SWK enc k w0 blk off dk (grow (wr.drewN nq) osq)) := S1.out.grown nq osq
        clear l1 l2 hc S1
        generalize grow (wr.drewN nq) osq = w2 at S2 ⊢
        go_wp2_with fail
        go_roundg (j - (h + 1))
        case measure => omega
        case rel => exact ⟨h + 1, j, by go_num, rfl, by omega, by omega, hjm, Nat.le_refl _, S2, Lib.hid ⟨fun t ht1 ht2 => by
          obtain rfl : t = h := by omega
          rw [← HY.out]; exact HV.out, HI.out.2⟩⟩
    · have hji : j = i := by omega
      obtain ⟨c, hc⟩ : ∃ c, c = i - a := ⟨_, rfl⟩
      have hci : a + c = i := by omega
      have hcl : c ≤ A.length := by have := HA.out; omega
      obtain ⟨A1, A2, ha12, ha1l⟩ : ∃ A1 A2, A = A1 ++ A2 ∧ A1.length = c := ⟨A.take c, A.drop c, (List.take_append_drop _ _).symm, by rw [List.length_take]; omega⟩
      have HRES : Hid (IsSrt key (A ++ [y]) (A1 ++ y :: A2)) := by
        refine Lib.hid ?_
        have hsa := HSA.out
        rw [ha12] at hsa ⊢
        refine put_last hsa (fun C z e => ?_) (fun z D e => ?_)
        · have hl : C.length + 1 = c := by rw [← ha1l, e, List.length_append]; rfl
          have h1 := HI.out.1 (a + C.length) (by omega) (by omega)
          rw [HXB.out C z A2 (by rw [ha12, e]; simp)] at h1
          exact h1
        · have h0 : A.length = c + A2.length := by rw [ha12, List.length_append, ha1l]
          have hne : j < m := by have := HA.out; rw [e, List.length_cons] at h0; omega
          have h1 := HI.out.2 hne
          rw [show j = a + A1.length by omega, HXB.out A1 z D (by rw [ha12, e])] at h1
          exact h1
      have HA12 := Lib.hid (And.intro ha12 ha1l)
      have hla2 : i + A2.length = m := by have := HA.out; rw [ha12, List.length_append] at this; omega
      have S1' : Aside (SWK enc k w0 blk off (X ++ (A1 ++ (A2 ++ y :: ([] ++ Z)))).toArray wr) := by
        have := S1.out
        rw [HDK.out, ha12, List.append_assoc] at this
        exact this
      have HHL : Hid (X.length + A.length + Z.length + 1 = len) := Lib.hid (by
        have := HDS.out
        rw [HDK.out, List.size_toArray] at this
        simp only [List.length_append, List.length_cons] at this
        omega)
      have HCI := Lib.hid hci
      have HLA := Lib.hid hla2
      have hjz : ¬ (i : Int) < (j : Int) := by omega
      clear ha12 ha1l hc hci S1 hji HI hkx hla2
      go_wp2_with fail
      go_loopg [17] A2.length (fun kx s17 w2 => ∃ (u : Nat) (C1 C2 : List α), s17 = .int .i64 u ∧ C1.length ≤ kx ∧ u ≤ m ∧ Hid (A2 = C1 ++ C2 ∧ i + C1.length = u) ∧ Aside (SWK enc k w0 blk off (X ++ (A1 ++ (C1 ++ y :: (C2 ++ Z)))).toArray w2))
      case atStart => exact ⟨m, A2, [], rfl, Nat.le_refl _, Nat.le_refl _, Lib.hid ⟨by simp, HLA.out⟩, S1'⟩
      case round =>
        clear S1'
        obtain ⟨u, C1, C2, rfl, hkx, hum, HP, S1⟩ := hrel
        by_cases htl : i < u
        · obtain ⟨C3, z, hC1⟩ : ∃ C3 z, C1 = C3 ++ [z] := by
            rcases List.eq_nil_or_concat C1 with e | ⟨C3, z, e⟩
            · have := HP.out.2; rw [e] at this; simp at this; omega
            · exact ⟨C3, z, by rw [e, List.concat_eq_append]⟩
          subst hC1
          obtain ⟨v, hv⟩ : ∃ v, u = v + 1 := ⟨u - 1, by omega⟩
          subst hv
          obtain ⟨dj, hdj⟩ : ∃ dj, dj = (X ++ (A1 ++ ((C3 ++ [z]) ++ y :: (C2 ++ Z)))).toArray := ⟨_, rfl⟩
          have hl3 : X.length + A1.length + C3.length = v := by
            have h1 := HX.out; have h2 := HA12.out.2; have h3 := HP.out.2; have h4 := HCI.out
            rw [List.length_append, List.length_singleton] at h3
            omega
          have hsj : dj.size = len := by
            have h1 := HA12.out.1
            have h2 := HP.out.1
            have h3 := HHL.out
            rw [hdj, List.size_toArray]
            rw [h1, h2] at h3
            simp only [List.length_append, List.length_cons, List.length_nil] at h3 ⊢
            omega
          have hsj0 : dj.size = d0.size := by rw [hsj, HS.out]
          have hsw : Hid (swp dj (v + 1) v = (X ++ (A1 ++ (C3 ++ y :: ((z :: C2) ++ Z)))).toArray) := by
            refine Lib.hid ?_
            rw [swp_comm dj (v + 1) v (by omega) (by omega), hdj]
            have := swp_list (X ++ (A1 ++ C3)) [] (C2 ++ Z) z y v (v + 1) (by rw [List.length_append, List.length_append]; omega) (by rw [List.length_append, List.length_append]; simp; omega)
            simp only [List.append_assoc, List.nil_append, List.cons_append, List.singleton_append] at this ⊢
            exact this
          have S1' : Aside (SWK enc k w0 blk off dj wr) := by rw [hdj]; exact S1
          have S2 : Aside (SWK enc k w0 blk off (swp dj (v + 1) v) ((wr.drew.setCells blk (off + (v + 1) * k) (enc dj[v]!)).setCells blk (off + v * k) (enc dj[v + 1]!))) := S1'.out.swapped R (v + 1) v (by omega) (by omega)
          have l1 := S1'.out.ld1 R hsj0 P (v + 1) (by omega)
          have l2 := S1'.out.ld1 R hsj0 P v (by omega)
          have s1 := S1'.out.st1 R hsj0 P (v + 1) (by omega) dj[v]!
          have s2 := S1'.out.st2 R hsj0 P (v + 1) v (by omega) (by omega) dj[v]! dj[v + 1]!
          have n1 : (enc dj[v + 1]!).length = k := R.hk _
          have n2 : (enc dj[v]!).length = k := R.hk _
          generalize enc dj[v + 1]! = cI at S2 l1 s2 n1
          generalize enc dj[v]! = cJ at S2 l2 s1 s2 n2
          clear S1 S1' hdj hsj hsj0
          rw [hsw.out] at S2
          have htl' : (i : Int) < (v : Int) + 1 := by omega
          have eu : ((v : Int) + 1).toNat = v + 1 := by omega
          have pu : (0 : Int) ≤ (v : Int) + 1 := by omega
          have bu1 : (v : Int) + 1 < (len : Int) := by omega
          have bu2 : (v : Int) < (len : Int) := by omega
          have ru : IntKind.i64.wrap ((v : Int) + 1) = (v : Int) + 1 := by rw [IntKind.wrap_i64]; omega
          have rv : IntKind.i64.wrap (v : Int) = (v : Int) := by rw [IntKind.wrap_i64]; omega
          go_wp2_with fail
          go_big_region_o
          clear l1 l2 s1 s2
          generalize (wr.drew.setCells blk (off + (v + 1) * k) cJ).setCells blk (off + v * k) cI = w2 at S2 ⊢
          go_wp2_with fail
          go_roundg C3.length
          case measure => rw [List.length_append, List.length_singleton] at hkx; omega
          case rel =>
            refine ⟨v, C3, z :: C2, by first | rfl | go_num, Nat.le_refl _, by omega, Lib.hid ⟨by rw [HP.out.1]; simp, by have := HP.out.2; rw [List.length_append, List.length_singleton] at this; omega⟩, S2⟩
        · have hc1 : C1 = [] := List.eq_nil_of_length_eq_zero (by have := HP.out.2; omega)
          have htz : ¬ (i : Int) < (u : Int) := by omega
          have S3 : Aside (SWK enc k w0 blk off (X ++ ((A1 ++ y :: A2) ++ Z)).toArray wr) := by
            have h := S1.out
            rw [hc1, List.nil_append] at h
            rw [HP.out.1, hc1, List.nil_append, List.append_assoc]
            exact h
          clear S1 hc1
          go_wp2_with fail
          (try simp only [Exit.inBlock, Exit.then]); refine bodyPost_ret (results_none rfl _ _ _) rfl ?_
          exact ⟨rfl, _, HRES.out, S3.out⟩
end Go.Proofs.Ytfocjcdfpnbkjaa
