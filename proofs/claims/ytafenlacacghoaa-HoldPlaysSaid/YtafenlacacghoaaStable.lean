/- The library's stable sort, whole: what it leaves is sorted, and what has one key stands as it stood. -/
import Derived.Test.YtafenlacacghoaaSortOne
import Derived.Test.YtafenlacacghoaaSymC
set_option linter.unusedVariables false
set_option linter.unusedSimpArgs false
namespace Go.Proofs.Ytafenlacacghoaa
open Go.Shelf Go.RowKit Go.Lib Go.Sort

theorem sym_msgs (blk off len cap a m b : Nat) (d0 : Array Mg) (w0 w : World) (X A B Z : List Mg) (R : RowK encG 6 w0 blk off d0) (hs : d0.size = len) (S : SWK encG 6 w0 blk off (X ++ (A ++ (B ++ Z))).toArray w) (hL : (X ++ (A ++ (B ++ Z))).length = len)
    (hX : X.length = a) (hA : a + A.length = m) (hB : m + B.length = b) (hA0 : 0 < A.length) (hB0 : 0 < B.length) (hsA : Srt Mg.key A) (hsB : Srt Mg.key B) (hsz : len < 4611686018427387904) :
    Calls Try.prog 50 #[.slice (some ⟨blk, off, none⟩) len cap, .int .i64 a, .int .i64 m, .int .i64 b, .func (.func 45) #[] #[]] w fun e w' => e = .returned (.tuple #[]) ∧ ∃ M, IsSrt Mg.key (A ++ B) M ∧ SWK encG 6 w0 blk off (X ++ (M ++ Z)).toArray w' :=
  sym_any 6 fam encG Mg.key (fun x y => kcmp x.key y.key) hcfM 45 #[] egM blk off len cap d0 w0 (cmpLays blk off _ w0) R hs hsz _ a m b X A B Z w (Nat.le_refl _) S hL hX hA hB hA0 hB0 hsA hsB

/-- What is known between two passes: the row, the runs in it. -/
structure Pass (blk off len : Nat) (w0 : World) (L : List Mg) (n : Nat) (L1 : List Mg) (w : World) : Prop where
  swk : SWK encG 6 w0 blk off L1.toArray w
  size : L1.length = len
  fil : Fil Mg.key L L1
  runs : Runs Mg.key n L1
/-- What is known amid a pass: what is done, what is to do. -/
structure Amid (blk off len : Nat) (w0 : World) (L : List Mg) (n n1 a : Nat) (D T : List Mg) (w : World) : Prop where
  swk : SWK encG 6 w0 blk off (D ++ T).toArray w
  size : (D ++ T).length = len
  at_ : D.length = a
  fil : Fil Mg.key L (D ++ T)
  done : Done Mg.key n1 D
  todo : Runs Mg.key n T

theorem Amid.step {blk off len : Nat} {w0 : World} {L : List Mg} {n n1 a b : Nat} {D A B T M : List Mg} {w w' : World} (h : Amid blk off len w0 L n n1 a D (A ++ (B ++ T)) w) (hM : IsSrt Mg.key (A ++ B) M) (hS : SWK encG 6 w0 blk off (D ++ (M ++ T)).toArray w')
    (hl : (A ++ B).length = n1) (hb : a + n1 = b) (ht : Runs Mg.key n T) : Amid blk off len w0 L n n1 b (D ++ M) T w' := by
  have hml : M.length = n1 := by rw [hM.fil.length, hl]
  refine ⟨by rw [List.append_assoc]; exact hS, ?_, by rw [List.length_append, h.at_, hml, hb], ?_, h.done.snoc hM.srt hml, ht⟩
  · have h1 := h.size
    simp only [List.length_append] at h1 hl ⊢
    omega
  · refine h.fil.trans ?_
    rw [List.append_assoc]
    refine (Fil.refl D).app ?_
    rw [← List.append_assoc]
    exact hM.fil.app (Fil.refl T)

set_option maxHeartbeats 8000000 in
set_option maxRecDepth 100000 in
theorem stable_all (len : Nat) (hl : len ≤ 1048576) : StableAt len := by
  intro blk off cap d0 w0 w L R hs S hL
  have HR := Lib.hid R
  have HS := Lib.hid hs
  have A0 : Hid (Amid blk off len w0 L 0 20 0 [] L w ∨ True) := Lib.hid (.inr trivial)
  have S0 : Aside (SWK encG 6 w0 blk off L.toArray w) := S
  have HL := Lib.hid hL
  clear S R hs hL A0
  go_enter Try.func48, Try.ntmps48
  go_wp2_with fail
  go_loopg [7, 8] (len + 20) (fun kx s7 s8 wr => ∃ (a : Nat) (D T : List Mg), s7 = .int .i64 a ∧ s8 = .int .i64 (a + 20 : Nat) ∧ a ≤ len ∧ len + 20 - a ≤ kx ∧
    Hid (SWK encG 6 w0 blk off (D ++ T).toArray wr ∧ (D ++ T).length = len ∧ D.length = a ∧ Fil Mg.key L (D ++ T) ∧ Done Mg.key 20 D))
  case atStart => exact ⟨0, [], L, rfl, rfl, Nat.zero_le _, Nat.le_refl _, Lib.hid ⟨S0, HL.out, rfl, Fil.refl _, Done.nil _⟩⟩
  case round =>
    clear S0
    obtain ⟨a, D, T, rfl, rfl, hal, hkx, H⟩ := hrel
    by_cases hlt : a + 20 ≤ len
    · have hz : ((a + 20 : Nat) : Int) ≤ (len : Int) := by omega
      obtain ⟨A, T1, hT, hAl⟩ : ∃ A T1, T = A ++ T1 ∧ A.length = 20 := ⟨T.take 20, T.drop 20, (List.take_append_drop _ _).symm, by
        have h1 := H.out.2.1; have h2 := H.out.2.2.1
        rw [List.length_append] at h1
        rw [List.length_take]; omega⟩
      subst hT
      have HA := Lib.hid hAl
      have ho : ((a + 20 : Nat) : Int) + 20 = ((a + 20 + 20 : Nat) : Int) := by omega
      have HO := Lib.hid ho
      have hb1 : a + 20 ≤ 1048576 := by omega
      clear hAl ho
      obtain ⟨b, hb⟩ : ∃ b, b = a + 20 := ⟨_, rfl⟩
      rw [← hb] at hz hb1 HO ⊢
      have HBB := Lib.hid hb
      clear hb
      go_wp2_with fail
      refine (ins_any blk off len cap a b d0 w0 _ D A T1 HR.out HS.out H.out.1 H.out.2.1 H.out.2.2.1 (by rw [HA.out, HBB.out]) (by omega)).mono ?_
      rintro e w1 ⟨rfl, M, hM, S2⟩
      have H2 : Hid (SWK encG 6 w0 blk off ((D ++ M) ++ T1).toArray w1 ∧ ((D ++ M) ++ T1).length = len ∧ (D ++ M).length = b ∧ Fil Mg.key L ((D ++ M) ++ T1) ∧ Done Mg.key 20 (D ++ M)) := Lib.hid (by
        obtain ⟨h1, h2, h3, h4, h5⟩ := H.out
        have hml : M.length = 20 := by rw [hM.fil.length, HA.out]
        refine ⟨by rw [List.append_assoc]; exact S2, ?_, by rw [List.length_append, h3, hml, HBB.out], ?_, h5.snoc hM.srt hml⟩
        · have h6 := HA.out
          simp only [List.length_append] at h2 ⊢
          omega
        · refine h4.trans ?_
          rw [List.append_assoc]
          exact (Fil.refl D).app (hM.fil.app (Fil.refl T1)))
      clear S2 hM H
      go_wp2_with fail
      rw [HO.out]
      go_roundg (len + 20 - b)
      case measure => have := HBB.out; omega
      case rel => exact ⟨b, D ++ M, T1, rfl, by rw [HBB.out], by omega, Nat.le_refl _, H2⟩
    · have hz : ¬ ((a + 20 : Nat) : Int) ≤ (len : Int) := by omega
      have HAL := Lib.hid hlt
      obtain ⟨b, hb⟩ : ∃ b, b = a + 20 := ⟨_, rfl⟩
      rw [← hb] at hz ⊢
      clear hb hlt
      go_wp2_with fail
      refine (ins_any blk off len cap a len d0 w0 _ D T [] HR.out HS.out (by rw [List.append_nil]; exact H.out.1) (by rw [List.append_nil]; exact H.out.2.1) H.out.2.2.1 (by
        have h1 := H.out.2.1; have h2 := H.out.2.2.1; rw [List.length_append] at h1; omega) (by omega)).mono ?_
      rintro e w1 ⟨rfl, M, hM, S2⟩
      have P : Hid (Pass blk off len w0 L 20 (D ++ M) w1) := Lib.hid (by
        obtain ⟨h1, h2, h3, h4, h5⟩ := H.out
        rw [List.append_nil] at S2
        have hml : M.length = T.length := hM.fil.length
        have h6 := HAL.out
        rw [List.length_append] at h2
        exact ⟨S2, by rw [List.length_append]; omega, h4.trans ((Fil.refl D).app hM.fil), h5 _ (.last M hM.srt (by omega))⟩)
      clear S2 hM H hkx hal hz
      go_wp2_with fail
      go_loopg [6, 7, 8, 9] len (fun kx s6 s7 s8 s9 w2 => ∃ (n : Nat) (L1 : List Mg), s6 = .int .i64 n ∧ 20 ≤ n ∧ n ≤ len + len + 20 ∧ len - n ≤ kx ∧ Hid (Pass blk off len w0 L n L1 w2))
      case atStart => exact ⟨20, D ++ M, rfl, Nat.le_refl _, by omega, by omega, P⟩
      case round =>
        clear P
        obtain ⟨n, L1, rfl, hn1, hn2, hkx, P⟩ := hrel
        by_cases hnl : n < len
        · have hnz : (n : Int) < (len : Int) := by omega
          have A1 : Hid (Amid blk off len w0 L n (2 * n) 0 [] L1 wr) := Lib.hid ⟨P.out.swk, P.out.size, rfl, P.out.fil, Done.nil _, P.out.runs⟩
          have h2n : 2 * (n : Int) = ((2 * n : Nat) : Int) := by omega
          have H2N := Lib.hid h2n
          clear P h2n
          go_wp2_with fail
          rw [H2N.out]
          obtain ⟨nn, hnn⟩ : ∃ nn, nn = 2 * n := ⟨_, rfl⟩
          have HNN := Lib.hid hnn
          rw [← hnn] at A1 H2N ⊢
          have hnn1 : nn ≤ 2097152 + 2097152 := by omega
          clear hnn
          go_loopg [7, 8] (len + nn) (fun kx s7 s8 w2 => ∃ (a : Nat) (D T : List Mg), s7 = .int .i64 a ∧ s8 = .int .i64 (a + nn : Nat) ∧ a ≤ len ∧ len + nn - a ≤ kx ∧ Hid (Amid blk off len w0 L n nn a D T w2))
          case atStart => exact ⟨0, [], L1, rfl, by rw [Nat.zero_add], Nat.zero_le _, Nat.le_refl _, A1⟩
          case round =>
            clear A1
            obtain ⟨a, D, T, rfl, rfl, hal, hkx2, H⟩ := hrel
            obtain ⟨m, hm⟩ : ∃ m, m = a + n := ⟨_, rfl⟩
            have hmz : (a : Int) + (n : Int) = (m : Int) := by omega
            have HMZ := Lib.hid hmz
            have HM := Lib.hid hm
            have hm2 : m ≤ 4194304 := by omega
            clear hm hmz
            by_cases hlt : a + nn ≤ len
            · obtain ⟨b, hb⟩ : ∃ b, b = a + nn := ⟨_, rfl⟩
              have hz : (b : Int) ≤ (len : Int) := by omega
              have HBB := Lib.hid hb
              have hbl : b ≤ len := by omega
              have ho : (b : Int) + (nn : Int) = ((b + nn : Nat) : Int) := by omega
              have HO := Lib.hid ho
              have hT := H.out.todo.two (by omega) (by
                have h1 := H.out.size; have h2 := H.out.at_; have h3 := HNN.out
                rw [List.length_append] at h1; omega)
              obtain ⟨B1, C1, T1, hTe, hB1, hB1l, hC1, hC1l, hT1⟩ := hT
              subst hTe
              have HB1 := Lib.hid (And.intro hB1 (And.intro hB1l (And.intro hC1 (And.intro hC1l hT1))))
              rw [← hb]
              clear hb ho hB1 hB1l hC1 hC1l hT1 hlt
              go_wp2_with fail
              rw [HMZ.out]
              refine (sym_msgs blk off len cap a m b d0 w0 _ D B1 C1 T1 HR.out HS.out H.out.swk H.out.size H.out.at_ (by rw [HB1.out.2.1, HM.out]) (by rw [HB1.out.2.2.2.1, HM.out, HBB.out, HNN.out]; omega) (by rw [HB1.out.2.1]; omega) (by rw [HB1.out.2.2.2.1]; omega) HB1.out.1 HB1.out.2.2.1 (by omega)).mono ?_
              rintro e w2 ⟨rfl, M2, hM2, S2⟩
              have H2 : Hid (Amid blk off len w0 L n nn b (D ++ M2) T1 w2) := Lib.hid (H.out.step hM2 S2 (by rw [List.length_append, HB1.out.2.1, HB1.out.2.2.2.1, HNN.out]; omega) HBB.out.symm HB1.out.2.2.2.2)
              clear hM2 S2 H
              go_wp2_with fail
              rw [H2N.out, HO.out]
              go_roundg (len + nn - b)
              case measure => have := HBB.out; have := HNN.out; omega
              case rel => exact ⟨b, D ++ M2, T1, rfl, rfl, hbl, Nat.le_refl _, H2⟩
            · obtain ⟨b, hb⟩ : ∃ b, b = a + nn := ⟨_, rfl⟩
              have hz : ¬ (b : Int) ≤ (len : Int) := by omega
              have HLT := Lib.hid hlt
              rw [← hb]
              have hbb : b ≤ 16777216 := by omega
              have h3n : (n : Int) * 2 = (nn : Int) := by have := HNN.out; omega
              have H3N := Lib.hid h3n
              clear hb hlt h3n
              by_cases hml : m < len
              · have hmlz : (m : Int) < (len : Int) := by omega
                have hmlz2 : (a : Int) + (n : Int) < (len : Int) := by rw [HMZ.out]; exact hmlz
                have hT := H.out.todo.cut (by
                  have h1 := H.out.size; have h2 := H.out.at_; have h3 := HM.out
                  rw [List.length_append] at h1; omega)
                obtain ⟨B1, T1, hTe, hB1, hB1l, hT1⟩ := hT
                subst hTe
                have hT1l : m + T1.length = len := by
                  have h1 := H.out.size; have h2 := H.out.at_; have h3 := HM.out
                  simp only [List.length_append] at h1; omega
                have HB1 := Lib.hid (And.intro hB1 (And.intro hB1l (And.intro (hT1.short (by have := HLT.out; have := HNN.out; have := HM.out; omega)) hT1l)))
                clear hB1 hB1l hT1 hT1l
                go_wp2_with fail
                (try rw [HMZ.out])
                (try go_wp2_with fail)
                refine (sym_msgs blk off len cap a m len d0 w0 _ D B1 T1 [] HR.out HS.out (by rw [List.append_nil]; exact H.out.swk) (by rw [List.append_nil]; exact H.out.size) H.out.at_ (by rw [HB1.out.2.1, HM.out]) HB1.out.2.2.2 (by rw [HB1.out.2.1]; omega) (by have := HB1.out.2.2.2; omega) HB1.out.1 HB1.out.2.2.1 (by omega)).mono ?_
                rintro e w2 ⟨rfl, M2, hM2, S2⟩
                have P2 : Hid (Pass blk off len w0 L nn (D ++ M2) w2) := Lib.hid (by
                  have hl2 := hM2.fil.length
                  have h1 := H.out.size
                  rw [List.append_nil] at S2
                  refine ⟨S2, by rw [List.length_append, hl2, ← List.length_append]; exact h1, H.out.fil.trans ((Fil.refl D).app hM2.fil), H.out.done _ (.last M2 hM2.srt ?_)⟩
                  have h2 := H.out.at_; have h3 := HLT.out
                  rw [List.length_append] at h1
                  omega)
                clear hM2 S2 H
                go_wp2_with fail
                rw [H3N.out]
                go_roundg (len - nn)
                case measure => have := HNN.out; omega
                case rel => exact ⟨nn, D ++ M2, rfl, by have := HNN.out; omega, by have := HNN.out; omega, Nat.le_refl _, P2⟩
              · have hmlz : ¬ (m : Int) < (len : Int) := by omega
                have hmlz2 : ¬ (a : Int) + (n : Int) < (len : Int) := by rw [HMZ.out]; exact hmlz
                have P2 : Hid (Pass blk off len w0 L nn (D ++ T) wr) := Lib.hid (by
                  have h1 := H.out.size; have h2 := H.out.at_; have h3 := HM.out; have h4 := HNN.out
                  refine ⟨H.out.swk, h1, H.out.fil, H.out.done _ (.last T (H.out.todo.short ?_) ?_)⟩ <;> (rw [List.length_append] at h1; omega))
                clear H
                go_wp2_with fail
                rw [H3N.out]
                go_roundg (len - nn)
                case measure => have := HNN.out; omega
                case rel => exact ⟨nn, D ++ T, rfl, by have := HNN.out; omega, by have := HNN.out; omega, Nat.le_refl _, P2⟩
        · have hnz : ¬ (n : Int) < (len : Int) := by omega
          go_wp2_with fail
          go_end0
          exact ⟨rfl, L1, ⟨P.out.runs.short (by rw [P.out.size]; omega), P.out.fil⟩, P.out.swk⟩
end Go.Proofs.Ytafenlacacghoaa
