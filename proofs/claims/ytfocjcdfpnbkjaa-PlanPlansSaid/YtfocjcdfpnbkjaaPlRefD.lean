/- Layer 15: the document's own answers: Boundary. -/
import Derived.Test.YtfocjcdfpnbkjaaPlMore
import Derived.Test.YtfocjcdfpnbkjaaKeys
set_option linter.unusedVariables false
set_option maxRecDepth 100000
set_option linter.unusedSimpArgs false
namespace Go.Proofs.Ytfocjcdfpnbkjaa
open Go.RowKit Go.Sort Go.Shelf Go.Maps

set_option maxHeartbeats 2000000 in
theorem refBound {w : World} {ao : Option Addr} {n : Nat} {C : List Xg} (h : XgL w ao n C) (c : Nat) (hn : n ≤ 1048576) :
    Calls Try.prog 51 #[.slice ao n c] w fun e w' => e = .returned (.agg #[.int .u64 (lastK (C.map Xg.k)).n, .int .i64 (lastK (C.map Xg.k)).p]) ∧ Below w.heap.size w w' := by
  have HL := Lib.hid h
  have HLEN := Lib.hid h.at_.size
  clear h
  go_enter Try.func51, Try.ntmps51
  go_wp2
  go_loopw [4] (fun si wr => ∃ k : Nat, k ≤ n ∧ si = .int .i64 k ∧ Two wr w.heap.size (.int .u64 0) (.int .i64 0) ∧ Two wr (w.heap.size + 1) (.int .u64 (lastK ((C.map Xg.k).take k)).n) (.int .i64 (lastK ((C.map Xg.k).take k)).p) ∧ Below w.heap.size w wr)
    (fun si _ => n - (intOf si).toNat)
  case atStart =>
    refine ⟨0, Nat.zero_le _, rfl, ⟨?_, ?_, ?_, ?_⟩, ⟨?_, ?_, ?_, ?_⟩, ((Below.refl _ _).alloc (Nat.le_refl _) _).alloc (by simp) _⟩
    all_goals simp [lastK]
  case round =>
    obtain ⟨k, hk, rfl, R, M, hB⟩ := hrel
    have hgR := R.lt
    have hgM := M.lt
    have HB := Lib.hid hB
    have HR := Lib.hid R
    have HM := Lib.hid M
    by_cases hlt : k < n
    · obtain ⟨b, o, x, rfl, hx, hr⟩ := (HL.out.below hB).row hlt
      have c0 : wr.cell? ⟨b, o + k * 6 + 4, none⟩ = some (.int .u64 x.k.n) := hr 4 _ rfl
      have c1 : wr.cell? ⟨b, o + k * 6 + 5, none⟩ = some (.int .i64 x.k.p) := hr 5 _ rfl
      have HN := Lib.hid (lastK_next (C.map Xg.k) k x.k (by rw [List.getElem?_map, hx]; rfl))
      have m0 := M.c0
      have m1 := M.c1
      have g0 := M.f0
      have g1 := M.f1
      clear hr hx hB R M
      generalize lastK ((C.map Xg.k).take k) = m at *
      generalize x.k = xk at *
      obtain ⟨xn, xp⟩ := xk
      obtain ⟨mn, mp⟩ := m
      simp only at c0 c1 m0 m1
      by_cases hk0 : k = 0
      · have hd : ((k : Int) == 0) = true := by simp; omega
        have HE := Lib.hid (HN.out.trans (if_pos hk0))
        clear HN hk0
        go_wp2
        go_roundw
        case rel =>
          refine ⟨k + 1, by omega, by go_num, ?_, ?_, ?_⟩
          · exact ((HR.out.far (by simp) _).far (by simp) _).alloc _
          · rw [HE.out]; exact (HM.out.set _ _).alloc _
          · exact ((HB.out.setCell (by simp) _).setCell (by simp) _).alloc (by simp; exact HB.out.size) _
        case measure => simp [intOf]; omega
      · have hd : ((k : Int) == 0) = false := by simp; omega
        have HE := Lib.hid (HN.out.trans (if_neg hk0))
        clear HN hk0
        cases h1 : decide (mn < xn) with
        | true =>
          have HF := Lib.hid (HE.out.trans (if_pos (by unfold K.less; simp only; rw [h1]; rfl)))
          clear HE
          go_wp2
          go_roundw
          case rel =>
            refine ⟨k + 1, by omega, by go_num, ?_, ?_, ?_⟩
            · exact ((HR.out.far (by simp) _).far (by simp) _).alloc _
            · rw [HF.out]; exact (HM.out.set _ _).alloc _
            · exact ((HB.out.setCell (by simp) _).setCell (by simp) _).alloc (by simp; exact HB.out.size) _
          case measure => simp [intOf]; omega
        | false =>
          cases h2 : (mn == xn) with
          | false =>
            have HF := Lib.hid (HE.out.trans (if_neg (by unfold K.less; simp only; rw [h1, decide_eq_false (show ¬ mn = xn by simpa using h2)]; simp)))
            clear HE
            go_wp2
            go_roundw
            case rel =>
              refine ⟨k + 1, by omega, by go_num, HR.out.alloc _, ?_, HB.out.alloc HB.out.size _⟩
              rw [HF.out]; exact HM.out.alloc _
            case measure => simp [intOf]; omega
          | true =>
            cases h3 : decide (mp < xp) with
            | true =>
              have HF := Lib.hid (HE.out.trans (if_pos (by unfold K.less; simp only; rw [h1, decide_eq_true (show mn = xn by simpa using h2), h3]; rfl)))
              clear HE
              go_wp2
              go_roundw
              case rel =>
                refine ⟨k + 1, by omega, by go_num, ?_, ?_, ?_⟩
                · exact ((HR.out.far (by simp) _).far (by simp) _).alloc _
                · rw [HF.out]; exact (HM.out.set _ _).alloc _
                · exact ((HB.out.setCell (by simp) _).setCell (by simp) _).alloc (by simp; exact HB.out.size) _
              case measure => simp [intOf]; omega
            | false =>
              have HF := Lib.hid (HE.out.trans (if_neg (by unfold K.less; simp only; rw [h1, h3]; simp)))
              clear HE
              go_wp2
              go_roundw
              case rel =>
                refine ⟨k + 1, by omega, by go_num, HR.out.alloc _, ?_, HB.out.alloc HB.out.size _⟩
                rw [HF.out]; exact HM.out.alloc _
              case measure => simp [intOf]; omega
    · have HK := Lib.hid (show (C.map Xg.k).take k = C.map Xg.k from List.take_of_length_le (by rw [List.length_map, HLEN.out]; omega))
      obtain ⟨r0, r1, q0, q1⟩ := R
      obtain ⟨m0, m1, g0, g1⟩ := M
      rw [HK.out] at m0 m1
      obtain ⟨z, hz⟩ : ∃ z, z = lastK (C.map Xg.k) := ⟨_, rfl⟩
      rw [← hz] at m0 m1
      obtain ⟨zn, zp⟩ := z
      have HZ := Lib.hid hz
      clear hz
      simp only at m0 m1
      go_wp2
      have T := Two.set HR.out (.int .u64 zn) (.int .i64 zp)
      obtain ⟨t0, t1, _, _⟩ := T
      exact bodyPost_ret (v := .agg #[.int .u64 zn, .int .i64 zp]) (by simp [results, Try.results51, go_sem, t0, t1]) rfl ⟨by rw [← HZ.out], (HB.out.setCell (by simp) _).setCell (by simp) _⟩
end Go.Proofs.Ytfocjcdfpnbkjaa
