/- Layer 18: the document's Views and Next. -/
import Derived.Test.YtlaenabckpjikaaVoRef
set_option linter.unusedVariables false
set_option maxRecDepth 100000
set_option linter.unusedSimpArgs false
namespace Go.Proofs.Ytlaenabckpjikaa
open Go.RowKit Go.Sort Go.Maps

theorem drewN_below (w : World) (n : Nat) : Below w.heap.size w (w.drewN n) := ⟨rfl, rfl, rfl, Nat.le_refl _, fun _ _ => rfl⟩
theorem take_next_eq {α : Type} {A B : List α} {k : Nat} {x y : α} (hx : A[k]? = some x) (hy : B[k]? = some y) (h : A.take k = B.take k) : (A.take (k + 1) = B.take (k + 1)) ↔ x = y := by
  rw [take_snoc hx, take_snoc hy, h]
  constructor
  · intro e
    have := List.append_cancel_left e
    simpa using this
  · intro e; rw [e]
theorem ne_of_at {α : Type} {A B : List α} {k : Nat} {x y : α} (hx : A[k]? = some x) (hy : B[k]? = some y) (h : x ≠ y) : A ≠ B := by
  intro e
  rw [e, hy] at hx
  exact h (Option.some.inj hx).symm
set_option maxHeartbeats 4000000 in
theorem rviews {w : World} {ao bo : Option Addr} {n m : Nat} {A B : List Vw} (hA : VwL w ao n A) (hB : VwL w bo m B) (c d : Nat) (hn : n ≤ 100000) (hm : m ≤ 100000) :
    Calls Try.prog 13 #[.slice ao n c, .slice bo m d] w fun e w' => e = .returned (.bool (decide (A = B))) ∧ Below w.heap.size w w' := by
  have HA := Lib.hid hA
  have HB := Lib.hid hB
  have HLA := Lib.hid hA.at_.size
  have HLB := Lib.hid hB.at_.size
  clear hA hB
  go_enter Try.func13, Try.ntmps13
  by_cases hnm : n = m
  case neg =>
    have HD := Lib.hid (show decide (A = B) = false from decide_eq_false fun e => hnm (by rw [← HLA.out, ← HLB.out, e]))
    have hz : ¬(n : Int) = (m : Int) := by omega
    have hz2 : ((n : Int) != (m : Int)) = true := by simpa using hz
    have HW := Lib.hid (Below.refl w.heap.size w)
    go_wp2
    go_ret
    exact ⟨by rw [HD.out]; rfl, HW.out⟩
  case pos =>
    subst hnm
    have hz2 : ((n : Int) != (n : Int)) = false := by simp
    have W0 := Lib.hid (Below.refl w.heap.size w)
    go_wp2
    go_loopw [5] (fun si wr => ∃ k : Nat, k ≤ n ∧ si = .int .i64 k ∧ Aside (Below w.heap.size w wr) ∧ Aside (A.take k = B.take k)) (fun si _ => n - (intOf si).toNat)
    case atStart => exact ⟨0, Nat.zero_le _, rfl, W0.out, rfl⟩
    case round =>
      obtain ⟨k, hk, rfl, HBW, HT⟩ := hrel
      by_cases hlt : k < n
      · obtain ⟨b1, o1, x, rfl, hx, hrx, _⟩ := (HA.out.below HBW.out).row hlt
        obtain ⟨b2, o2, y, rfl, hy, hry, _⟩ := (HB.out.below HBW.out).row hlt
        have HXY := Lib.hid (take_next_eq hx hy HT.out)
        have HNE := Lib.hid (ne_of_at hx hy)
        have hq := fun w => neq_vw x y w
        obtain ⟨bb, hbb⟩ : ∃ bb, bb = decide (x = y) := ⟨_, rfl⟩
        rw [← hbb] at hq
        have HBB := Lib.hid hbb
        clear hx hy hbb HT
        obtain ⟨xn, xe, xr, xm⟩ := x
        obtain ⟨yn, ye, yr, ym⟩ := y
        unfold valV encV at hq
        have x0 : wr.cell? ⟨b1, o1 + k * 4, none⟩ = some (.int .u64 (xn : Int)) := hrx 0 _ rfl
        have x1 : wr.cell? ⟨b1, o1 + k * 4 + 1, none⟩ = some (.int .u64 (xe : Int)) := hrx 1 _ rfl
        have x2 : wr.cell? ⟨b1, o1 + k * 4 + 2, none⟩ = some (.int .i64 xr) := hrx 2 _ rfl
        have x3 : wr.cell? ⟨b1, o1 + k * 4 + 3, none⟩ = some (.int .u64 (xm : Int)) := hrx 3 _ rfl
        have y0 : wr.cell? ⟨b2, o2 + k * 4, none⟩ = some (.int .u64 (yn : Int)) := hry 0 _ rfl
        have y1 : wr.cell? ⟨b2, o2 + k * 4 + 1, none⟩ = some (.int .u64 (ye : Int)) := hry 1 _ rfl
        have y2 : wr.cell? ⟨b2, o2 + k * 4 + 2, none⟩ = some (.int .i64 yr) := hry 2 _ rfl
        have y3 : wr.cell? ⟨b2, o2 + k * 4 + 3, none⟩ = some (.int .u64 (ym : Int)) := hry 3 _ rfl
        clear hrx hry
        go_upto_region 6 with fail
        go_quiet (fail)
        have HB3 := Lib.hid (HBW.out.trans ((drewN_below wr nq).mono HBW.out.size))
        clear hq x0 x1 x2 x3 y0 y1 y2 y3
        cases bb with
        | true =>
          have HT2 := Lib.hid (HXY.out.2 (of_decide_eq_true HBB.out.symm))
          go_wp2
          go_roundw
          case rel => exact ⟨k + 1, by omega, by go_num, HB3.out, HT2.out⟩
          case measure => simp [intOf]; omega
        | false =>
          have HD := Lib.hid (show decide (A = B) = false from decide_eq_false (HNE.out (of_decide_eq_false HBB.out.symm)))
          go_wp2
          go_ret
          exact ⟨by rw [HD.out]; rfl, HB3.out⟩
      · obtain rfl : n = k := by omega
        have HD := Lib.hid (show decide (A = B) = true from decide_eq_true (by
          have := HT.out
          rw [List.take_of_length_le (by rw [HLA.out]; exact Nat.le_refl _), List.take_of_length_le (by rw [HLB.out]; exact Nat.le_refl _)] at this
          exact this))
        go_wp2
        go_ret
        exact ⟨by rw [HD.out]; rfl, HBW.out⟩
theorem mx_gt (a b : Nat) (h : a < b) : max a b = b := by omega
theorem mx_le (a b : Nat) (h : ¬a < b) : max a b = a := by omega
set_option maxHeartbeats 4000000 in
theorem rnext {w : World} {ao : Option Addr} {n : Nat} {l : List Rc} (h : RcL w ao n l) (c : Nat) (hn : n ≤ 100000) (hk : ∀ x ∈ l, x.k ≤ 100000) :
    Calls Try.prog 19 #[.slice ao n c] w fun e w' => e = .returned (.int .u64 (nextV (psL l) : Nat)) ∧ w = w' := by
  have HL := Lib.hid h
  have HLEN := Lib.hid h.at_.size
  have HK := Lib.hid hk
  clear h hk
  go_enter Try.func19, Try.ntmps19
  go_wp2
  go_loop [3, 4] (fun ms si => ∃ k : Nat, k ≤ n ∧ ms = .int .u64 (mxN (numsV (psL (l.take k))) : Nat) ∧ si = .int .i64 k) (fun _ si => n - (intOf si).toNat)
  case atStart => exact ⟨0, Nat.zero_le _, rfl, rfl⟩
  case round =>
    obtain ⟨k, hk, rfl, rfl⟩ := hrel
    by_cases hlt : k < n
    · obtain ⟨b, o, x, rfl, hx, hr, hin⟩ := HL.out.row hlt
      have hxk := HK.out x (List.mem_of_getElem? hx)
      have HM := Lib.hid (show mxN (numsV (psL (l.take (k + 1)))) = mxN (numsV (psL (l.take k)) ++ x.p.last.n :: x.p.pend.map Vw.n) by rw [psL_take hx, numsV_snoc]; rfl)
      have c0 : w.cell? ⟨b, o + k * 5, none⟩ = some (.int .u64 (x.p.last.n : Int)) := hr 0 _ rfl
      have c4 : w.cell? ⟨b, o + k * 5 + 4, none⟩ = some (.slice x.a x.k x.c) := hr 4 _ rfl
      have HP := Lib.hid hin.pend
      have HPL := Lib.hid hin.pend.at_.size
      obtain ⟨T, hT⟩ : ∃ T, T = numsV (psL (l.take k)) := ⟨_, rfl⟩
      rw [← hT] at HM
      try rw [← hT]
      clear hr hx hin hT
      obtain ⟨⟨⟨vn, ve, vr, vm⟩, pe⟩, pa, pk, pc⟩ := x
      simp only at hxk c0 c4
      have HM1 := Lib.hid (show mxN (T ++ [vn]) = max (mxN T) vn from mxN_snoc _ _)
      obtain ⟨U, hU⟩ : ∃ U, U = mxN T := ⟨_, rfl⟩
      rw [← hU] at HM1
      try rw [← hU]
      clear hU
      by_cases hgt : U < vn
      · have hgi : (U : Int) < (vn : Int) := by omega
        have HMX := Lib.hid (mx_gt _ _ hgt)
        have HM2 := Lib.hid (show mxN (T ++ vn :: (pe.take 0).map Vw.n) = vn by rw [List.take_zero, List.map_nil, HM1.out, HMX.out])
        go_upto_region 8 with fail
        clear c0 hgi HM1 HMX
        go_loop [3, 5] (fun ms si => ∃ j : Nat, j ≤ pk ∧ ms = .int .u64 (mxN (T ++ vn :: (pe.take j).map Vw.n) : Nat) ∧ si = .int .i64 j) (fun _ si => pk - (intOf si).toNat)
        case atStart => exact ⟨0, Nat.zero_le _, by rw [HM2.out], rfl⟩
        case round =>
          obtain ⟨j, hj, rfl, rfl⟩ := hrel
          clear HM2
          by_cases hjl : j < pk
          · obtain ⟨b', o', v, rfl, hv, hr, hok⟩ := HP.out.row hjl
            have HJ := Lib.hid (show mxN (T ++ vn :: (pe.take (j + 1)).map Vw.n) = max (mxN (T ++ vn :: (pe.take j).map Vw.n)) v.n by
              rw [take_snoc hv, List.map_append, ← List.cons_append, ← List.append_assoc]
              exact mxN_snoc _ _)
            have e0 : w.cell? ⟨b', o' + j * 4, none⟩ = some (.int .u64 (v.n : Int)) := hr 0 _ rfl
            obtain ⟨R, hR⟩ : ∃ R, R = mxN (T ++ vn :: (pe.take j).map Vw.n) := ⟨_, rfl⟩
            obtain ⟨q, hq⟩ : ∃ q, q = v.n := ⟨_, rfl⟩
            rw [← hR, ← hq] at HJ
            rw [← hq] at e0
            try rw [← hR]
            clear hr hv hok hR hq
            by_cases hg : R < q
            · have hgi : (R : Int) < (q : Int) := by omega
              have HMX := Lib.hid (mx_gt _ _ hg)
              go_wp2
              go_round
              case rel => exact ⟨j + 1, by omega, by rw [HJ.out, HMX.out], by go_num⟩
              case measure => simp [intOf]; omega
            · have hgi : ¬(R : Int) < (q : Int) := by omega
              have HMX := Lib.hid (mx_le _ _ hg)
              go_wp2
              go_round
              case rel => exact ⟨j + 1, by omega, by rw [HJ.out, HMX.out], by go_num⟩
              case measure => simp [intOf]; omega
          · obtain rfl : pk = j := by omega
            have HF := Lib.hid (show mxN (numsV (psL (l.take (k + 1)))) = mxN (T ++ vn :: (pe.take pk).map Vw.n) by rw [HM.out, List.take_of_length_le (by rw [HPL.out]; exact Nat.le_refl _)])
            go_wp2
            go_round
            case rel => exact ⟨k + 1, by omega, by rw [HF.out], by go_num⟩
            case measure => simp [intOf]; omega
      · have hgi : ¬(U : Int) < (vn : Int) := by omega
        have HMX := Lib.hid (mx_le _ _ hgt)
        have HM2 := Lib.hid (show mxN (T ++ vn :: (pe.take 0).map Vw.n) = U by rw [List.take_zero, List.map_nil, HM1.out, HMX.out])
        go_upto_region 8 with fail
        clear c0 hgi HM1 HMX
        go_loop [3, 5] (fun ms si => ∃ j : Nat, j ≤ pk ∧ ms = .int .u64 (mxN (T ++ vn :: (pe.take j).map Vw.n) : Nat) ∧ si = .int .i64 j) (fun _ si => pk - (intOf si).toNat)
        case atStart => exact ⟨0, Nat.zero_le _, by rw [HM2.out], rfl⟩
        case round =>
          obtain ⟨j, hj, rfl, rfl⟩ := hrel
          clear HM2
          by_cases hjl : j < pk
          · obtain ⟨b', o', v, rfl, hv, hr, hok⟩ := HP.out.row hjl
            have HJ := Lib.hid (show mxN (T ++ vn :: (pe.take (j + 1)).map Vw.n) = max (mxN (T ++ vn :: (pe.take j).map Vw.n)) v.n by
              rw [take_snoc hv, List.map_append, ← List.cons_append, ← List.append_assoc]
              exact mxN_snoc _ _)
            have e0 : w.cell? ⟨b', o' + j * 4, none⟩ = some (.int .u64 (v.n : Int)) := hr 0 _ rfl
            obtain ⟨R, hR⟩ : ∃ R, R = mxN (T ++ vn :: (pe.take j).map Vw.n) := ⟨_, rfl⟩
            obtain ⟨q, hq⟩ : ∃ q, q = v.n := ⟨_, rfl⟩
            rw [← hR, ← hq] at HJ
            rw [← hq] at e0
            try rw [← hR]
            clear hr hv hok hR hq
            by_cases hg : R < q
            · have hgi : (R : Int) < (q : Int) := by omega
              have HMX := Lib.hid (mx_gt _ _ hg)
              go_wp2
              go_round
              case rel => exact ⟨j + 1, by omega, by rw [HJ.out, HMX.out], by go_num⟩
              case measure => simp [intOf]; omega
            · have hgi : ¬(R : Int) < (q : Int) := by omega
              have HMX := Lib.hid (mx_le _ _ hg)
              go_wp2
              go_round
              case rel => exact ⟨j + 1, by omega, by rw [HJ.out, HMX.out], by go_num⟩
              case measure => simp [intOf]; omega
          · obtain rfl : pk = j := by omega
            have HF := Lib.hid (show mxN (numsV (psL (l.take (k + 1)))) = mxN (T ++ vn :: (pe.take pk).map Vw.n) by rw [HM.out, List.take_of_length_le (by rw [HPL.out]; exact Nat.le_refl _)])
            go_wp2
            go_round
            case rel => exact ⟨k + 1, by omega, by rw [HF.out], by go_num⟩
            case measure => simp [intOf]; omega
    · obtain rfl : n = k := by omega
      have HF := Lib.hid (show nextV (psL l) = upN (mxN (numsV (psL (l.take n)))) by rw [List.take_of_length_le (by rw [HLEN.out]; exact Nat.le_refl _)]; rfl)
      have hM0 := mxN_lt (numsV (psL (l.take n))) 18446744073709551616 (by decide) (numsV_lt _ (fun r hr => (HL.out.ok r (List.map_subset _ (List.take_subset _ _) hr))))
      obtain ⟨T, hT⟩ : ∃ T, T = mxN (numsV (psL (l.take n))) := ⟨_, rfl⟩
      rw [← hT] at HF hM0
      try rw [← hT]
      clear hT
      by_cases he : T = 18446744073709551615
      · subst he
        have HU := Lib.hid (show upN 18446744073709551615 = 18446744073709551615 from rfl)
        go_wp2
        go_ret
        exact ⟨by rw [HF.out, HU.out]; rfl, rfl⟩
      · have hei : ¬(T : Int) = 18446744073709551615 := by omega
        have hb : ((T : Int) == 18446744073709551615) = false := by simpa using hei
        have HU := Lib.hid (show upN T = T + 1 from if_neg he)
        have hwr : IntKind.u64.wrap ((T : Int) + 1) = ((T + 1 : Nat) : Int) := by rw [IntKind.wrap_u64]; omega
        go_wp2
        go_ret
        exact ⟨by rw [HF.out, HU.out]; first | rfl | (congr 2; omega) | simp [hwr], rfl⟩
end Go.Proofs.Ytlaenabckpjikaa
