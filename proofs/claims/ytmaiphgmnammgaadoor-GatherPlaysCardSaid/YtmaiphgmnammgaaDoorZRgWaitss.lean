/- The document's attempt: whom it waits for. (Written by wip/gen_rgwaits.py.) -/
import Derived.Test.YtmaiphgmnammgaaDoorZRgAdd
set_option linter.unusedVariables false
set_option maxRecDepth 100000
set_option linter.unusedSimpArgs false
namespace Go.Proofs.YtmaiphgmnammgaaDoor
open Go.RowKit Go.Sort Go.Maps

/-- Whom it waits for. -/
def wtB (R : RG) (p : Nat) : Bool := R.M.testBit p && (tR R && !R.Y.testBit p || !tR R && !(ofX R.L (p : Int)).isSome)
def wtR (R : RG) : Nat := num (wtB R)
set_option maxHeartbeats 8000000 in
theorem rwaits {w0 w : World} (R : RG) (hr : RgX w0 w R) :
    Calls Tryd.prog 21 #[encRv R] w fun e w' => e = .returned (.int .u64 (wtR R : Nat)) ∧ Below w.heap.size w w' := by
  have R1 := Lib.hid (RgB.new w R)
  have L1 := ((Grw.refl w).alloc (.cells (encRG R).toArray 33)).below
  have HRX := Lib.hid (hr.later L1)
  have HB1 := Lib.hid L1
  have HPT := Lib.hid (fun V => rtold (R := R) (w := V) hr.m)
  have HWB := Lib.hid (show ∀ p, wtB R p = (R.M.testBit p && (tR R && !R.Y.testBit p || !tR R && !(ofX R.L (p : Int)).isSome)) from fun _ => rfl)
  have HWR := Lib.hid (show num (wtB R) = wtR R from rfl)
  obtain ⟨wv, hwv⟩ : ∃ wv, wv = wtR R := ⟨_, rfl⟩
  obtain ⟨wf, hwf⟩ : ∃ wf, wf = wtB R := ⟨_, rfl⟩
  obtain ⟨tb, htb⟩ : ∃ tb, tb = tR R := ⟨_, rfl⟩
  rw [← hwf, ← hwv] at HWR
  rw [← hwf, ← htb] at HWB
  rw [← htb] at HPT
  rw [← hwv]
  have hm := hr.m
  have hyl := hr.y
  clear hwv hwf htb
  clear hr L1
  obtain ⟨e, r, M, a, n, c, L, Y⟩ := R
  unfold encRv encRG at *
  simp only at R1 HRX HB1 HPT HWB hm hyl
  go_enter Tryd.func21, Tryd.ntmps21
  go_upto_region 1 with fail
  generalize (w.alloc (.cells #[.int .u64 e, .int .i64 r, .int .u64 (M : Int), .slice a n c, .int .u64 (Y : Int)] 33)) = w2 at *
  have R2 : Hid (RgB w2 w.heap.size ⟨e, r, M, a, n, c, L, Y⟩) := Lib.hid R1.out
  obtain ⟨e0, he0⟩ : ∃ e0, e0 = w.heap.size := ⟨_, rfl⟩
  rw [← he0] at R2
  try rw [← he0]
  clear he0 R1
  go_wp2_with fail
  go_loopw [3, 4] (fun ss sp wr => ∃ k : Nat, k ≤ 64 ∧ ss = .int .u64 (setK16 wf k : Nat) ∧ sp = .int .i64 k ∧ Aside (Below w2.heap.size w2 wr)) (fun _ sp _ => 64 - (intOf sp).toNat)
  case atStart => exact ⟨0, Nat.zero_le _, by rw [setK16_zero]; exact (rfl : Value.int .u64 0 = .int .u64 0), rfl, Below.refl _ _⟩
  case round =>
    obtain ⟨k, hk, rfl, rfl, HB⟩ := hrel
    by_cases hlt : k < 64
    · have hk' : (k : Int) < 64 := by omega
      have hm3 : min k 64 = k := by omega
      have HWK := Lib.hid (HWB.out k)
      have HNO := Lib.hid (setK16_no wf k)
      have HYES := Lib.hid (setK16_yes wf k hlt)
      have hor := or_one16 (setK16 wf k) k (setK16_lt _ _) hlt
      have PM := fun V => rmember M (k : Int) V hm
      have PY := fun V => rmember Y (k : Int) V hyl
      rw [mem_nat _ _ hlt] at PM PY
      have HPM := Lib.hid PM
      have HPY := Lib.hid PY
      clear PM PY
      have R3 := Lib.hid (R2.out.below HB.out)
      have HRX3 := Lib.hid (HRX.out.later HB.out)
      have PO := rof HRX3.out (k : Int)
      unfold encRv encRG OfSaid at PO
      simp only at PO
      obtain ⟨oy, hoy⟩ : ∃ oy, oy = ofX L (k : Int) := ⟨_, rfl⟩
      rw [← hoy] at PO
      have HOY := Lib.hid hoy
      clear hoy
      rw [← HOY.out] at HWK
      obtain ⟨ob, hob⟩ : ∃ ob, ob = oy.isSome := ⟨_, rfl⟩
      rw [← hob] at PO HWK
      obtain ⟨mb, hmb⟩ : ∃ mb, mb = M.testBit k := ⟨_, rfl⟩
      rw [← hmb] at HPM HWK
      obtain ⟨yb, hyb⟩ : ∃ yb, yb = Y.testBit k := ⟨_, rfl⟩
      rw [← hyb] at HPY HWK
      obtain ⟨ks, hks⟩ : ∃ ks, ks = setK16 wf k := ⟨_, rfl⟩
      rw [← hks] at hor HNO HYES
      try rw [← hks]
      obtain ⟨k2, hk2⟩ : ∃ k2, k2 = any ks (onl (k : Int)) := ⟨_, rfl⟩
      rw [← hk2] at hor HYES
      clear hob hmb hyb hks hk2 HOY
      obtain ⟨y, hy⟩ : ∃ y, y = oy.getD zeroX := ⟨_, rfl⟩
      rw [← hy] at PO
      have HYY := Lib.hid hy
      clear hy
      obtain ⟨yw, ye, yp, ya, yn, yc, yt, jn, jp⟩ := y
      unfold encXv encXg at PO
      simp only at PO
      go_wp2_with (first | (refine load_rgm rfl (.tmp 1) rfl e0 ⟨e, r, M, a, n, c, L, Y⟩ rfl R3.out ?_) | fail)
      refine PO.mono ?_
      rintro e1 v8 ⟨rfl, B8⟩
      have LA := ((Grw.refl v8).alloc (.cells #[.int .i64 yw, .int .u64 ye, .int .i64 yp, .slice ya yn yc, .int .u64 jn, .int .i64 jp] 38)).below
      have HB4 := Lib.hid ((HB.out.trans (B8.mono HB.out.size)).trans (LA.mono (Nat.le_trans HB.out.size B8.size)))
      have R4 := Lib.hid (R2.out.below HB4.out)
      clear PO B8 LA HB R3 HRX3 HYY
      go_upto_region 6 with fail
      generalize (v8.alloc (.cells #[.int .i64 yw, .int .u64 ye, .int .i64 yp, .slice ya yn yc, .int .u64 jn, .int .i64 jp] 38)) = v9 at *
      have c1 : v9.cell? ⟨e0, 2, none⟩ = some (.int .u64 (M : Int)) := R4.out.c1
      have PM := HPM.out v9
      go_wp2_with fail
      refine PM.mono ?_
      rintro e1 v7 ⟨rfl, rfl⟩
      clear PM HPM c1
      cases mb with
      | false =>
        have HN := Lib.hid (HNO.out (by rw [HWK.out]; rfl))
        clear HWK HNO HYES hor HPT HPY
        go_wp2
        go_roundw
        case rel => exact ⟨k + 1, by omega, by rw [HN.out], by go_num, HB4.out⟩
        case measure => simp [intOf]; omega
      | true =>
        have PT := HPT.out v9
        have g0 : v9.cell? ⟨e0, 0, none⟩ = some (.int .u64 e) := R4.out.own.at_ 0 _ rfl
        have g1 : v9.cell? ⟨e0, 1, none⟩ = some (.int .i64 r) := R4.out.own.at_ 1 _ rfl
        have g2 : v9.cell? ⟨e0, 2, none⟩ = some (.int .u64 (M : Int)) := R4.out.own.at_ 2 _ rfl
        have g3 : v9.cell? ⟨e0, 3, none⟩ = some (.slice a n c) := R4.out.own.at_ 3 _ rfl
        have g4 : v9.cell? ⟨e0, 4, none⟩ = some (.int .u64 (Y : Int)) := R4.out.own.at_ 4 _ rfl
        go_wp2_with fail
        refine PT.mono ?_
        rintro e1 v6 ⟨rfl, B6⟩
        have HB5 := Lib.hid (HB4.out.trans (B6.mono HB4.out.size))
        have R5 := Lib.hid (R2.out.below HB5.out)
        clear PT B6 HB4 R4 g0 g1 g2 g3 g4
        have HB4 := Lib.hid HB5.out
        clear HB5
        cases tb with
        | true =>
          have PM := HPY.out v6
          have c3 : v6.cell? ⟨e0, 4, none⟩ = some (.int .u64 (Y : Int)) := R5.out.c3
          go_wp2_with fail
          refine PM.mono ?_
          rintro e1 v7 ⟨rfl, rfl⟩
          clear PM c3
          cases yb with
          | false =>
            have HN := Lib.hid (HYES.out (by rw [HWK.out]; rfl))
            clear HWK HNO HYES HPT HPY
            go_wp2
            go_roundw
            case rel => exact ⟨k + 1, by omega, by rw [HN.out], by go_num, HB4.out⟩
            case measure => simp [intOf]; omega
          | true =>
            have PT := HPT.out v6
            have g0 : v6.cell? ⟨e0, 0, none⟩ = some (.int .u64 e) := R5.out.own.at_ 0 _ rfl
            have g1 : v6.cell? ⟨e0, 1, none⟩ = some (.int .i64 r) := R5.out.own.at_ 1 _ rfl
            have g2 : v6.cell? ⟨e0, 2, none⟩ = some (.int .u64 (M : Int)) := R5.out.own.at_ 2 _ rfl
            have g3 : v6.cell? ⟨e0, 3, none⟩ = some (.slice a n c) := R5.out.own.at_ 3 _ rfl
            have g4 : v6.cell? ⟨e0, 4, none⟩ = some (.int .u64 (Y : Int)) := R5.out.own.at_ 4 _ rfl
            go_wp2_with fail
            refine PT.mono ?_
            rintro e1 v5 ⟨rfl, B6⟩
            have HB5 := Lib.hid (HB4.out.trans (B6.mono HB4.out.size))
            have R6 := Lib.hid (R2.out.below HB5.out)
            clear PT B6 HB4 R5 g0 g1 g2 g3 g4
            have HB4 := Lib.hid HB5.out
            clear HB5
            have HN := Lib.hid (HNO.out (by rw [HWK.out]; rfl))
            clear HWK HNO HYES hor HPT HPY
            go_wp2
            go_roundw
            case rel => exact ⟨k + 1, by omega, by rw [HN.out], by go_num, HB4.out⟩
            case measure => simp [intOf]; omega
        | false =>
          have PT := HPT.out v6
          have g0 : v6.cell? ⟨e0, 0, none⟩ = some (.int .u64 e) := R5.out.own.at_ 0 _ rfl
          have g1 : v6.cell? ⟨e0, 1, none⟩ = some (.int .i64 r) := R5.out.own.at_ 1 _ rfl
          have g2 : v6.cell? ⟨e0, 2, none⟩ = some (.int .u64 (M : Int)) := R5.out.own.at_ 2 _ rfl
          have g3 : v6.cell? ⟨e0, 3, none⟩ = some (.slice a n c) := R5.out.own.at_ 3 _ rfl
          have g4 : v6.cell? ⟨e0, 4, none⟩ = some (.int .u64 (Y : Int)) := R5.out.own.at_ 4 _ rfl
          go_wp2_with fail
          refine PT.mono ?_
          rintro e1 v5 ⟨rfl, B6⟩
          have HB5 := Lib.hid (HB4.out.trans (B6.mono HB4.out.size))
          have R6 := Lib.hid (R2.out.below HB5.out)
          clear PT B6 HB4 R5 g0 g1 g2 g3 g4
          have HB4 := Lib.hid HB5.out
          clear HB5
          cases ob with
          | false =>
            have HN := Lib.hid (HYES.out (by rw [HWK.out]; rfl))
            clear HWK HNO HYES HPT HPY
            go_wp2
            go_roundw
            case rel => exact ⟨k + 1, by omega, by rw [HN.out], by go_num, HB4.out⟩
            case measure => simp [intOf]; omega
          | true =>
            have HN := Lib.hid (HNO.out (by rw [HWK.out]; rfl))
            clear HWK HNO HYES hor HPT HPY
            go_wp2
            go_roundw
            case rel => exact ⟨k + 1, by omega, by rw [HN.out], by go_num, HB4.out⟩
            case measure => simp [intOf]; omega
    · obtain rfl : k = 64 := by omega
      have HZ := Lib.hid (setK16_all wf 64 rfl)
      have HBF := Lib.hid (HB1.out.trans (HB.out.mono HB1.out.size))
      clear HB
      go_wp2
      go_ret
      exact ⟨by rw [HZ.out, HWR.out]; rfl, HBF.out⟩
end Go.Proofs.YtmaiphgmnammgaaDoor

/- The document's attempt: all of them. (Written by wip/gen_rgwaits.py.) -/
set_option linter.unusedVariables false
set_option maxRecDepth 100000
set_option linter.unusedSimpArgs false
namespace Go.Proofs.YtmaiphgmnammgaaDoor
open Go.RowKit Go.Sort Go.Maps

/-- All of them, by rising Who. -/
def exR (R : RG) (k : Nat) : List Xg := (List.range k).filterMap fun p => ofX R.L ((p : Nat) : Int)
theorem exR_next (R : RG) (k : Nat) : exR R (k + 1) = exR R k ++ (ofX R.L (k : Int)).toList := by
  unfold exR
  rw [List.range_succ, List.filterMap_append]
  cases h : ofX R.L (k : Int) with
  | none => simp [h]
  | some x => simp [h]
/-- What Exchanges answers. -/
def ReSaid (w0 w : World) (R : RG) (e : Ending) (w' : World) : Prop := ∃ a n c, e = .returned (.slice a n c) ∧ FiSt w0 w' (.slice a n c) n (exR R 64) ∧ Below w.heap.size w w'
set_option maxHeartbeats 8000000 in
theorem rexchs {w0 w : World} (R : RG) (hr : RgX w0 w R) (hb0 : Below w0.heap.size w0 w) :
    Calls Tryd.prog 23 #[encRv R] w (ReSaid w0 w R) := by
  have R1 := Lib.hid (RgB.new w R)
  have L1 := ((Grw.refl w).alloc (.cells (encRG R).toArray 33)).below
  have HRX := Lib.hid (hr.later L1)
  have HB1 := Lib.hid L1
  have HB0 := Lib.hid (hb0.trans (L1.mono hb0.size))
  have HNX := Lib.hid (exR_next R)
  have HX0 := Lib.hid (show exR R 0 = [] from rfl)
  have HXS : Hid (∀ x ∈ R.L, XI (w.alloc (.cells (encRG R).toArray 33)) x) := Lib.hid (fun x hx => (hr.xs x hx).below (hb0.trans (L1.mono hb0.size)))
  have HXE : Hid (∀ x ∈ exR R 64, XI w0 x) := Lib.hid (fun x hx => by
    unfold exR at hx
    obtain ⟨p, _, hp⟩ := List.mem_filterMap.1 hx
    exact hr.xs x (ofX_mem hp).1)
  obtain ⟨ef, hef⟩ : ∃ ef, ef = exR R := ⟨_, rfl⟩
  have HEF := Lib.hid (show ef 64 = exR R 64 by rw [hef])
  rw [← hef] at HNX HX0
  clear hef hb0
  clear hr L1
  obtain ⟨e, r, M, a, n, c, L, Y⟩ := R
  unfold encRv encRG at *
  simp only at R1 HRX HB1 HB0 HNX HXS
  go_enter Tryd.func23, Tryd.ntmps23
  go_upto_region 1 with fail
  generalize (w.alloc (.cells #[.int .u64 e, .int .i64 r, .int .u64 (M : Int), .slice a n c, .int .u64 (Y : Int)] 33)) = w2 at *
  have R2 : Hid (RgB w2 w.heap.size ⟨e, r, M, a, n, c, L, Y⟩) := Lib.hid R1.out
  obtain ⟨e0, he0⟩ : ∃ e0, e0 = w.heap.size := ⟨_, rfl⟩
  rw [← he0] at R2
  try rw [← he0]
  clear he0 R1
  go_wp2_with fail
  go_loopw [3, 4] (fun ss sp wr => ∃ (k m : Nat) (fa : Option Addr) (fc : Nat), k ≤ 64 ∧ m ≤ k ∧ ss = .slice fa m fc ∧ sp = .int .i64 k ∧ Aside (Below w2.heap.size w2 wr) ∧ Aside (FiSt w2 wr (.slice fa m fc) m (ef k))) (fun _ sp _ => 64 - (intOf sp).toNat)
  case atStart => exact ⟨0, 0, none, 0, Nat.zero_le _, Nat.le_refl _, rfl, rfl, Below.refl _ _, by rw [HX0.out]; exact FiSt.start w2 w2⟩
  case round =>
    obtain ⟨k, m, fa, fc, hk, hmk, rfl, rfl, HB, HF⟩ := hrel
    by_cases hlt : k < 64
    · have hk' : (k : Int) < 64 := by omega
      have R3 := Lib.hid (R2.out.below HB.out)
      have HRX3 := Lib.hid (HRX.out.later HB.out)
      have PO := rof HRX3.out (k : Int)
      unfold encRv encRG OfSaid at PO
      simp only at PO
      obtain ⟨oy, hoy⟩ : ∃ oy, oy = ofX L (k : Int) := ⟨_, rfl⟩
      rw [← hoy] at PO
      have HOY := Lib.hid hoy
      clear hoy
      have HN1 := Lib.hid (show ef (k + 1) = ef k ++ oy.toList by rw [HNX.out, HOY.out])
      have HIN := Lib.hid (show ∀ y, oy = some y → XI w2 y from fun y hy => HXS.out y (ofX_mem (HOY.out.symm.trans hy)).1)
      obtain ⟨y, hy⟩ : ∃ y, y = oy.getD zeroX := ⟨_, rfl⟩
      rw [← hy] at PO
      have HYY := Lib.hid hy
      clear hy
      obtain ⟨yw, ye, yp, ya, yn, yc, yt, jn, jp⟩ := y
      unfold encXv encXg at PO
      simp only at PO
      go_wp2_with (first | (refine load_rgm rfl (.tmp 1) rfl e0 ⟨e, r, M, a, n, c, L, Y⟩ rfl R3.out ?_) | fail)
      refine PO.mono ?_
      rintro e1 v8 ⟨rfl, B8⟩
      have LA := ((Grw.refl v8).alloc (.cells #[.int .i64 yw, .int .u64 ye, .int .i64 yp, .slice ya yn yc, .int .u64 jn, .int .i64 jp] 38)).below
      have HB4 := Lib.hid ((HB.out.trans (B8.mono HB.out.size)).trans (LA.mono (Nat.le_trans HB.out.size B8.size)))
      have F4 := Lib.hid ((HF.out.later B8).later LA)
      clear PO B8 LA HB R3 HRX3 HF HOY
      cases oy with
      | none =>
        have F5 := Lib.hid (show FiSt w2 (v8.alloc (.cells #[.int .i64 yw, .int .u64 ye, .int .i64 yp, .slice ya yn yc, .int .u64 jn, .int .i64 jp] 38)) (.slice fa m fc) m (ef (k + 1)) by rw [HN1.out]; simpa using F4.out)
        clear F4 HIN HN1 HYY
        go_upto_region 6 with fail
        generalize (v8.alloc (.cells #[.int .i64 yw, .int .u64 ye, .int .i64 yp, .slice ya yn yc, .int .u64 jn, .int .i64 jp] 38)) = v9 at *
        go_wp2
        go_roundw
        case rel => exact ⟨k + 1, m, fa, fc, by omega, by omega, rfl, by go_num, HB4.out, F5.out⟩
        case measure => simp [intOf]; omega
      | some y =>
        have HIY := Lib.hid (HIN.out y rfl)
        have hyy : (⟨yw, ye, yp, ya, yn, yc, yt, ⟨jn, jp⟩⟩ : Xg) = y := HYY.out
        subst hyy
        have X9 := Lib.hid (XgB.new v8 ⟨yw, ye, yp, ya, yn, yc, yt, ⟨jn, jp⟩⟩)
        have G9 := ((Grw.refl (v8.alloc (.cells #[.int .i64 yw, .int .u64 ye, .int .i64 yp, .slice ya yn yc, .int .u64 jn, .int .i64 jp] 38))).alloc (.cells #[.int .i64 yw, .int .u64 ye, .int .i64 yp, .slice ya yn yc, .int .u64 jn, .int .i64 jp] 38)).below
        have X10 := Lib.hid (XgB.new (v8.alloc (.cells #[.int .i64 yw, .int .u64 ye, .int .i64 yp, .slice ya yn yc, .int .u64 jn, .int .i64 jp] 38)) ⟨yw, ye, yp, ya, yn, yc, yt, ⟨jn, jp⟩⟩)
        have F10 := Lib.hid (F4.out.later G9)
        have HB10 := Lib.hid (HB4.out.trans (G9.mono HB4.out.size))
        have hs9 : (v8.alloc (.cells #[.int .i64 yw, .int .u64 ye, .int .i64 yp, .slice ya yn yc, .int .u64 jn, .int .i64 jp] 38)).heap.size = v8.heap.size + 1 := by simp
        clear G9 F4 HYY HIN HB4
        unfold encXg at X9 X10
        simp only at X9 X10
        rw [hs9] at X10
        go_upto_region 7 with fail
        generalize (v8.alloc (.cells #[.int .i64 yw, .int .u64 ye, .int .i64 yp, .slice ya yn yc, .int .u64 jn, .int .i64 jp] 38)) = v9 at *
        obtain ⟨yb, hyb⟩ : ∃ yb, yb = v8.heap.size := ⟨_, rfl⟩
        rw [← hyb] at X9 X10 hs9
        try rw [← hyb]
        have X9b : Hid (XgB v9 yb ⟨yw, ye, yp, ya, yn, yc, yt, ⟨jn, jp⟩⟩) := Lib.hid X9.out
        clear hyb X9
        have HS0 := Lib.hid (show w2.heap.size ≤ (v9.alloc (.cells #[.int .i64 yw, .int .u64 ye, .int .i64 yp, .slice ya yn yc, .int .u64 jn, .int .i64 jp] 38)).heap.size from HB10.out.size)
        go_wp2_with (first
          | (refine load_xgm rfl (.tmp 5) rfl yb 0 ⟨yw, ye, yp, ya, yn, yc, yt, ⟨jn, jp⟩⟩ rfl (xgb_range X9b.out) ?_)
          | (at_builtin; refine append_xg16 _ rfl (.tmp 18) (.tmp 20) rfl w2.heap.size (.slice fa m fc) m (ef k) rfl F10.out.own (yb + 1) 1 ⟨yw, ye, yp, ya, yn, yc, yt, ⟨jn, jp⟩⟩ rfl X10.out (by omega) HS0.out ?_; intro v5 w5 hown hgrow))
        obtain ⟨fa2, fc2, rfl⟩ := own_form' hown
        have F5 := Lib.hid (show FiSt w2 w5 (.slice fa2 (m + 1) fc2) (m + 1) (ef (k + 1)) by rw [HN1.out]; exact F10.out.app HIY.out hown)
        have HB5 := Lib.hid (HB10.out.grown hgrow HB10.out.size fun j hj => own_behind F10.out.own j hj)
        clear hown hgrow F10 HB10 X10 X9b HN1 HIY hs9 HS0
        go_roundw
        case rel => exact ⟨k + 1, m + 1, fa2, fc2, by omega, by omega, rfl, by go_num, HB5.out, F5.out⟩
        case measure => simp [intOf]; omega
    · obtain rfl : k = 64 := by omega
      have HBF := Lib.hid (HB1.out.trans (HB.out.mono HB1.out.size))
      have F5 := Lib.hid (HF.out)
      clear HB HF
      go_wp2
      go_ret
      exact ⟨fa, m, fc, rfl, by have h := F5.out; rw [HEF.out] at h; exact ⟨own_base h.own HB0.out.size, h.len, HXE.out⟩, HBF.out⟩
end Go.Proofs.YtmaiphgmnammgaaDoor

/- Both attempts tell the same; what stands amid GatherPlays. -/
set_option linter.unusedVariables false
set_option maxRecDepth 100000
set_option linter.unusedSimpArgs false
namespace Go.Proofs.YtmaiphgmnammgaaDoor
open Go.RowKit Go.Sort Go.Maps

/-- Both tell the same. -/
structure RS (R : RG) (S : Gt) : Prop where
  e : R.e = S.e
  r : R.r = S.r
  m : R.M = S.M
  y : R.Y = S.Y
  n : R.n = S.n
  of_ : ∀ z, (ofX R.L z).map stripX = (S.H z).map stripX
theorem fm_congr {α β : Type} {f g : α → Option β} : ∀ l : List α, (∀ x ∈ l, f x = g x) → l.filterMap f = l.filterMap g
  | [], _ => rfl
  | a :: l, h => by
    rw [List.filterMap_cons, List.filterMap_cons, h a (by simp), fm_congr l fun x hx => h x (by simp [hx])]
theorem RS.new (e r : Int) (M : Nat) : RS ⟨e, r, M, none, 0, 0, [], 0⟩ (newG e r M) := ⟨rfl, rfl, rfl, rfl, rfl, fun z => rfl⟩
section
variable {R : RG} {S : Gt}
theorem RS.isSome (h : RS R S) (z : Int) : (ofX R.L z).isSome = (S.H z).isSome := by
  have := congrArg Option.isSome (h.of_ z)
  simpa using this
theorem RS.tld (h : RS R S) : tR R = toldG S := by unfold tR toldG; rw [h.n, h.m]
theorem RS.done (h : RS R S) (ok : GtOk S) : dR R = doneG S := by
  unfold dR doneG
  rw [h.tld, h.y, h.m]
  by_cases e : S.Y = S.M
  · have := ok.done e
    unfold toldG
    rw [decide_eq_true this, decide_eq_true e]; rfl
  · rw [decide_eq_false e]; simp
theorem RS.wait (h : RS R S) : wtR R = waitG S := by
  refine set_ext _ _ (num_lt _) (waitG_lt S) fun p hp => ?_
  show (num (wtB R)).testBit p = _
  rw [num_bit, decide_eq_true hp, Bool.true_and, wait_bit S p hp]
  unfold wtB
  rw [h.tld, h.m, h.y, h.isSome]
  unfold told
  cases S.M.testBit p <;> cases toldG S <;> cases S.Y.testBit p <;> cases (S.H (p : Int)).isSome <;> rfl
theorem RS.ex (h : RS R S) (ok : GtOk S) : (exR R 64).map stripX = (exL S).map stripX := by
  unfold exR exL exN lst
  rw [List.map_filterMap, List.map_filterMap, List.filterMap_filter]
  refine fm_congr _ fun p hp => ?_
  rw [h.of_]
  cases hm : S.M.testBit p with
  | true => simp
  | false =>
    cases hh : S.H (p : Int) with
    | none => simp
    | some x =>
      exfalso
      have := (ok.key _ _ hh).2.2.1
      rw [Int.toNat_natCast, hm] at this
      cases this
theorem RS.rok (h : RS R S) (z : Int) : mkOk R z = readyOk S z := by
  unfold mkOk readyOk
  rw [h.tld, h.m, h.y]
  cases ht : toldG S with
  | false => rfl
  | true =>
    unfold mem
    by_cases h0 : 0 ≤ z
    · by_cases h1 : z < 64
      · rw [wait_bit S z.toNat (by omega), if_pos ht, decide_eq_true h0, decide_eq_true h1]
        cases S.M.testBit z.toNat <;> cases S.Y.testBit z.toNat <;> rfl
      · rw [decide_eq_false h1]; simp
    · rw [decide_eq_false h0]; simp
theorem RS.ready (h : RS R S) (z : Int) : RS (mkR R z) (readyG S z) := by
  unfold mkR readyG
  rw [h.rok]
  split
  · exact ⟨h.e, h.r, h.m, by show any R.Y (onl z) = any S.Y (onl z); rw [h.y], h.n, h.of_⟩
  · exact h
theorem RS.readyB (h : RS R S) (ok : GtOk S) (z : Int) : mkB R z = Go.Proofs.YtmaiphgmnammgaaDoor.readyB S z := by
  rw [ready_done]
  unfold mkB
  rw [h.rok, (h.ready z).done (ok.ready z)]
theorem RS.aok (h : RS R S) (x : Xg) : adOk R x = freshG S x.w := by
  unfold adOk freshG
  rw [h.m, Bool.and_comm]
  congr 1
  have := h.isSome x.w
  cases h1 : ofX R.L x.w <;> cases h2 : S.H x.w <;> simp_all
theorem RS.lt (h : RS R S) (ok : GtOk S) {x : Xg} (ha : adOk R x = true) : R.n + 1 ≤ 64 := by
  rw [h.aok] at ha
  have h1 := (ok.fresh ha).1
  have h2 := card_le S.M
  have h3 := h.n
  omega
theorem RS.add (h : RS R S) {x y : Xg} (hs : stripX y = stripX x) {R' : RG} (hno : adOk R x = false → R' = R) (hyes : adOk R x = true → ∃ a c, R' = ⟨R.e, R.r, R.M, a, R.n + 1, c, R.L ++ [x], R.Y⟩) : RS R' (addG S y) ∧ (adOk R x && tR R') = addB S x := by
  have hw : y.w = x.w := stripX_w hs
  cases ha : adOk R x with
  | false =>
    rw [hno ha]
    rw [h.aok, ← hw] at ha
    refine ⟨by rw [(add_no ha).1]; exact h, ?_⟩
    unfold addB
    rw [← hw, ha]; rfl
  | true =>
    obtain ⟨a, c, rfl⟩ := hyes ha
    have ha2 := ha
    rw [h.aok, ← hw] at ha2
    have hadd := add_yes ha2
    refine ⟨?_, ?_⟩
    · rw [hadd]
      refine ⟨h.e, h.r, h.m, h.y, by show R.n + 1 = S.n + 1; rw [h.n], fun z => ?_⟩
      show (ofX (R.L ++ [x]) z).map stripX = (setI S.H y.w (some y) z).map stripX
      have hn : ofX R.L x.w = none := by
        unfold adOk at ha
        simp only [Bool.and_eq_true] at ha
        simpa using ha.1
      rw [ofX_add hn]
      by_cases e : z = x.w
      · subst e
        rw [if_pos rfl, hw, setI_same]
        show some (stripX x) = some (stripX y)
        rw [hs]
      · rw [if_neg e, setI_other _ _ _ (by rw [hw]; exact e)]
        exact h.of_ z
    · unfold addB tR
      rw [← hw, ha2]
      show decide (R.n + 1 = card R.M) = decide (S.n + 1 = card S.M)
      rw [h.n, h.m]
end
/-- What stands amid the acts. -/
structure GpSt (w wr : World) (g mb : Nat) (S : Gt) (rb : Nat) (R : RG) (cb : Nat) : Prop where
  a : GtN w wr g mb S
  b : RgB wr rb R
  b0 : w.heap.size ≤ rb
  x : RgX w wr R
  s : RS R S
  c : Own wr cb 24 #[.int .u64 S.e, .int .i64 S.r]
section
variable {w wr w' : World} {g mb rb cb : Nat} {S S' : Gt} {R R' : RG}
theorem GpSt.later (h : GpSt w wr g mb S rb R cb) (hb : Below wr.heap.size wr w') : GpSt w w' g mb S rb R cb :=
  ⟨h.a.later hb, h.b.below hb, h.b0, h.x.later hb, h.s, (hb.block cb h.c.lt).trans h.c⟩
/-- The attempt has turned, the document's not yet. -/
structure GpMid (w wr : World) (g mb : Nat) (S' : Gt) (rb : Nat) (R : RG) (cb : Nat) (S : Gt) : Prop where
  a : GtN w wr g mb S'
  b : RgB wr rb R
  b0 : w.heap.size ≤ rb
  x : RgX w wr R
  s : RS R S
  ok : GtOk S
  c : Own wr cb 24 #[.int .u64 S.e, .int .i64 S.r]
theorem GpSt.act {b : Bool} {e : Ending} (h : GpSt w wr g mb S rb R cb) (ha : Acted wr g mb S' b e w') : GpMid w w' g mb S' rb R cb S :=
  ⟨h.a.act ha, h.b.kept (h.a.at_.other ha.2.2 h.b.own.is (by decide)), h.b0, h.x.moved fun j cur hj => h.a.at_.other ha.2.2 hj (by decide), h.s, h.a.at_.ok, (h.a.at_.other ha.2.2 h.c.is (by decide)).trans h.c⟩
theorem GpMid.later (h : GpMid w wr g mb S' rb R cb S) (hb : Below wr.heap.size wr w') : GpMid w w' g mb S' rb R cb S :=
  ⟨h.a.later hb, h.b.below hb, h.b0, h.x.later hb, h.s, h.ok, (hb.block cb h.c.lt).trans h.c⟩
theorem rg_row_other {m2 : Nat} {H : Int → Option Xg} {n : Nat} (h : MapI encXv wr m2 H n) (hb : RgB wr rb R) : m2 ≠ rb := by
  rintro rfl
  obtain ⟨es, c, hm⟩ := h.is
  have := hm.symm.trans hb.own.is
  injection this with e1
  cases e1
/-- The document's turns, too. -/
theorem GpMid.store (h : GpMid w wr g mb S' rb R cb S) (hx : RgX w wr R') (hs : RS R' S') (he : S'.e = S.e) (hr : S'.r = S.r) : GpSt w (wr.setRow rb (encRG R').toArray) g mb S' rb R' cb := by
  have hk : ∀ (j : Nat) (cur : Array Value) (t : TypeId), wr.heap[j]? = some (.cells cur t (0, 0)) → t ≠ 33 → (wr.setRow rb (encRG R').toArray).heap[j]? = wr.heap[j]? := fun j cur t hj ht =>
    setRow_other _ _ _ _ (ne_of_types hj h.b.own.is ht)
  refine ⟨⟨⟨(hk _ _ _ h.a.at_.blk.is (by decide)).trans h.a.at_.blk, h.a.at_.map.kept (setRow_other _ _ _ _ (rg_row_other h.a.at_.map h.b)), fun k x hx' => (h.a.at_.xs k x hx').kept fun ad e => ?_, h.a.at_.ok⟩, h.a.g0, h.a.m0, ?_⟩, setRow_heap _ _ _ _ _ _ h.b, h.b0, hx.moved fun j cur hj => hk _ _ _ hj (by decide), hs, ?_⟩
  · obtain ⟨cur, hc⟩ := (h.a.at_.xs k x hx').typ ad e
    exact hk _ _ _ hc (by decide)
  · exact ⟨h.a.bel.os, h.a.bel.tape, h.a.bel.output, by rw [size_setRow]; exact h.a.bel.size, fun k hk2 => (setRow_other _ _ _ _ (by have := h.b0; omega)).trans (h.a.bel.block k hk2)⟩
  · rw [he, hr]; exact (hk _ _ _ h.c.is (by decide)).trans h.c
end
theorem mk_x {w wr : World} {R : RG} (h : RgX w wr R) (z : Int) : RgX w wr (mkR R z) := by
  unfold mkR
  split
  · exact ⟨h.at_, h.typ, h.xs, h.few, h.m, any_lt _ _, h.nil⟩
  · exact h
/-! ### The row that is handed out, and spoiled -/
theorem someInt16 {w : World} {a : Addr} {k : IntKind} (h : ∃ m, w.cell? a = some (.int k m)) (b : Addr) (x : Int) : ∃ m, (w.setCell b (.int k x)).cell? a = some (.int k m) := by
  obtain ⟨m, hm⟩ := h
  by_cases e : b = a
  · subst e; exact ⟨x, World.cell?_setCell_same _ _ _ hm⟩
  · exact ⟨m, (World.cell?_setCell_other _ _ _ _ e).trans hm⟩
/-- Numbers of their kind, whichever. -/
structure NumsB (w : World) (a : Option Addr) (n : Nat) : Prop where
  src : 0 < n → ∃ b o, a = some ⟨b, o, none⟩ ∧ (∃ cur, w.heap[b]? = some (.cells cur 52 (0, 0))) ∧ ∀ i, i < n → ∃ z, w.cell? ⟨b, o + i, none⟩ = some (.int .u32 z)
structure Spl16 (w8 wr : World) (xa : Option Addr) (xn : Nat) (X : List Xg) : Prop where
  bel : Below w8.heap.size w8 wr
  at_ : Lst encXg 6 wr xa xn X
  typ : ∀ ad, xa = some ad → ∃ cur, wr.heap[ad.block]? = some (.cells cur 38 (0, 0))
  num : ∀ x ∈ X, NumsB wr x.a x.n ∧ (∀ ad, x.a = some ad → w8.heap.size ≤ ad.block) ∧ x.n ≤ 35184372087808
section
variable {w8 wr w' : World} {xa : Option Addr} {xn : Nat} {X L : List Xg}
theorem NumsB.of {x : Xg} (h : XT wr x) : NumsB wr x.a x.n := ⟨fun h0 => by
  obtain ⟨b, o, e, hr⟩ := h.at_.src h0
  refine ⟨b, o, e, h.typ _ e, fun i hi => ?_⟩
  obtain ⟨z, hz⟩ : ∃ z, x.cnt[i]? = some z := ⟨_, List.getElem?_eq_getElem (by rw [h.at_.size]; exact hi)⟩
  exact ⟨z, by have := hr i z hz 0 _ rfl; simpa using this⟩⟩
theorem NumsB.moved {a : Option Addr} {n : Nat} (h : NumsB wr a n) (hb : ∀ ad, a = some ad → w'.heap[ad.block]? = wr.heap[ad.block]?) : NumsB w' a n := ⟨fun h0 => by
  obtain ⟨b, o, e, ⟨cur, hc⟩, hz⟩ := h.src h0
  have hk := hb _ e
  exact ⟨b, o, e, ⟨cur, hk.trans hc⟩, fun i hi => by obtain ⟨z, h1⟩ := hz i hi; exact ⟨z, (World.cell?_of_block (a := ⟨b, o + i, none⟩) (by exact hk)).trans h1⟩⟩⟩
theorem Spl16.of {c : Nat} (h : ExSt w8 wr (.slice xa xn c) xn X L) : Spl16 w8 wr xa xn X := by
  have hr := RowX.of h
  exact ⟨h.bel, hr.at_, hr.typ, fun x hx => ⟨.of (h.xs x hx).1, (h.xs x hx).2, (h.xs x hx).1.few⟩⟩
theorem Spl16.later (h : Spl16 w8 wr xa xn X) (hb : Below wr.heap.size wr w') : Spl16 w8 w' xa xn X := by
  refine ⟨h.bel.trans (hb.mono h.bel.size), h.at_.below hb, fun ad e => ?_, fun x hx => ⟨⟨fun h0 => ?_⟩, (h.num x hx).2⟩⟩
  · obtain ⟨cur, hc⟩ := h.typ ad e
    exact ⟨cur, (hb.block _ (Array.getElem?_eq_some_iff.1 hc).1).trans hc⟩
  · obtain ⟨b, o, e, ⟨cur, hc⟩, hz⟩ := (h.num x hx).1.src h0
    have hk := hb.block b (Array.getElem?_eq_some_iff.1 hc).1
    exact ⟨b, o, e, ⟨cur, hk.trans hc⟩, fun i hi => by obtain ⟨z, h1⟩ := hz i hi; exact ⟨z, (World.cell?_of_block (a := ⟨b, o + i, none⟩) (by exact hk)).trans h1⟩⟩
/-- One number is turned. -/
theorem Spl16.set (h : Spl16 w8 wr xa xn X) {b j : Nat} {cur0 : Array Value} (hb : wr.heap[b]? = some (.cells cur0 52 (0, 0))) (h8 : w8.heap.size ≤ b) (z : Int) : Spl16 w8 (wr.setCell ⟨b, j, none⟩ (.int .u32 z)) xa xn X := by
  have hk : ∀ (i : Nat) (cur : Array Value), wr.heap[i]? = some (.cells cur 38 (0, 0)) → (wr.setCell ⟨b, j, none⟩ (.int .u32 z)).heap[i]? = wr.heap[i]? := fun i cur hi => heap_setCell_other _ _ _ _ (ne_of_types hi hb (by decide))
  refine ⟨h.bel.setCell h8 _, ⟨h.at_.size, fun h0 => ?_⟩, fun ad e => ?_, fun x hx => ⟨⟨fun h0 => ?_⟩, (h.num x hx).2⟩⟩
  · obtain ⟨b2, o, e, R⟩ := h.at_.src h0
    obtain ⟨cur, hc⟩ := h.typ _ e
    exact ⟨b2, o, e, fun i y hy c v hv => (World.cell?_of_block (a := ⟨b2, o + i * 6 + c, none⟩) (by exact hk b2 cur hc)).trans (R i y hy c v hv)⟩
  · obtain ⟨cur, hc⟩ := h.typ ad e
    exact ⟨cur, (hk _ _ hc).trans hc⟩
  · obtain ⟨b2, o, e, ⟨cur, hc⟩, hz⟩ := (h.num x hx).1.src h0
    refine ⟨b2, o, e, ?_, fun i hi => someInt16 (hz i hi) ⟨b, j, none⟩ z⟩
    by_cases e2 : b2 = b
    · subst e2
      have hown : Own wr b2 52 cur := hc
      exact ⟨_, (hown.set j (.int .u32 z)).is⟩
    · exact ⟨cur, (heap_setCell_other _ _ _ _ e2).trans hc⟩
end
end Go.Proofs.YtmaiphgmnammgaaDoor
