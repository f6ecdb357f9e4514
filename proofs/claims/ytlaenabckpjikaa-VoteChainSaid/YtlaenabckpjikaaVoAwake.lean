/- Layer 18: the law's awake answers true. (Written by wip/gen_voawake.py.) -/
import Derived.Test.YtlaenabckpjikaaVoMay
import Derived.Test.YtlaenabckpjikaaVoAdd
set_option linter.unusedVariables false
set_option maxRecDepth 100000
set_option linter.unusedSimpArgs false
namespace Go.Proofs.Ytlaenabckpjikaa
open Go.RowKit Go.Sort Go.Maps

theorem RcL.one {w : World} {g : Nat} {x : Rc} (h : RcIn w x) (hb : RcB w g x) : RcL w (some ⟨g, 0, none⟩) 1 [x] := ⟨rc_lst hb, fun y hy => by rw [List.mem_singleton.1 hy]; exact h⟩
theorem RcL.nil (w : World) : RcL w none 0 [] := ⟨⟨rfl, fun h => absurd h (Nat.lt_irrefl 0)⟩, fun x hx => by cases hx⟩
/-- The world with a record laid in a block of its own. -/
def recW (w : World) (x : Rc) : World := w.alloc (.cells #[.int .u64 (x.p.last.n : Int), .int .u64 (x.p.last.e : Int), .int .i64 x.p.last.r, .int .u64 (x.p.last.m : Int), .slice x.a x.k x.c] 34)
theorem recW_below (w : World) (x : Rc) : Below w.heap.size w (recW w x) := ((Grw.refl w).alloc _).below
theorem sumP_one (x : Rc) : sumP (psL [x]) = x.p.pend.length := by unfold sumP psL; simp
theorem may_one (s : Nat) (hs : s < 18446744073709551616) (x : Rc) (w : World) (hx : RcIn w x) (hk : x.k ≤ 99999) (r : Bool) (hr : mayV s [x.p] = r) :
    Calls Try.prog 16 #[.int .u64 (s : Int), .slice (some ⟨w.heap.size, 0, none⟩) 1 1] (recW w x) fun e w' => e = .returned (.bool r) ∧ Below w.heap.size w w' := by
  subst hr
  refine (vmay (RcL.one (hx.below (recW_below w x)) (RcB.new w x)) 1 (by omega) (by rw [sumP_one, hx.len]; omega) s hs).mono ?_
  rintro e w' ⟨rfl, hb⟩
  exact ⟨rfl, (recW_below w x).trans (hb.mono (recW_below w x).size)⟩
theorem next_one (x : Rc) (w : World) (hx : RcIn w x) (hk : x.k ≤ 99999) (r : Nat) (hr : nextV [x.p] = r) :
    Calls Try.prog 18 #[.slice (some ⟨w.heap.size, 0, none⟩) 1 1] (recW w x) fun e w' => e = .returned (.int .u64 (r : Int)) ∧ Below w.heap.size w w' := by
  subst hr
  refine (vnext (RcL.one (hx.below (recW_below w x)) (RcB.new w x)) 1 (by omega) (fun y hy => by rw [List.mem_singleton.1 hy]; omega)).mono ?_
  rintro e w' ⟨rfl, hb⟩
  exact ⟨rfl, (recW_below w x).trans (hb.mono (recW_below w x).size)⟩
def v1 : Vw := ⟨1, 0, 0, 3⟩
theorem v1_ok : v1.ok := ⟨by decide, by decide, by decide, by decide, by decide⟩
theorem eq_zero18 (w : World) : (binOp .eql 31 (.agg #[.int .u64 0, .int .u64 0, .int .i64 0, .int .u64 0]) (.agg #[.int .u64 0, .int .u64 0, .int .i64 0, .int .u64 0])).run Try.prog w = .ok (.bool true) w := eql_vw zeroV zeroV w
set_option maxHeartbeats 4000000 in
theorem awake18 (w : World) : Calls Try.prog 7 #[] w fun e w' => e = .returned (.bool true) ∧ Below w.heap.size w w' := by
  obtain ⟨R, hR⟩ : ∃ R, R = firstR 3 := ⟨_, rfl⟩
  have PF : Calls Try.prog 10 #[.int .i64 3] w fun e w' => e = .returned (.agg #[.int .u64 (R.p.last.n : Int), .int .u64 (R.p.last.e : Int), .int .i64 R.p.last.r, .int .u64 (R.p.last.m : Int), .slice R.a R.k R.c]) ∧ Below w.heap.size w w' := by
    subst hR
    exact vfirst 3 w (by decide) (by decide)
  have HRI := Lib.hid (show ∀ w, RcIn w R from fun w => hR ▸ firstR_in 3 w)
  have hp : R.p = ⟨⟨0, 0, 0, 7⟩, []⟩ := by subst hR; show (⟨⟨0, 0, 0, below 3⟩, []⟩ : Rp) = _; rw [show below 3 = 7 by decide +kernel]
  have hk0 : R.k = 0 := by subst hR; rfl
  have HP := Lib.hid hp
  have HK0 := Lib.hid hk0
  clear hR hp hk0
  go_enter Try.func7, Try.ntmps7
  go_wp2_with fail
  refine PF.mono ?_
  rintro e w1 ⟨rfl, B1⟩
  clear PF
  have LA1 := recW_below w1 R
  have RB1 := Lib.hid (show RcB (recW w1 R) w1.heap.size R from RcB.new w1 R)
  have BA1 := Lib.hid (B1.trans (LA1.mono B1.size))
  have HE1 := Lib.hid (show w1.alloc (.cells #[.int .u64 (R.p.last.n : Int), .int .u64 (R.p.last.e : Int), .int .i64 R.p.last.r, .int .u64 (R.p.last.m : Int), .slice R.a R.k R.c] 34) = recW w1 R from rfl)
  clear LA1 B1
  go_upto_region 2 with fail
  rw [HE1.out]
  clear HE1
  generalize recW w1 R = w2 at *
  generalize w1.heap.size = b1 at *
  have PA : Calls Try.prog 23 #[.agg #[.int .u64 (R.p.last.n : Int), .int .u64 (R.p.last.e : Int), .int .i64 R.p.last.r, .int .u64 (R.p.last.m : Int), .slice R.a R.k R.c], .agg #[.int .u64 1, .int .u64 0, .int .i64 0, .int .u64 3]] w2 _ := vadd R v1 (HRI.out w2) v1_ok (by have := HK0.out; omega)
  go_wp2_with (first | (refine load_rc rfl (.tmp 1) rfl b1 rfl RB1.out ?_) | fail)
  refine PA.mono ?_
  rintro e w3 ⟨Y, rfl, hyp0, hyin, hyk, B3⟩
  clear PA
  have hyp : Y.p = ⟨⟨0, 0, 0, 7⟩, [v1]⟩ := by rw [hyp0, HP.out]; rfl
  clear hyp0
  have HYP := Lib.hid hyp
  have HYK := Lib.hid hyk
  have RB3 := RB1.out.later B3
  have LA3 := recW_below w3 Y
  have BA3 := BA1.out.trans (B3.mono BA1.out.size)
  have RB4 := Lib.hid (RB3.later LA3)
  have YB4 := Lib.hid (show RcB (recW w3 Y) w3.heap.size Y from RcB.new w3 Y)
  have YI4 := Lib.hid (hyin.below LA3)
  have BA4 := Lib.hid (BA3.trans (LA3.mono BA3.size))
  have HD := Lib.hid (show decide (R.k < 32) = true by rw [HK0.out]; rfl)
  rw [HD.out]
  unfold valRc encRc
  have HE3 := Lib.hid (show w3.alloc (.cells #[.int .u64 (Y.p.last.n : Int), .int .u64 (Y.p.last.e : Int), .int .i64 Y.p.last.r, .int .u64 (Y.p.last.m : Int), .slice Y.a Y.k Y.c] 34) = recW w3 Y from rfl)
  clear LA3 BA3 RB1 RB3 BA1 B3 hyp hyk hyin HD
  go_upto_region 3 with fail
  rw [HE3.out]
  clear HE3
  generalize recW w3 Y = w4 at *
  generalize w3.heap.size = b2 at *
  have PO : Calls Try.prog 24 #[.agg #[.int .u64 (Y.p.last.n : Int), .int .u64 (Y.p.last.e : Int), .int .i64 Y.p.last.r, .int .u64 (Y.p.last.m : Int), .slice Y.a Y.k Y.c], .agg #[.int .u64 1, .int .u64 0, .int .i64 0, .int .u64 3]] w4 _ := vform Y v1 YI4.out v1_ok (by have := HYK.out; have := HK0.out; omega)
  go_wp2_with (first | (refine load_rc rfl (.tmp 2) rfl b2 rfl YB4.out ?_) | fail)
  refine PO.mono ?_
  rintro e w5 ⟨Z, rfl, hzp0, hzin, hzk, B5⟩
  clear PO
  have hzp : Z.p = ⟨v1, []⟩ := by rw [hzp0, HYP.out]; show formR _ _ = _; unfold formR; congr 1
  clear hzp0
  have hz0 : Z.k = 0 := by have := hzin.len; rw [hzp] at this; exact this.symm
  have LA5 := recW_below w5 Z
  have RB6 := Lib.hid ((RB4.out.later B5).later LA5)
  have YB6 := Lib.hid ((YB4.out.later B5).later LA5)
  have ZB6 := Lib.hid (show RcB (recW w5 Z) w5.heap.size Z from RcB.new w5 Z)
  have YI6 := Lib.hid ((YI4.out.below B5).below LA5)
  have BA5 := BA4.out.trans (B5.mono BA4.out.size)
  have BA6 := Lib.hid (BA5.trans (LA5.mono BA5.size))
  have HZN := Lib.hid (show (Z.p.last.n : Int) = 1 by rw [hzp]; rfl)
  have HZK := Lib.hid hz0
  unfold valRc encRc
  have HE5 := Lib.hid (show w5.alloc (.cells #[.int .u64 (Z.p.last.n : Int), .int .u64 (Z.p.last.e : Int), .int .i64 Z.p.last.r, .int .u64 (Z.p.last.m : Int), .slice Z.a Z.k Z.c] 34) = recW w5 Z from rfl)
  clear LA5 BA5 B5 RB4 YB4 YI4 BA4 hzp hz0 hzin hzk
  go_upto_region 4 with fail
  rw [HE5.out]
  clear HE5
  generalize recW w5 Z = w6 at *
  generalize w5.heap.size = b4 at *
  have P7 := may_one 3 (by decide) R w6 (HRI.out w6) (by have := HK0.out; omega) true (by rw [HP.out]; decide +kernel)
  unfold recW at P7
  have d0 : w6.cell? ⟨b1, 0, none⟩ = some (.int .u64 (R.p.last.n : Int)) := RB6.out.own.at_ 0 _ rfl
  have d1 : w6.cell? ⟨b1, 1, none⟩ = some (.int .u64 (R.p.last.e : Int)) := RB6.out.own.at_ 1 _ rfl
  have d2 : w6.cell? ⟨b1, 2, none⟩ = some (.int .i64 R.p.last.r) := RB6.out.own.at_ 2 _ rfl
  have d3 : w6.cell? ⟨b1, 3, none⟩ = some (.int .u64 (R.p.last.m : Int)) := RB6.out.own.at_ 3 _ rfl
  have d4 : w6.cell? ⟨b1, 4, none⟩ = some (.slice R.a R.k R.c) := RB6.out.own.at_ 4 _ rfl
  go_wp2_with fail
  refine P7.mono ?_
  rintro e w7 ⟨rfl, B7⟩
  have RB7 := Lib.hid (RB6.out.later B7)
  have YB7 := Lib.hid (YB6.out.later B7)
  have ZB7 := Lib.hid (ZB6.out.later B7)
  have YI7 := Lib.hid (YI6.out.below B7)
  have BA7 := Lib.hid (BA6.out.trans (B7.mono BA6.out.size))
  clear d0 d1 d2 d3 d4 P7 B7 RB6 YB6 ZB6 YI6 BA6
  have P8 := may_one 4 (by decide) R w7 (HRI.out w7) (by have := HK0.out; omega) false (by rw [HP.out]; decide +kernel)
  unfold recW at P8
  have d0 : w7.cell? ⟨b1, 0, none⟩ = some (.int .u64 (R.p.last.n : Int)) := RB7.out.own.at_ 0 _ rfl
  have d1 : w7.cell? ⟨b1, 1, none⟩ = some (.int .u64 (R.p.last.e : Int)) := RB7.out.own.at_ 1 _ rfl
  have d2 : w7.cell? ⟨b1, 2, none⟩ = some (.int .i64 R.p.last.r) := RB7.out.own.at_ 2 _ rfl
  have d3 : w7.cell? ⟨b1, 3, none⟩ = some (.int .u64 (R.p.last.m : Int)) := RB7.out.own.at_ 3 _ rfl
  have d4 : w7.cell? ⟨b1, 4, none⟩ = some (.slice R.a R.k R.c) := RB7.out.own.at_ 4 _ rfl
  go_wp2_with fail
  refine P8.mono ?_
  rintro e w8 ⟨rfl, B8⟩
  have RB8 := Lib.hid (RB7.out.later B8)
  have YB8 := Lib.hid (YB7.out.later B8)
  have ZB8 := Lib.hid (ZB7.out.later B8)
  have YI8 := Lib.hid (YI7.out.below B8)
  have BA8 := Lib.hid (BA7.out.trans (B8.mono BA7.out.size))
  clear d0 d1 d2 d3 d4 P8 B8 RB7 YB7 ZB7 YI7 BA7
  have P9 := may_one 6 (by decide) Y w8 YI8.out (by have := HYK.out; have := HK0.out; omega) false (by rw [HYP.out]; decide +kernel)
  unfold recW at P9
  have d0 : w8.cell? ⟨b2, 0, none⟩ = some (.int .u64 (Y.p.last.n : Int)) := YB8.out.own.at_ 0 _ rfl
  have d1 : w8.cell? ⟨b2, 1, none⟩ = some (.int .u64 (Y.p.last.e : Int)) := YB8.out.own.at_ 1 _ rfl
  have d2 : w8.cell? ⟨b2, 2, none⟩ = some (.int .i64 Y.p.last.r) := YB8.out.own.at_ 2 _ rfl
  have d3 : w8.cell? ⟨b2, 3, none⟩ = some (.int .u64 (Y.p.last.m : Int)) := YB8.out.own.at_ 3 _ rfl
  have d4 : w8.cell? ⟨b2, 4, none⟩ = some (.slice Y.a Y.k Y.c) := YB8.out.own.at_ 4 _ rfl
  go_wp2_with fail
  refine P9.mono ?_
  rintro e w9 ⟨rfl, B9⟩
  have RB9 := Lib.hid (RB8.out.later B9)
  have YB9 := Lib.hid (YB8.out.later B9)
  have ZB9 := Lib.hid (ZB8.out.later B9)
  have YI9 := Lib.hid (YI8.out.below B9)
  have BA9 := Lib.hid (BA8.out.trans (B9.mono BA8.out.size))
  clear d0 d1 d2 d3 d4 P9 B9 RB8 YB8 ZB8 YI8 BA8
  have P10 := may_one 3 (by decide) Y w9 YI9.out (by have := HYK.out; have := HK0.out; omega) true (by rw [HYP.out]; decide +kernel)
  unfold recW at P10
  have d0 : w9.cell? ⟨b2, 0, none⟩ = some (.int .u64 (Y.p.last.n : Int)) := YB9.out.own.at_ 0 _ rfl
  have d1 : w9.cell? ⟨b2, 1, none⟩ = some (.int .u64 (Y.p.last.e : Int)) := YB9.out.own.at_ 1 _ rfl
  have d2 : w9.cell? ⟨b2, 2, none⟩ = some (.int .i64 Y.p.last.r) := YB9.out.own.at_ 2 _ rfl
  have d3 : w9.cell? ⟨b2, 3, none⟩ = some (.int .u64 (Y.p.last.m : Int)) := YB9.out.own.at_ 3 _ rfl
  have d4 : w9.cell? ⟨b2, 4, none⟩ = some (.slice Y.a Y.k Y.c) := YB9.out.own.at_ 4 _ rfl
  go_wp2_with fail
  refine P10.mono ?_
  rintro e w10 ⟨rfl, B10⟩
  have RB10 := Lib.hid (RB9.out.later B10)
  have YB10 := Lib.hid (YB9.out.later B10)
  have ZB10 := Lib.hid (ZB9.out.later B10)
  have YI10 := Lib.hid (YI9.out.below B10)
  have BA10 := Lib.hid (BA9.out.trans (B10.mono BA9.out.size))
  clear d0 d1 d2 d3 d4 P10 B10 RB9 YB9 ZB9 YI9 BA9
  have P11 := next_one Y w10 YI10.out (by have := HYK.out; have := HK0.out; omega) 2 (by rw [HYP.out]; decide +kernel)
  unfold recW at P11
  have d0 : w10.cell? ⟨b2, 0, none⟩ = some (.int .u64 (Y.p.last.n : Int)) := YB10.out.own.at_ 0 _ rfl
  have d1 : w10.cell? ⟨b2, 1, none⟩ = some (.int .u64 (Y.p.last.e : Int)) := YB10.out.own.at_ 1 _ rfl
  have d2 : w10.cell? ⟨b2, 2, none⟩ = some (.int .i64 Y.p.last.r) := YB10.out.own.at_ 2 _ rfl
  have d3 : w10.cell? ⟨b2, 3, none⟩ = some (.int .u64 (Y.p.last.m : Int)) := YB10.out.own.at_ 3 _ rfl
  have d4 : w10.cell? ⟨b2, 4, none⟩ = some (.slice Y.a Y.k Y.c) := YB10.out.own.at_ 4 _ rfl
  go_wp2_with fail
  refine P11.mono ?_
  rintro e w11 ⟨rfl, B11⟩
  have RB11 := Lib.hid (RB10.out.later B11)
  have YB11 := Lib.hid (YB10.out.later B11)
  have ZB11 := Lib.hid (ZB10.out.later B11)
  have YI11 := Lib.hid (YI10.out.below B11)
  have BA11 := Lib.hid (BA10.out.trans (B11.mono BA10.out.size))
  clear d0 d1 d2 d3 d4 P11 B11 RB10 YB10 ZB10 YI10 BA10
  have d0 : w11.cell? ⟨b4, 0, none⟩ = some (.int .u64 1) := by have := ZB11.out.own.at_ 0 _ rfl; rw [← HZN.out]; exact this
  have d4 : w11.cell? ⟨b4, 4, none⟩ = some (.slice Z.a 0 Z.c) := by have := ZB11.out.own.at_ 4 _ rfl; rw [← HZK.out]; exact this
  have P12 := vmay (RcL.nil w11) 0 (by decide) (by decide) 7 (by decide)
  rw [show mayV 7 (psL []) = false from mayV_nil 7] at P12
  go_wp2_with fail
  refine P12.mono ?_
  rintro e w12 ⟨rfl, B12⟩
  have BA12 := Lib.hid (BA11.out.trans (B12.mono BA11.out.size))
  have P13 := vnext (RcL.nil w12) 0 (by decide) (fun x hx => by cases hx)
  rw [show nextV (psL []) = 1 by decide] at P13
  clear P12 d0 d4
  go_wp2_with fail
  refine P13.mono ?_
  rintro e w13 ⟨rfl, B13⟩
  have BA13 := Lib.hid (BA12.out.trans (B13.mono BA12.out.size))
  have P14 : Calls Try.prog 11 #[.slice none 0 0] w13 fun e w' => e = .returned (.agg #[.int .u64 0, .int .u64 0, .int .i64 0, .int .u64 0]) ∧ Below w13.heap.size w13 w' := vlast (RcL.nil w13) 0 (by decide)
  have hq := eq_zero18
  clear P13
  go_wp2_with fail
  refine P14.mono ?_
  rintro e w14 ⟨rfl, B14⟩
  have BA14 := Lib.hid (BA13.out.trans (B14.mono BA13.out.size))
  clear P14
  go_wp2
  go_ret
  exact ⟨rfl, BA14.out⟩
end Go.Proofs.Ytlaenabckpjikaa
