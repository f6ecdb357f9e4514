/- The walk of PlanMore. (Written by gen_plmore.py.) -/
import Derived.Test.YtfocjcdfpnbkjaaPlMore
import Derived.Test.YtfocjcdfpnbkjaaSetFns
import Derived.Test.YtfocjcdfpnbkjaaOrders
import Derived.Deep.DeepCutAuto
import Derived.BigQuiet
set_option linter.unusedVariables false
set_option maxRecDepth 100000
set_option linter.unusedSimpArgs false
namespace Go.Proofs.Ytfocjcdfpnbkjaa
open Go.RowKit Go.Sort Go.Shelf Go.Maps

set_option maxHeartbeats 16000000 in
theorem more_core (me : Int) (m0 : -9223372036854775808 ≤ me) (m1 : me ≤ 9223372036854775807) (ao : Option Addr) (n c : Nat) (l : List Xg) (x : Xg) (w : World) (hl : XgL w ao n l) (hnil : ao = none → c = 0) (hx : XgIn w x ∧ x.ok) :
    Calls Try.prog 13 #[.int .i64 me, .slice ao n c, .agg (encXg x).toArray] w fun e w' => e = .returned (.bool true) ∧ Below w.heap.size w w' := by
  have B1 := ((Grw.refl w).alloc (.cells (encXg x).toArray 117)).below
  have PA := pawake (w.alloc (.cells (encXg x).toArray 117))
  have X1 := Lib.hid (XgB.new w x)
  have HB1 := Lib.hid B1
  have HL1 := Lib.hid (hl.below B1)
  have HXI1 : Hid (XgIn (w.alloc (.cells (encXg x).toArray 117)) x ∧ x.ok) := Lib.hid ⟨hx.1.below B1, hx.2⟩
  have HNIL := Lib.hid hnil
  have x0b := hx.2.w0
  have x1b := hx.2.w1
  clear hl hx hnil B1
  obtain ⟨xw, xe, xp, xa, xn, xc, cnt, kn, kp⟩ := x
  simp only at x0b x1b
  unfold encXg at *
  go_enter Try.func13, Try.ntmps13
  go_upto_region 1 with fail
  generalize w.alloc (.cells #[.int .i64 xw, .int .u64 xe, .int .i64 xp, .slice xa xn xc, .int .u64 kn, .int .i64 kp] 117) = w1 at *
  obtain ⟨xb, hxb⟩ : ∃ xb, xb = w.heap.size := ⟨_, rfl⟩
  rw [← hxb] at X1
  try rw [← hxb]
  clear hxb
  go_wp2_with fail
  refine PA.mono ?_
  rintro e w2 ⟨rfl, B2⟩
  have HB2 := Lib.hid (HB1.out.trans (B2.mono HB1.out.size))
  have X2 := Lib.hid (X1.out.below B2)
  have HL2 := Lib.hid (HL1.out.below B2)
  have HXI2 := Lib.hid (And.intro (HXI1.out.1.below B2) HXI1.out.2)
  have PF := pfew HL2.out c
  have c3 : w2.cell? ⟨xb, 3, none⟩ = some (.slice xa xn xc) := X2.out.own.at_ 3 _ rfl
  clear PA B2 HB1 X1 HL1 HXI1
  go_wp2_with fail
  refine PF.mono ?_
  rintro e w' ⟨h2, rfl⟩
  clear PF
  rcases h2 with rfl | ⟨rfl, hn⟩
  · go_wp2
    go_ret
    exact ⟨rfl, HB2.out⟩
  cases hc : decide ((1000 : Int) < (xn : Int)) with
  | true =>
    go_wp2
    go_ret
    exact ⟨rfl, HB2.out⟩
  | false =>
    have PN := pnew HL2.out c (by omega) me m0 m1

    go_wp2_with fail
    refine PN.mono ?_
    rintro e w5 hs
    obtain ⟨o1, b1, rfl, B5, hf⟩ := hs.form
    have HB5 := Lib.hid (HB2.out.trans (B5.mono HB2.out.size))
    have X5 := Lib.hid (X2.out.below B5)
    have HL5 := Lib.hid (HL2.out.below B5)
    have HXI5 := Lib.hid (And.intro (HXI2.out.1.below B5) HXI2.out.2)
    have HF := Lib.hid hf
    clear PN B5 HB2 X2 HL2 HXI2 hs hf c3 hc
    go_upto_region 6 with fail
    go_cut [9, 10] from 30 to 40 (fun s9 s10 wx => ∃ (o2 : Option Addr) (b2 : Bool), s9 = .pointer o2 ∧ s10 = .bool b2 ∧ Below w5.heap.size w5 wx ∧ (o2 = none ∧ b2 = false ∨ ∃ (g : Nat) (y : Xg), o2 = some ⟨g, 0, none⟩ ∧ b2 = true ∧ HasPlan (l ++ [⟨xw, xe, xp, xa, xn, xc, cnt, ⟨kn, kp⟩⟩]) me y ∧ PlB wx g (planL (compL y (l ++ [⟨xw, xe, xp, xa, xn, xc, cnt, ⟨kn, kp⟩⟩])))))
    case first =>
      have D6 := Lib.hid (Grw.refl w5).drew.below
      have HS6 := Lib.hid (X5.out.below D6.out)
      have HL6 := Lib.hid (HL5.out.below D6.out)
      have HXI6 : Hid (XgIn w5.drew ⟨xw, xe, xp, xa, xn, xc, cnt, ⟨kn, kp⟩⟩ ∧ Xg.ok ⟨xw, xe, xp, xa, xn, xc, cnt, ⟨kn, kp⟩⟩) := Lib.hid ⟨HXI5.out.1.below D6.out, HXI5.out.2⟩
      clear HF HB5 X5 HL5 HXI5
      refine wp_region_held_drew (S := fun w' => XgB w' xb ⟨xw, xe, xp, xa, xn, xc, cnt, ⟨kn, kp⟩⟩) (by kernel_rfl) HS6.out (fun hHeld => ?_)
      generalize w5.drew = w6 at *
      have L6 := Below.refl w6.heap.size w6
      refine stake (i := 0) (v := (.int .i64 me)) 31 rfl (by kernel_rfl) (by kernel_rfl) (by kernel_rfl) (by kernel_rfl) (fun _ _ _ h => h) (.inl ⟨by kernel_rfl, fun w' hS => by (go_simp)⟩) hHeld ?_
      (try simp only [Act.put, List.setIfInBounds_toArray, List.set_cons_zero, List.set_cons_succ])
      refine stake (i := 2) (v := (.slice ao n c)) 33 rfl (by kernel_rfl) (by kernel_rfl) (by kernel_rfl) (by kernel_rfl) (fun _ _ _ h => h) (.inl ⟨by kernel_rfl, fun w' hS => by (go_simp)⟩) hHeld ?_
      (try simp only [Act.put, List.setIfInBounds_toArray, List.set_cons_zero, List.set_cons_succ])
      refine stake (i := 4) (v := (.agg #[.int .i64 xw, .int .u64 xe, .int .i64 xp, .slice xa xn xc, .int .u64 kn, .int .i64 kp])) 35 rfl (by kernel_rfl) (by kernel_rfl) (by kernel_rfl) (by kernel_rfl) (fun _ _ _ h => h) (yields_xgm (m := ⟨xw, xe, xp, xa, xn, xc, cnt, ⟨kn, kp⟩⟩) (by kernel_rfl) (.tmp 5) rfl xb 0 (by kernel_rfl) (fun w hS => xgb_range hS)) hHeld ?_
      (try simp only [Act.put, List.setIfInBounds_toArray, List.set_cons_zero, List.set_cons_succ])
      refine wpAnyH_ready (rs := [1, 5]) (by kernel_rfl) (by simp) (AllReadyH.cons rfl (fun K hK => ?_) (AllReadyH.cons rfl (fun K hK => ?_) AllReadyH.nil))
      · clear hHeld
        rw [if_pos (by kernel_rfl)]
        go_simp
        have R7 := World.ownsRow_made (e := 117) (size := 6) w6 #[] 0 (Nat.le_refl _) (Nat.zero_le _) (by simp)
        have G7 := ((Grw.refl w6).alloc (.cells #[] 117)).below
        obtain ⟨nb, hnb⟩ : ∃ nb, nb = w6.heap.size := ⟨_, rfl⟩
        rw [← hnb] at R7
        try rw [← hnb]
        have hnb2 : nb < (w6.alloc (.cells #[] 117)).heap.size := by rw [hnb]; simp
        have hb6 : w6.heap.size ≤ nb := by rw [hnb]; exact L6.size
        generalize (w6.alloc (.cells #[] 117)) = w7 at *
        have L7 := L6.trans (G7.mono L6.size)
        clear hnb
        refine hK.out _ _ (HS6.out.below L7) (fun hHeld => ?_)
        clear hK K
        (try simp only [Act.put, List.setIfInBounds_toArray, List.set_cons_zero, List.set_cons_succ])
        refine wpAnyH_ready (rs := [3, 5]) (by kernel_rfl) (by simp) (AllReadyH.cons rfl (fun K hK => ?_) (AllReadyH.cons rfl (fun K hK => ?_) AllReadyH.nil))
        · clear hHeld
          rw [if_pos (by kernel_rfl)]
          refine wp_append_xg w7 (.tmp 32) (.tmp 33) rfl nb (.slice (some ⟨nb, 0, none⟩) 0 0) 0 [] rfl R7 ao n c l rfl HNIL.out ((HL6.out.below L7).at_) (by omega) (by omega) ?_
          intro v8 w8 R8 G8
          have L8 := L7.grown G8 (by have := L7.size; omega) (fun j hj => by have := own_behind R7 j hj; omega)
          have hsz8 := G8.size
          refine hK.out _ _ (HS6.out.below L8) (fun hHeld => ?_)
          clear hK K
          (try simp only [Act.put, List.setIfInBounds_toArray, List.set_cons_zero, List.set_cons_succ])
          refine wpAnyH_ready (rs := [5]) (by kernel_rfl) (by simp) (AllReadyH.cons rfl (fun K hK => ?_) AllReadyH.nil)
          clear hHeld
          rw [if_pos (by kernel_rfl)]
          go_simp
          have X9 : XgB (w8.alloc (.cells #[.int .i64 xw, .int .u64 xe, .int .i64 xp, .slice xa xn xc, .int .u64 kn, .int .i64 kp] 117)) w8.heap.size ⟨xw, xe, xp, xa, xn, xc, cnt, ⟨kn, kp⟩⟩ := XgB.new w8 ⟨xw, xe, xp, xa, xn, xc, cnt, ⟨kn, kp⟩⟩
          have G9 := ((Grw.refl w8).alloc (.cells #[.int .i64 xw, .int .u64 xe, .int .i64 xp, .slice xa xn xc, .int .u64 kn, .int .i64 kp] 117)).below
          have R9 := R8.alloc (.cells #[.int .i64 xw, .int .u64 xe, .int .i64 xp, .slice xa xn xc, .int .u64 kn, .int .i64 kp] 117)
          have hlt8 := R8.lt
          obtain ⟨cb, hcbe⟩ : ∃ cb, cb = w8.heap.size := ⟨_, rfl⟩
          rw [← hcbe] at X9
          try rw [← hcbe]
          have hcb : nb < cb := by rw [hcbe]; omega
          have hnb3 : nb ≤ (w8.alloc (.cells #[.int .i64 xw, .int .u64 xe, .int .i64 xp, .slice xa xn xc, .int .u64 kn, .int .i64 kp] 117)).heap.size := by have := G9.size; omega
          have L9 := L8.trans (G9.mono L8.size)
          generalize (w8.alloc (.cells #[.int .i64 xw, .int .u64 xe, .int .i64 xp, .slice xa xn xc, .int .u64 kn, .int .i64 kp] 117)) = w9 at *
          clear hcbe
          refine hK.out _ _ (HS6.out.below L9) (fun hHeld => ?_)
          clear hK K
          (try simp only [Act.put, List.setIfInBounds_toArray, List.set_cons_zero, List.set_cons_succ])
          refine wpAnyH_ready (rs := [6]) (by kernel_rfl) (by simp) (AllReadyH.cons rfl (fun K hK => ?_) AllReadyH.nil)
          clear hHeld
          rw [if_pos (by kernel_rfl)]
          refine wp_append_xg w9 (.tmp 34) (.tmp 36) rfl nb v8 (0 + n) _ rfl R9 (some ⟨cb, 0, none⟩) 1 1 [⟨xw, xe, xp, xa, xn, xc, cnt, ⟨kn, kp⟩⟩] rfl (fun e => by cases e) (lst_xg1 X9) (by omega) (by omega) ?_
          intro vz wz RZ GZ
          have LZ := L9.grown GZ (by have := L9.size; omega) (fun j hj => by have := own_behind R9 j hj; omega)
          obtain ⟨za, zc, rfl⟩ := own_form' (own_eq RZ (show 0 + n + 1 = n + 1 by omega) rfl)
          have XL := Lib.hid (more_xl HL6.out HXI6.out LZ (own_eq (n' := n + 1) (xs' := flat encXg (l ++ [⟨xw, xe, xp, xa, xn, xc, cnt, ⟨kn, kp⟩⟩])) RZ (by omega) (by rw [flat_append, List.nil_append])))
          refine hK.out _ _ (HS6.out.below LZ) (fun hHeld => ?_)
          clear hK K
          (try simp only [Act.put, List.setIfInBounds_toArray, List.set_cons_zero, List.set_cons_succ])
          refine wpAnyH_ready (rs := [7]) (by kernel_rfl) (by simp) (AllReadyH.cons rfl (fun K hK => ?_) AllReadyH.nil)
          clear hHeld
          rw [if_pos (by kernel_rfl)]
          go_simp
          refine (pnew XL.out zc (by omega) me m0 m1).mono ?_
          rintro e we hs
          obtain ⟨o2, b2, rfl, B2, hf⟩ := hs.form
          refine hK.out _ _ ((HS6.out.below LZ).below B2) (fun hHeld => ?_)
          clear hK K
          (try simp only [Act.put, List.setIfInBounds_toArray, List.set_cons_zero, List.set_cons_succ])
          refine stake (i := 8) (v := (.tuple #[.pointer o2, .bool b2])) 30 rfl (by kernel_rfl) (by kernel_rfl) (by kernel_rfl) (by kernel_rfl) (fun _ _ _ h => h) (.inl ⟨by kernel_rfl, fun w' hS => by (go_simp)⟩) hHeld ?_
          (try simp only [Act.put, List.setIfInBounds_toArray, List.set_cons_zero, List.set_cons_succ])
          refine stake (i := 9) (v := (.pointer o2)) 39 rfl (by kernel_rfl) (by kernel_rfl) (by kernel_rfl) (by kernel_rfl) (fun _ _ _ h => h) (.inl ⟨by kernel_rfl, fun w' hS => by (go_simp)⟩) hHeld ?_
          (try simp only [Act.put, List.setIfInBounds_toArray, List.set_cons_zero, List.set_cons_succ])
          refine stake (i := 10) (v := (.bool b2)) 40 rfl (by kernel_rfl) (by kernel_rfl) (by kernel_rfl) (by kernel_rfl) (fun _ _ _ h => h) (.inl ⟨by kernel_rfl, fun w' hS => by (go_simp)⟩) hHeld ?_
          (try simp only [Act.put, List.setIfInBounds_toArray, List.set_cons_zero, List.set_cons_succ])
          refine stake (i := 11) (v := (.pointer o2)) 9 rfl (by kernel_rfl) (by kernel_rfl) (by kernel_rfl) (by kernel_rfl) (fun _ _ _ h => h) (.inl ⟨by kernel_rfl, fun w' hS => by (go_simp)⟩) hHeld ?_
          (try simp only [Act.put, List.setIfInBounds_toArray, List.set_cons_zero, List.set_cons_succ])
          refine stake (i := 12) (v := (.bool b2)) 10 rfl (by kernel_rfl) (by kernel_rfl) (by kernel_rfl) (by kernel_rfl) (fun _ _ _ h => h) (.inl ⟨by kernel_rfl, fun w' hS => by (go_simp)⟩) hHeld ?_
          (try simp only [Act.put, List.setIfInBounds_toArray, List.set_cons_zero, List.set_cons_succ])
          refine wpAnyH_done (by kernel_rfl) ?_ _
          clear hHeld
          have HB := Lib.hid (D6.out.trans ((LZ.trans (B2.mono LZ.size)).mono D6.out.size))
          have HF := Lib.hid hf
          go_wp2_with fail
          go_meet
          exact ⟨o2, b2, rfl, rfl, HB.out, HF.out⟩
        · clear hHeld
          rw [if_pos (by kernel_rfl)]
          go_simp
          have X8 : XgB (w7.alloc (.cells #[.int .i64 xw, .int .u64 xe, .int .i64 xp, .slice xa xn xc, .int .u64 kn, .int .i64 kp] 117)) w7.heap.size ⟨xw, xe, xp, xa, xn, xc, cnt, ⟨kn, kp⟩⟩ := XgB.new w7 ⟨xw, xe, xp, xa, xn, xc, cnt, ⟨kn, kp⟩⟩
          have G8 := ((Grw.refl w7).alloc (.cells #[.int .i64 xw, .int .u64 xe, .int .i64 xp, .slice xa xn xc, .int .u64 kn, .int .i64 kp] 117)).below
          have R8 := R7.alloc (.cells #[.int .i64 xw, .int .u64 xe, .int .i64 xp, .slice xa xn xc, .int .u64 kn, .int .i64 kp] 117)
          have hlt7 := R7.lt
          obtain ⟨cb, hcbe⟩ : ∃ cb, cb = w7.heap.size := ⟨_, rfl⟩
          rw [← hcbe] at X8
          try rw [← hcbe]
          have hcb : nb < cb := by rw [hcbe]; exact (hlt7 nb rfl).2
          have hnb3 : nb ≤ (w7.alloc (.cells #[.int .i64 xw, .int .u64 xe, .int .i64 xp, .slice xa xn xc, .int .u64 kn, .int .i64 kp] 117)).heap.size := by have := G8.size; omega
          have L8 := L7.trans (G8.mono L7.size)
          generalize (w7.alloc (.cells #[.int .i64 xw, .int .u64 xe, .int .i64 xp, .slice xa xn xc, .int .u64 kn, .int .i64 kp] 117)) = w8 at *
          clear hcbe
          refine hK.out _ _ (HS6.out.below L8) (fun hHeld => ?_)
          clear hK K
          (try simp only [Act.put, List.setIfInBounds_toArray, List.set_cons_zero, List.set_cons_succ])
          refine wpAnyH_ready (rs := [3]) (by kernel_rfl) (by simp) (AllReadyH.cons rfl (fun K hK => ?_) AllReadyH.nil)
          clear hHeld
          rw [if_pos (by kernel_rfl)]
          refine wp_append_xg w8 (.tmp 32) (.tmp 33) rfl nb (.slice (some ⟨nb, 0, none⟩) 0 0) 0 [] rfl R8 ao n c l rfl HNIL.out ((HL6.out.below L8).at_) (by omega) (by omega) ?_
          intro v9 w9 R9 G9
          have L9 := L8.grown G9 (by have := L8.size; omega) (fun j hj => by have := own_behind R8 j hj; omega)
          have hsz9 := G9.size
          have X9 := X8.kept (G9.block cb (Own.lt X8) (fun e => by simp [Value.ownBlock] at e; omega))
          refine hK.out _ _ (HS6.out.below L9) (fun hHeld => ?_)
          clear hK K
          (try simp only [Act.put, List.setIfInBounds_toArray, List.set_cons_zero, List.set_cons_succ])
          refine wpAnyH_ready (rs := [6]) (by kernel_rfl) (by simp) (AllReadyH.cons rfl (fun K hK => ?_) AllReadyH.nil)
          clear hHeld
          rw [if_pos (by kernel_rfl)]
          refine wp_append_xg w9 (.tmp 34) (.tmp 36) rfl nb v9 (0 + n) _ rfl R9 (some ⟨cb, 0, none⟩) 1 1 [⟨xw, xe, xp, xa, xn, xc, cnt, ⟨kn, kp⟩⟩] rfl (fun e => by cases e) (lst_xg1 X9) (by omega) (by omega) ?_
          intro vz wz RZ GZ
          have LZ := L9.grown GZ (by have := L9.size; omega) (fun j hj => by have := own_behind R9 j hj; omega)
          obtain ⟨za, zc, rfl⟩ := own_form' (own_eq RZ (show 0 + n + 1 = n + 1 by omega) rfl)
          have XL := Lib.hid (more_xl HL6.out HXI6.out LZ (own_eq (n' := n + 1) (xs' := flat encXg (l ++ [⟨xw, xe, xp, xa, xn, xc, cnt, ⟨kn, kp⟩⟩])) RZ (by omega) (by rw [flat_append, List.nil_append])))
          refine hK.out _ _ (HS6.out.below LZ) (fun hHeld => ?_)
          clear hK K
          (try simp only [Act.put, List.setIfInBounds_toArray, List.set_cons_zero, List.set_cons_succ])
          refine wpAnyH_ready (rs := [7]) (by kernel_rfl) (by simp) (AllReadyH.cons rfl (fun K hK => ?_) AllReadyH.nil)
          clear hHeld
          rw [if_pos (by kernel_rfl)]
          go_simp
          refine (pnew XL.out zc (by omega) me m0 m1).mono ?_
          rintro e we hs
          obtain ⟨o2, b2, rfl, B2, hf⟩ := hs.form
          refine hK.out _ _ ((HS6.out.below LZ).below B2) (fun hHeld => ?_)
          clear hK K
          (try simp only [Act.put, List.setIfInBounds_toArray, List.set_cons_zero, List.set_cons_succ])
          refine stake (i := 8) (v := (.tuple #[.pointer o2, .bool b2])) 30 rfl (by kernel_rfl) (by kernel_rfl) (by kernel_rfl) (by kernel_rfl) (fun _ _ _ h => h) (.inl ⟨by kernel_rfl, fun w' hS => by (go_simp)⟩) hHeld ?_
          (try simp only [Act.put, List.setIfInBounds_toArray, List.set_cons_zero, List.set_cons_succ])
          refine stake (i := 9) (v := (.pointer o2)) 39 rfl (by kernel_rfl) (by kernel_rfl) (by kernel_rfl) (by kernel_rfl) (fun _ _ _ h => h) (.inl ⟨by kernel_rfl, fun w' hS => by (go_simp)⟩) hHeld ?_
          (try simp only [Act.put, List.setIfInBounds_toArray, List.set_cons_zero, List.set_cons_succ])
          refine stake (i := 10) (v := (.bool b2)) 40 rfl (by kernel_rfl) (by kernel_rfl) (by kernel_rfl) (by kernel_rfl) (fun _ _ _ h => h) (.inl ⟨by kernel_rfl, fun w' hS => by (go_simp)⟩) hHeld ?_
          (try simp only [Act.put, List.setIfInBounds_toArray, List.set_cons_zero, List.set_cons_succ])
          refine stake (i := 11) (v := (.pointer o2)) 9 rfl (by kernel_rfl) (by kernel_rfl) (by kernel_rfl) (by kernel_rfl) (fun _ _ _ h => h) (.inl ⟨by kernel_rfl, fun w' hS => by (go_simp)⟩) hHeld ?_
          (try simp only [Act.put, List.setIfInBounds_toArray, List.set_cons_zero, List.set_cons_succ])
          refine stake (i := 12) (v := (.bool b2)) 10 rfl (by kernel_rfl) (by kernel_rfl) (by kernel_rfl) (by kernel_rfl) (fun _ _ _ h => h) (.inl ⟨by kernel_rfl, fun w' hS => by (go_simp)⟩) hHeld ?_
          (try simp only [Act.put, List.setIfInBounds_toArray, List.set_cons_zero, List.set_cons_succ])
          refine wpAnyH_done (by kernel_rfl) ?_ _
          clear hHeld
          have HB := Lib.hid (D6.out.trans ((LZ.trans (B2.mono LZ.size)).mono D6.out.size))
          have HF := Lib.hid hf
          go_wp2_with fail
          go_meet
          exact ⟨o2, b2, rfl, rfl, HB.out, HF.out⟩
      · clear hHeld
        rw [if_pos (by kernel_rfl)]
        go_simp
        have X7 : XgB (w6.alloc (.cells #[.int .i64 xw, .int .u64 xe, .int .i64 xp, .slice xa xn xc, .int .u64 kn, .int .i64 kp] 117)) w6.heap.size ⟨xw, xe, xp, xa, xn, xc, cnt, ⟨kn, kp⟩⟩ := XgB.new w6 ⟨xw, xe, xp, xa, xn, xc, cnt, ⟨kn, kp⟩⟩
        have G7 := ((Grw.refl w6).alloc (.cells #[.int .i64 xw, .int .u64 xe, .int .i64 xp, .slice xa xn xc, .int .u64 kn, .int .i64 kp] 117)).below
        obtain ⟨cb, hcbe⟩ : ∃ cb, cb = w6.heap.size := ⟨_, rfl⟩
        rw [← hcbe] at X7
        try rw [← hcbe]
        have L7 := L6.trans (G7.mono L6.size)
        generalize (w6.alloc (.cells #[.int .i64 xw, .int .u64 xe, .int .i64 xp, .slice xa xn xc, .int .u64 kn, .int .i64 kp] 117)) = w7 at *
        clear hcbe
        refine hK.out _ _ (HS6.out.below L7) (fun hHeld => ?_)
        clear hK K
        (try simp only [Act.put, List.setIfInBounds_toArray, List.set_cons_zero, List.set_cons_succ])
        refine wpAnyH_ready (rs := [1]) (by kernel_rfl) (by simp) (AllReadyH.cons rfl (fun K hK => ?_) AllReadyH.nil)
        clear hHeld
        rw [if_pos (by kernel_rfl)]
        go_simp
        have R8 := World.ownsRow_made (e := 117) (size := 6) w7 #[] 0 (Nat.le_refl _) (Nat.zero_le _) (by simp)
        have G8 := ((Grw.refl w7).alloc (.cells #[] 117)).below
        obtain ⟨nb, hnb⟩ : ∃ nb, nb = w7.heap.size := ⟨_, rfl⟩
        rw [← hnb] at R8
        try rw [← hnb]
        have hcb : cb < nb := by rw [hnb]; exact Own.lt X7
        have hnb2 : nb < (w7.alloc (.cells #[] 117)).heap.size := by rw [hnb]; simp
        have hb6 : w6.heap.size ≤ nb := by rw [hnb]; exact L7.size
        generalize (w7.alloc (.cells #[] 117)) = w8 at *
        have L8 := L7.trans (G8.mono L7.size)
        have X8 := X7.below G8
        clear hnb
        refine hK.out _ _ (HS6.out.below L8) (fun hHeld => ?_)
        clear hK K
        (try simp only [Act.put, List.setIfInBounds_toArray, List.set_cons_zero, List.set_cons_succ])
        refine wpAnyH_ready (rs := [3]) (by kernel_rfl) (by simp) (AllReadyH.cons rfl (fun K hK => ?_) AllReadyH.nil)
        clear hHeld
        rw [if_pos (by kernel_rfl)]
        refine wp_append_xg w8 (.tmp 32) (.tmp 33) rfl nb (.slice (some ⟨nb, 0, none⟩) 0 0) 0 [] rfl R8 ao n c l rfl HNIL.out ((HL6.out.below L8).at_) (by omega) (by omega) ?_
        intro v9 w9 R9 G9
        have L9 := L8.grown G9 (by have := L8.size; omega) (fun j hj => by have := own_behind R8 j hj; omega)
        have hsz9 := G9.size
        have X9 := X8.kept (G9.block cb (Own.lt X8) (fun e => by simp [Value.ownBlock] at e; omega))
        refine hK.out _ _ (HS6.out.below L9) (fun hHeld => ?_)
        clear hK K
        (try simp only [Act.put, List.setIfInBounds_toArray, List.set_cons_zero, List.set_cons_succ])
        refine wpAnyH_ready (rs := [6]) (by kernel_rfl) (by simp) (AllReadyH.cons rfl (fun K hK => ?_) AllReadyH.nil)
        clear hHeld
        rw [if_pos (by kernel_rfl)]
        refine wp_append_xg w9 (.tmp 34) (.tmp 36) rfl nb v9 (0 + n) _ rfl R9 (some ⟨cb, 0, none⟩) 1 1 [⟨xw, xe, xp, xa, xn, xc, cnt, ⟨kn, kp⟩⟩] rfl (fun e => by cases e) (lst_xg1 X9) (by omega) (by omega) ?_
        intro vz wz RZ GZ
        have LZ := L9.grown GZ (by have := L9.size; omega) (fun j hj => by have := own_behind R9 j hj; omega)
        obtain ⟨za, zc, rfl⟩ := own_form' (own_eq RZ (show 0 + n + 1 = n + 1 by omega) rfl)
        have XL := Lib.hid (more_xl HL6.out HXI6.out LZ (own_eq (n' := n + 1) (xs' := flat encXg (l ++ [⟨xw, xe, xp, xa, xn, xc, cnt, ⟨kn, kp⟩⟩])) RZ (by omega) (by rw [flat_append, List.nil_append])))
        refine hK.out _ _ (HS6.out.below LZ) (fun hHeld => ?_)
        clear hK K
        (try simp only [Act.put, List.setIfInBounds_toArray, List.set_cons_zero, List.set_cons_succ])
        refine wpAnyH_ready (rs := [7]) (by kernel_rfl) (by simp) (AllReadyH.cons rfl (fun K hK => ?_) AllReadyH.nil)
        clear hHeld
        rw [if_pos (by kernel_rfl)]
        go_simp
        refine (pnew XL.out zc (by omega) me m0 m1).mono ?_
        rintro e we hs
        obtain ⟨o2, b2, rfl, B2, hf⟩ := hs.form
        refine hK.out _ _ ((HS6.out.below LZ).below B2) (fun hHeld => ?_)
        clear hK K
        (try simp only [Act.put, List.setIfInBounds_toArray, List.set_cons_zero, List.set_cons_succ])
        refine stake (i := 8) (v := (.tuple #[.pointer o2, .bool b2])) 30 rfl (by kernel_rfl) (by kernel_rfl) (by kernel_rfl) (by kernel_rfl) (fun _ _ _ h => h) (.inl ⟨by kernel_rfl, fun w' hS => by (go_simp)⟩) hHeld ?_
        (try simp only [Act.put, List.setIfInBounds_toArray, List.set_cons_zero, List.set_cons_succ])
        refine stake (i := 9) (v := (.pointer o2)) 39 rfl (by kernel_rfl) (by kernel_rfl) (by kernel_rfl) (by kernel_rfl) (fun _ _ _ h => h) (.inl ⟨by kernel_rfl, fun w' hS => by (go_simp)⟩) hHeld ?_
        (try simp only [Act.put, List.setIfInBounds_toArray, List.set_cons_zero, List.set_cons_succ])
        refine stake (i := 10) (v := (.bool b2)) 40 rfl (by kernel_rfl) (by kernel_rfl) (by kernel_rfl) (by kernel_rfl) (fun _ _ _ h => h) (.inl ⟨by kernel_rfl, fun w' hS => by (go_simp)⟩) hHeld ?_
        (try simp only [Act.put, List.setIfInBounds_toArray, List.set_cons_zero, List.set_cons_succ])
        refine stake (i := 11) (v := (.pointer o2)) 9 rfl (by kernel_rfl) (by kernel_rfl) (by kernel_rfl) (by kernel_rfl) (fun _ _ _ h => h) (.inl ⟨by kernel_rfl, fun w' hS => by (go_simp)⟩) hHeld ?_
        (try simp only [Act.put, List.setIfInBounds_toArray, List.set_cons_zero, List.set_cons_succ])
        refine stake (i := 12) (v := (.bool b2)) 10 rfl (by kernel_rfl) (by kernel_rfl) (by kernel_rfl) (by kernel_rfl) (fun _ _ _ h => h) (.inl ⟨by kernel_rfl, fun w' hS => by (go_simp)⟩) hHeld ?_
        (try simp only [Act.put, List.setIfInBounds_toArray, List.set_cons_zero, List.set_cons_succ])
        refine wpAnyH_done (by kernel_rfl) ?_ _
        clear hHeld
        have HB := Lib.hid (D6.out.trans ((LZ.trans (B2.mono LZ.size)).mono D6.out.size))
        have HF := Lib.hid hf
        go_wp2_with fail
        go_meet
        exact ⟨o2, b2, rfl, rfl, HB.out, HF.out⟩
    case rest =>
      obtain ⟨o2, b2, rfl, rfl, hbw, hf2⟩ := hcut
      have HBW := Lib.hid (HB5.out.trans (hbw.mono HB5.out.size))
      have XW := Lib.hid (X5.out.below hbw)
      rcases HF.out with ⟨rfl, rfl⟩ | ⟨gp, y, rfl, rfl, hp, hpb⟩
      · go_wp2
        go_ret
        exact ⟨rfl, HBW.out⟩
      rcases hf2 with ⟨rfl, rfl⟩ | ⟨gq, y', rfl, rfl, hq, hqb⟩
      · go_wp2
        go_ret
        exact ⟨rfl, HBW.out⟩
      obtain ⟨b, hm⟩ := more_is hp hq
      have hpw := hpb.below hbw
      generalize planL (compL y l) = PP at *
      generalize planL (compL y' (l ++ [⟨xw, xe, xp, xa, xn, xc, cnt, ⟨kn, kp⟩⟩])) = QQ at *
      have HM := Lib.hid hm
      have HPW := Lib.hid hpw
      have HQW := Lib.hid hqb
      clear HF hp hpb hpw hq hqb hm hbw HB5 X5 HL5 HXI5 HNIL
      have c0 : wc.cell? ⟨xb, 0, none⟩ = some (.int .i64 xw) := XW.out.own.at_ 0 _ rfl
      have PC := fun n' => pcomp (HQW.out.below ((Grw.refl wc).drewN n').below)
      have PH := fun n' => has_any QQ.cs xw (wc.drewN n') HM.out.cq x0b x1b
      simp only [HM.out.wi] at PH
      go_upto_region 9 with fail
      go_quiet ((first
        | (go_at_call 44; exact Calls.quiet_of_same ((PC _).mono fun _ _ ⟨he, hw⟩ => ⟨he, hw.symm⟩))
        | (go_at_call 57; exact Calls.quiet_of_same ((PH _).mono fun _ _ ⟨he, hw⟩ => ⟨he, hw.symm⟩))))
      have D9 := ((Grw.refl wc).drewN nq).below
      have HB9 := Lib.hid (HBW.out.trans (D9.mono HBW.out.size))
      have X9 := Lib.hid (XW.out.below D9)
      have HP9 := Lib.hid (HPW.out.below D9)
      have HQ9 := Lib.hid (HQW.out.below D9)
      clear D9 HBW XW HPW HQW c0 PC PH
      generalize wc.drewN nq = w9 at *
      go_upto_region 10 with fail
      go_cut [76] from 60 to 76 (fun s76 wx => s76 = .bool false ∧ Below w9.heap.size w9 wx)
      case first =>
        have D10 := Lib.hid (Grw.refl w9).drew.below
        have HS10 := Lib.hid (X9.out.below D10.out)
        have HP10 := Lib.hid (HP9.out.below D10.out)
        have HQ10 := Lib.hid (HQ9.out.below D10.out)
        have hky := HM.out.ky
        clear HP9 HQ9 X9 HB9
        refine wp_region_held_drew (S := fun w' => XgB w' xb ⟨xw, xe, xp, xa, xn, xc, cnt, ⟨kn, kp⟩⟩) (by kernel_rfl) HS10.out (fun hHeld => ?_)
        generalize w9.drew = w10 at *
        have L10 := Below.refl w10.heap.size w10
        refine stake (i := 0) (v := (.pointer (some ⟨gq, 0, none⟩))) 60 rfl (by kernel_rfl) (by kernel_rfl) (by kernel_rfl) (by kernel_rfl) (fun _ _ _ h => h) (.inl ⟨by kernel_rfl, fun w' hS => by (go_simp)⟩) hHeld ?_
        (try simp only [Act.put, List.setIfInBounds_toArray, List.set_cons_zero, List.set_cons_succ])
        refine stake (i := 2) (v := (.pointer (some ⟨xb, 0, none⟩))) 62 rfl (by kernel_rfl) (by kernel_rfl) (by kernel_rfl) (by kernel_rfl) (fun _ _ _ h => h) (.inl ⟨by kernel_rfl, fun w' hS => by (go_simp)⟩) hHeld ?_
        (try simp only [Act.put, List.setIfInBounds_toArray, List.set_cons_zero, List.set_cons_succ])
        refine stake (i := 3) (v := (.int .i64 xw)) 63 rfl (by kernel_rfl) (by kernel_rfl) (by kernel_rfl) (by kernel_rfl) (fun _ _ _ h => h) (.inl ⟨by kernel_rfl, fun w' hS => by (have c0 : w'.cell? ⟨xb, 0, none⟩ = some (.int .i64 xw) := hS.own.at_ 0 _ rfl); go_simp⟩) hHeld ?_
        (try simp only [Act.put, List.setIfInBounds_toArray, List.set_cons_zero, List.set_cons_succ])
        refine stake (i := 6) (v := (.pointer (some ⟨gp, 0, none⟩))) 66 rfl (by kernel_rfl) (by kernel_rfl) (by kernel_rfl) (by kernel_rfl) (fun _ _ _ h => h) (.inl ⟨by kernel_rfl, fun w' hS => by (go_simp)⟩) hHeld ?_
        (try simp only [Act.put, List.setIfInBounds_toArray, List.set_cons_zero, List.set_cons_succ])
        refine wpAnyH_ready (rs := [1, 4]) (by kernel_rfl) (by simp) (AllReadyH.cons rfl (fun K hK => ?_) (AllReadyH.cons rfl (fun K hK => ?_) AllReadyH.nil))
        · clear hHeld
          rw [if_pos (by kernel_rfl)]
          go_simp
          refine (pcomp (HQ10.out.below L10)).mono ?_
          rintro e w' ⟨rfl, rfl⟩
          refine hK.out _ _ (HS10.out.below L10) (fun hHeld => ?_)
          clear hK K
          (try simp only [Act.put, List.setIfInBounds_toArray, List.set_cons_zero, List.set_cons_succ])
          refine wpAnyH_ready (rs := [4]) (by kernel_rfl) (by simp) (AllReadyH.cons rfl (fun K hK => ?_) AllReadyH.nil)
          clear hHeld
          rw [if_pos (by kernel_rfl)]
          go_simp
          have I11 := in_one w10 xw x0b x1b
          have G11 := ((Grw.refl w10).alloc (.cells #[.int .i64 xw] 3)).below
          have L11 := L10.trans (G11.mono L10.size)
          generalize w10.heap.size = ib at I11 ⊢
          generalize w10.alloc (.cells #[.int .i64 xw] 3) = w11 at *
          refine hK.out _ _ (HS10.out.below L11) (fun hHeld => ?_)
          clear hK K
          (try simp only [Act.put, List.setIfInBounds_toArray, List.set_cons_zero, List.set_cons_succ])
          refine wpAnyH_ready (rs := [5]) (by kernel_rfl) (by simp) (AllReadyH.cons rfl (fun K hK => ?_) AllReadyH.nil)
          clear hHeld
          rw [if_pos (by kernel_rfl)]
          go_simp
          have PL := less_any QQ.cs (some ⟨ib, 0, none⟩) 1 1 [xw] w11 HM.out.cq I11 (by omega)
          rw [HM.out.ls] at PL
          refine PL.mono ?_
          rintro e w' ⟨rfl, rfl⟩
          clear PL
          refine hK.out _ _ (HS10.out.below L11) (fun hHeld => ?_)
          clear hK K
          (try simp only [Act.put, List.setIfInBounds_toArray, List.set_cons_zero, List.set_cons_succ])
          refine wpAnyH_ready (rs := [7]) (by kernel_rfl) (by simp) (AllReadyH.cons rfl (fun K hK => ?_) AllReadyH.nil)
          clear hHeld
          rw [if_pos (by kernel_rfl)]
          go_simp
          refine (pcomp (HP10.out.below L11)).mono ?_
          rintro e w' ⟨rfl, rfl⟩
          refine hK.out _ _ (HS10.out.below L11) (fun hHeld => ?_)
          clear hK K
          (try simp only [Act.put, List.setIfInBounds_toArray, List.set_cons_zero, List.set_cons_succ])
          refine stake (i := 8) (v := (.bool false)) 68 rfl (by kernel_rfl) (by kernel_rfl) (by kernel_rfl) (by kernel_rfl) (fun _ _ _ h => h) (.inl ⟨by kernel_rfl, fun w' hS => by (go_simp)⟩) hHeld ?_
          (try simp only [Act.put, List.setIfInBounds_toArray, List.set_cons_zero, List.set_cons_succ])
          refine stake (i := 9) (v := (.bool false)) 69 rfl (by kernel_rfl) (by kernel_rfl) (by kernel_rfl) (by kernel_rfl) (fun _ _ _ h => h) (.inl ⟨by kernel_rfl, fun w' hS => by (go_simp)⟩) hHeld ?_
          (try simp only [Act.put, List.setIfInBounds_toArray, List.set_cons_zero, List.set_cons_succ])
          refine stake (i := 10) (v := (.pointer (some ⟨gq, 0, none⟩))) 70 rfl (by kernel_rfl) (by kernel_rfl) (by kernel_rfl) (by kernel_rfl) (fun _ _ _ h => h) (.inl ⟨by kernel_rfl, fun w' hS => by (go_simp)⟩) hHeld ?_
          (try simp only [Act.put, List.setIfInBounds_toArray, List.set_cons_zero, List.set_cons_succ])
          refine stake (i := 12) (v := (.pointer (some ⟨gp, 0, none⟩))) 72 rfl (by kernel_rfl) (by kernel_rfl) (by kernel_rfl) (by kernel_rfl) (fun _ _ _ h => h) (.inl ⟨by kernel_rfl, fun w' hS => by (go_simp)⟩) hHeld ?_
          (try simp only [Act.put, List.setIfInBounds_toArray, List.set_cons_zero, List.set_cons_succ])
          refine wpAnyH_ready (rs := [11]) (by kernel_rfl) (by simp) (AllReadyH.cons rfl (fun K hK => ?_) AllReadyH.nil)
          clear hHeld
          rw [if_pos (by kernel_rfl)]
          go_simp
          refine (pbound (HQ10.out.below L11)).mono ?_
          rintro e w12 ⟨rfl, G12⟩
          have L12 := L11.trans (G12.below.mono L11.size)
          refine hK.out _ _ (HS10.out.below L12) (fun hHeld => ?_)
          clear hK K
          (try simp only [Act.put, List.setIfInBounds_toArray, List.set_cons_zero, List.set_cons_succ])
          refine wpAnyH_ready (rs := [13]) (by kernel_rfl) (by simp) (AllReadyH.cons rfl (fun K hK => ?_) AllReadyH.nil)
          clear hHeld
          rw [if_pos (by kernel_rfl)]
          go_simp
          refine (pbound (HP10.out.below L12)).mono ?_
          rintro e w13 ⟨rfl, G13⟩
          have L13 := L12.trans (G13.below.mono L12.size)
          refine hK.out _ _ (HS10.out.below L13) (fun hHeld => ?_)
          clear hK K
          (try simp only [Act.put, List.setIfInBounds_toArray, List.set_cons_zero, List.set_cons_succ])
          refine wpAnyH_ready (rs := [14]) (by kernel_rfl) (by simp) (AllReadyH.cons rfl (fun K hK => ?_) AllReadyH.nil)
          clear hHeld
          rw [if_pos (by kernel_rfl)]
          go_simp
          refine (compare_any QQ.bd PP.bd w13).mono ?_
          rintro e w14 ⟨rfl, G14⟩
          have L14 := L13.trans (G14.below.mono L13.size)
          refine hK.out _ _ (HS10.out.below L14) (fun hHeld => ?_)
          clear hK K
          (try simp only [Act.put, List.setIfInBounds_toArray, List.set_cons_zero, List.set_cons_succ])
          refine stake (i := 15) (v := (.bool false)) 75 rfl (by kernel_rfl) (by kernel_rfl) (by kernel_rfl) (by kernel_rfl) (fun _ _ _ h => h) (.inl ⟨by kernel_rfl, fun w' hS => by (go_simp)⟩) hHeld ?_
          (try simp only [Act.put, List.setIfInBounds_toArray, List.set_cons_zero, List.set_cons_succ])
          refine stake (i := 16) (v := (.bool false)) 76 rfl (by kernel_rfl) (by kernel_rfl) (by kernel_rfl) (by kernel_rfl) (fun _ _ _ h => h) (.inl ⟨by kernel_rfl, fun w' hS => by (go_simp)⟩) hHeld ?_
          (try simp only [Act.put, List.setIfInBounds_toArray, List.set_cons_zero, List.set_cons_succ])
          refine wpAnyH_done (by kernel_rfl) ?_ _
          clear hHeld
          have HB := Lib.hid (D10.out.trans (L14.mono D10.out.size))
          go_wp2_with fail
          go_meet
          exact ⟨rfl, HB.out⟩
        · clear hHeld
          rw [if_pos (by kernel_rfl)]
          go_simp
          have I11 := in_one w10 xw x0b x1b
          have G11 := ((Grw.refl w10).alloc (.cells #[.int .i64 xw] 3)).below
          have L11 := L10.trans (G11.mono L10.size)
          generalize w10.heap.size = ib at I11 ⊢
          generalize w10.alloc (.cells #[.int .i64 xw] 3) = w11 at *
          refine hK.out _ _ (HS10.out.below L11) (fun hHeld => ?_)
          clear hK K
          (try simp only [Act.put, List.setIfInBounds_toArray, List.set_cons_zero, List.set_cons_succ])
          refine wpAnyH_ready (rs := [1]) (by kernel_rfl) (by simp) (AllReadyH.cons rfl (fun K hK => ?_) AllReadyH.nil)
          clear hHeld
          rw [if_pos (by kernel_rfl)]
          go_simp
          refine (pcomp (HQ10.out.below L11)).mono ?_
          rintro e w' ⟨rfl, rfl⟩
          refine hK.out _ _ (HS10.out.below L11) (fun hHeld => ?_)
          clear hK K
          (try simp only [Act.put, List.setIfInBounds_toArray, List.set_cons_zero, List.set_cons_succ])
          refine wpAnyH_ready (rs := [5]) (by kernel_rfl) (by simp) (AllReadyH.cons rfl (fun K hK => ?_) AllReadyH.nil)
          clear hHeld
          rw [if_pos (by kernel_rfl)]
          go_simp
          have PL := less_any QQ.cs (some ⟨ib, 0, none⟩) 1 1 [xw] w11 HM.out.cq I11 (by omega)
          rw [HM.out.ls] at PL
          refine PL.mono ?_
          rintro e w' ⟨rfl, rfl⟩
          clear PL
          refine hK.out _ _ (HS10.out.below L11) (fun hHeld => ?_)
          clear hK K
          (try simp only [Act.put, List.setIfInBounds_toArray, List.set_cons_zero, List.set_cons_succ])
          refine wpAnyH_ready (rs := [7]) (by kernel_rfl) (by simp) (AllReadyH.cons rfl (fun K hK => ?_) AllReadyH.nil)
          clear hHeld
          rw [if_pos (by kernel_rfl)]
          go_simp
          refine (pcomp (HP10.out.below L11)).mono ?_
          rintro e w' ⟨rfl, rfl⟩
          refine hK.out _ _ (HS10.out.below L11) (fun hHeld => ?_)
          clear hK K
          (try simp only [Act.put, List.setIfInBounds_toArray, List.set_cons_zero, List.set_cons_succ])
          refine stake (i := 8) (v := (.bool false)) 68 rfl (by kernel_rfl) (by kernel_rfl) (by kernel_rfl) (by kernel_rfl) (fun _ _ _ h => h) (.inl ⟨by kernel_rfl, fun w' hS => by (go_simp)⟩) hHeld ?_
          (try simp only [Act.put, List.setIfInBounds_toArray, List.set_cons_zero, List.set_cons_succ])
          refine stake (i := 9) (v := (.bool false)) 69 rfl (by kernel_rfl) (by kernel_rfl) (by kernel_rfl) (by kernel_rfl) (fun _ _ _ h => h) (.inl ⟨by kernel_rfl, fun w' hS => by (go_simp)⟩) hHeld ?_
          (try simp only [Act.put, List.setIfInBounds_toArray, List.set_cons_zero, List.set_cons_succ])
          refine stake (i := 10) (v := (.pointer (some ⟨gq, 0, none⟩))) 70 rfl (by kernel_rfl) (by kernel_rfl) (by kernel_rfl) (by kernel_rfl) (fun _ _ _ h => h) (.inl ⟨by kernel_rfl, fun w' hS => by (go_simp)⟩) hHeld ?_
          (try simp only [Act.put, List.setIfInBounds_toArray, List.set_cons_zero, List.set_cons_succ])
          refine stake (i := 12) (v := (.pointer (some ⟨gp, 0, none⟩))) 72 rfl (by kernel_rfl) (by kernel_rfl) (by kernel_rfl) (by kernel_rfl) (fun _ _ _ h => h) (.inl ⟨by kernel_rfl, fun w' hS => by (go_simp)⟩) hHeld ?_
          (try simp only [Act.put, List.setIfInBounds_toArray, List.set_cons_zero, List.set_cons_succ])
          refine wpAnyH_ready (rs := [11]) (by kernel_rfl) (by simp) (AllReadyH.cons rfl (fun K hK => ?_) AllReadyH.nil)
          clear hHeld
          rw [if_pos (by kernel_rfl)]
          go_simp
          refine (pbound (HQ10.out.below L11)).mono ?_
          rintro e w12 ⟨rfl, G12⟩
          have L12 := L11.trans (G12.below.mono L11.size)
          refine hK.out _ _ (HS10.out.below L12) (fun hHeld => ?_)
          clear hK K
          (try simp only [Act.put, List.setIfInBounds_toArray, List.set_cons_zero, List.set_cons_succ])
          refine wpAnyH_ready (rs := [13]) (by kernel_rfl) (by simp) (AllReadyH.cons rfl (fun K hK => ?_) AllReadyH.nil)
          clear hHeld
          rw [if_pos (by kernel_rfl)]
          go_simp
          refine (pbound (HP10.out.below L12)).mono ?_
          rintro e w13 ⟨rfl, G13⟩
          have L13 := L12.trans (G13.below.mono L12.size)
          refine hK.out _ _ (HS10.out.below L13) (fun hHeld => ?_)
          clear hK K
          (try simp only [Act.put, List.setIfInBounds_toArray, List.set_cons_zero, List.set_cons_succ])
          refine wpAnyH_ready (rs := [14]) (by kernel_rfl) (by simp) (AllReadyH.cons rfl (fun K hK => ?_) AllReadyH.nil)
          clear hHeld
          rw [if_pos (by kernel_rfl)]
          go_simp
          refine (compare_any QQ.bd PP.bd w13).mono ?_
          rintro e w14 ⟨rfl, G14⟩
          have L14 := L13.trans (G14.below.mono L13.size)
          refine hK.out _ _ (HS10.out.below L14) (fun hHeld => ?_)
          clear hK K
          (try simp only [Act.put, List.setIfInBounds_toArray, List.set_cons_zero, List.set_cons_succ])
          refine stake (i := 15) (v := (.bool false)) 75 rfl (by kernel_rfl) (by kernel_rfl) (by kernel_rfl) (by kernel_rfl) (fun _ _ _ h => h) (.inl ⟨by kernel_rfl, fun w' hS => by (go_simp)⟩) hHeld ?_
          (try simp only [Act.put, List.setIfInBounds_toArray, List.set_cons_zero, List.set_cons_succ])
          refine stake (i := 16) (v := (.bool false)) 76 rfl (by kernel_rfl) (by kernel_rfl) (by kernel_rfl) (by kernel_rfl) (fun _ _ _ h => h) (.inl ⟨by kernel_rfl, fun w' hS => by (go_simp)⟩) hHeld ?_
          (try simp only [Act.put, List.setIfInBounds_toArray, List.set_cons_zero, List.set_cons_succ])
          refine wpAnyH_done (by kernel_rfl) ?_ _
          clear hHeld
          have HB := Lib.hid (D10.out.trans (L14.mono D10.out.size))
          go_wp2_with fail
          go_meet
          exact ⟨rfl, HB.out⟩
      case rest =>
        obtain ⟨rfl, hb10⟩ := hcut
        have HBC := Lib.hid (HB9.out.trans (hb10.mono HB9.out.size))
        have HPC := Lib.hid (HP9.out.below hb10)
        have HQC := Lib.hid (HQ9.out.below hb10)
        clear hb10 HP9 HQ9 X9 HB9
        go_wp2
        go_loop [12] (fun si => ∃ k : Nat, k ≤ 64 ∧ si = .int .i64 k) (fun si => 64 - (intOf si).toNat)
        case atStart => exact ⟨0, Nat.zero_le _, rfl⟩
        case round =>
          obtain ⟨k, hk, rfl⟩ := hrel
          by_cases hlt : k < 64
          · have Wq := pwhole HQC.out (k : Int) (by omega) (by omega)
            have Wp := pwhole HPC.out (k : Int) (by omega) (by omega)
            have hwh := decide_eq_false (show ¬ wholeP QQ.f (k : Int) < wholeP PP.f (k : Int) by have := HM.out.wh (k : Int); omega)
            cases b with
            | true =>
              go_wp2_with (first | (go_at_call 46; (first | (with_reducible refine Wq.mono ?_) | (with_reducible refine Wp.mono ?_)); rintro e w' ⟨rfl, rfl⟩) | fail)
              go_round
              case rel => exact ⟨k + 1, by omega, by go_num⟩
              case measure => simp [intOf]; omega
            | false =>
              have heq := HM.out.eq rfl
              rw [heq] at Wq hwh
              have Hq := pholder HQC.out (k : Int) (by omega) (by omega)
              have Hp := pholder HPC.out (k : Int) (by omega) (by omega)
              rw [heq] at Hq
              clear heq
              generalize wholeP PP.f (k : Int) = u at *
              generalize holdP PP.f (k : Int) = h at *
              have hu : (u != u) = false := by simp
              have hv : (h != h) = false := by simp
              go_wp2_with (first | (go_at_call 46; (first | (with_reducible refine Wq.mono ?_) | (with_reducible refine Wp.mono ?_)); rintro e w' ⟨rfl, rfl⟩) | (go_at_call 48; (first | (with_reducible refine Hq.mono ?_) | (with_reducible refine Hp.mono ?_)); rintro e w' ⟨rfl, rfl⟩) | fail)
              go_round
              case rel => exact ⟨k + 1, by omega, by go_num⟩
              case measure => simp [intOf]; omega
          · obtain rfl : k = 64 := by omega
            cases b with
            | true =>
              go_wp2
              go_ret
              exact ⟨rfl, HBC.out⟩
            | false =>
              have heq := HM.out.eq rfl
              have PB := pbound HQC.out
              rw [heq] at PB
              obtain ⟨kn, hkn⟩ : ∃ kn, kn = PP.bd.n := ⟨_, rfl⟩
              obtain ⟨kp, hkp⟩ : ∃ kp, kp = PP.bd.p := ⟨_, rfl⟩
              rw [← hkn, ← hkp] at PB
              have hq := held_key15
              clear heq
              go_wp2_with fail
              refine PB.mono ?_
              rintro e w5 ⟨rfl, G5⟩
              have HBD := Lib.hid (HBC.out.trans (G5.below.mono HBC.out.size))
              have PB2 := pbound (HPC.out.below G5.below)
              rw [← hkn, ← hkp] at PB2
              clear PB G5 hkn hkp HPC HQC HBC
              go_wp2_with fail
              refine PB2.mono ?_
              rintro e w6 ⟨rfl, G6⟩
              have HBE := Lib.hid (HBD.out.trans (G6.below.mono HBD.out.size))
              go_wp2
              go_ret
              exact ⟨rfl, HBE.out⟩
theorem walk_PlanMore {w : World} (me : Int) (wm : (Lit.int .i64 me).wf = true) (ao : Option Addr) (n c : Nat) (l : List Xg) (hl : Lst encXg 6 w ao n l ∧ (ao = none → c = 0) ∧ n ≤ c ∧ ∀ m ∈ l, XgIn w m ∧ m.ok) (x : Xg) (hx : XgIn w x ∧ x.ok) :
    Calls Try.prog 13 #[.int .i64 me, .slice ao n c, .agg (encXg x).toArray] w fun e w' => e = .returned (.bool true) ∧ Below w.heap.size w w' := by
  have b := Go.bounds_i64 wm
  exact more_core me b.1 b.2 ao n c l x w ⟨hl.1, hl.2.2.2⟩ hl.2.1 hx
end Go.Proofs.Ytfocjcdfpnbkjaa
