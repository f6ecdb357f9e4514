/- The walk of 'PacketOne'. (Written by wip/gen_packetone.py.) -/
import Derived.Test.YtjifhknghhefaaaPkAwake
import Derived.Test.YtjifhknghhefaaaPkSames
import Derived.Test.YtjifhknghhefaaaCleans
import Derived.Test.YtjifhknghhefaaaRefPrint
import Derived.Test.YtjifhknghhefaaaPkHeld
set_option linter.unusedVariables false
set_option linter.unusedSimpArgs false
namespace Go.Proofs.Ytjifhknghhefaaa
open Go.RowKit Go.Sort

set_option maxHeartbeats 8000000 in
set_option maxRecDepth 100000 in
theorem one_yes (s : ByteArray) (h1 : ¬ (40000 : Int) < s.size) (k f : Nat) (hc : fcode k f (1 : Nat) s.size = 0) (w : World) :
    Calls Try.prog 5 #[.string s, .int .i64 k, .int .i64 f] w fun e w' => e = .returned (.bool true) ∧ Below w.heap.size w w' := by
  have hz : (printz k f 1 s).size ≤ 1099511627776 := by rw [printz_size]; omega
  have p1 := fun W => refPrint_yes k f 1 s W hc
  have p2 := fun W => pparse_any (printz k f 1 s) hz W
  have HP := Lib.hid (fun q => printed_of (q := q) hc)
  clear hz hc
  generalize printz k f 1 s = z at *
  have hs' : (s.size : Int) ≤ 40000 := by omega
  go_enter Try.func5, Try.ntmps5
  go_wp2_with fail
  refine (pkAwake_any _).mono ?_
  rintro e w1 ⟨rfl, L1⟩
  go_wp2_with fail
  refine (p1 _).mono ?_
  rintro e w2 ⟨rfl, L2⟩
  go_wp2_with fail
  refine (p2 _).mono ?_
  have L02 := L1.trans (L2.mono L1.size)
  clear p1 p2 L1 L2
  rintro e w3 ⟨L3, ⟨q, T, vd, vg, vx, hq, rfl, O3⟩ | ⟨c, hc, hq, rfl⟩⟩
  case inr =>
    have L03 := L02.trans (L3.mono L02.size)
    go_upto_region 9 with (refine store_packet (p := zeroP) (T := { data := #[] }) (vd := Vc.nil) (vg := Vc.nil) (vx := Vc.nil) rfl (.tmp 9) (.tmp 30) rfl w3.heap.size rfl rfl (boxed_new w3) ?_)
    rw [boxed_is]
    have OW := boxed_own w3 zeroP { data := #[] } Vc.nil Vc.nil Vc.nil
    have BW := L03.trans ((boxed_below w3 zeroP { data := #[] } Vc.nil Vc.nil Vc.nil).mono L03.size)
    generalize boxed w3 zeroP { data := #[] } Vc.nil Vc.nil Vc.nil = W4 at *
    have hc' : ¬ ((c : Int) = 0) := by omega
    go_upto_region 10 with fail
    go_wp2_with (refine load_packet rfl (.tmp 9) rfl w3.heap.size rfl OW ?_)
    refine (pk_same W4 zeroP { data := #[] } { data := #[] } Vc.nil Vc.nil Vc.nil Vc.nil Vc.nil Vc.nil (PkAt.zero W4 0 0 0 ⟨0, 0⟩) (PkAt.zero W4 0 0 0 ⟨0, 0⟩) (by decide) (by decide) (by decide) (fun x hx => absurd hx (by simp [zeroP, baseP]))).mono ?_
    rintro e w5 ⟨rfl, G5⟩
    go_wp2
    go_ret
    exact ⟨rfl, BW.trans (G5.below.mono BW.size)⟩
  obtain ⟨qk, qf, qt, hty, hsm, hcl, hpc, hso⟩ := HP.out q hq
  have L03 := L02.trans (L3.mono L02.size)
  go_upto_region 9 with (refine store_packet (p := q) (T := T) (vd := vd) (vg := vg) (vx := vx) rfl (.tmp 9) (.tmp 30) rfl w3.heap.size rfl rfl (boxed_new w3) ?_)
  rw [boxed_is]
  have OW := boxed_own w3 q T vd vg vx
  have A4 := O3.at_.below (boxed_below w3 q T vd vg vx)
  have BW := L03.trans ((boxed_below w3 q T vd vg vx).mono L03.size)
  generalize boxed w3 q T vd vg vx = W4 at *
  go_upto_region 11 with fail
  go_wp2_with (refine load_packet rfl (.tmp 9) rfl w3.heap.size rfl OW ?_)
  refine (pprint_any W4 q T vd vg vx A4 hty hsm).mono ?_
  rintro e w5 ⟨rfl, L5⟩
  rw [hpc, hso]
  go_upto_region 12 with fail
  have O5 := OW.below L5 OW.lt
  have A5 := A4.below L5
  have B5 := BW.trans (L5.mono BW.size)
  have hlt5 := O5.lt
  have HQ := Lib.hid (And.intro qk (And.intro qf qt))
  have HM := Lib.hid hsm
  have HCl := Lib.hid hcl
  clear OW A4 BW L5 O3 L03 L02 L3 hty hpc hso HP hq
  generalize w3.heap.size = g at *
  refine wp_region_held_drew (S := fun w' => Own w' g 35 (encP q T vd vg vx).toArray) (by kernel_rfl) O5.drew (fun hHeld => ?_)
  have O6 := O5.drew
  have A6 := A5.below ((Grw.refl w5).drew).below
  have B6 := B5.trans (((Grw.refl w5).drew).below.mono B5.size)
  have hlt6 : g < w5.drew.heap.size := hlt5
  clear O5 A5 B5 hlt5
  generalize w5.drew = w6 at *
  refine take_at (i := 0) (v := .string z) 42 rfl (by kernel_rfl) (by kernel_rfl) (by kernel_rfl) (by kernel_rfl) (fun _ _ _ h => h) (.inl ⟨by kernel_rfl, fun w' hS => by (go_simp)⟩) hHeld ?_
  (try simp only [Act.put, List.setIfInBounds_toArray, List.set_cons_zero, List.set_cons_succ])
  refine take_at (i := 1) (v := .string z) 43 rfl (by kernel_rfl) (by kernel_rfl) (by kernel_rfl) (by kernel_rfl) (fun _ _ _ h => h) (.inl ⟨by kernel_rfl, fun w' hS => by (go_simp)⟩) hHeld ?_
  (try simp only [Act.put, List.setIfInBounds_toArray, List.set_cons_zero, List.set_cons_succ])
  refine take_at (i := 2) (v := .bool true) 44 rfl (by kernel_rfl) (by kernel_rfl) (by kernel_rfl) (by kernel_rfl) (fun _ _ _ h => h) (.inl ⟨by kernel_rfl, fun w' hS => by (go_simp)⟩) hHeld ?_
  (try simp only [Act.put, List.setIfInBounds_toArray, List.set_cons_zero, List.set_cons_succ])
  refine take_at (i := 3) (v := .bool true) 45 rfl (by kernel_rfl) (by kernel_rfl) (by kernel_rfl) (by kernel_rfl) (fun _ _ _ h => h) (.inl ⟨by kernel_rfl, fun w' hS => by (go_simp)⟩) hHeld ?_
  (try simp only [Act.put, List.setIfInBounds_toArray, List.set_cons_zero, List.set_cons_succ])
  refine take_at (i := 4) (v := .int .i64 0) 46 rfl (by kernel_rfl) (by kernel_rfl) (by kernel_rfl) (by kernel_rfl) (fun _ _ _ h => h) (.inl ⟨by kernel_rfl, fun w' hS => by (go_simp)⟩) hHeld ?_
  (try simp only [Act.put, List.setIfInBounds_toArray, List.set_cons_zero, List.set_cons_succ])
  refine take_at (i := 5) (v := .bool true) 47 rfl (by kernel_rfl) (by kernel_rfl) (by kernel_rfl) (by kernel_rfl) (fun _ _ _ h => h) (.inl ⟨by kernel_rfl, fun w' hS => by (go_simp)⟩) hHeld ?_
  (try simp only [Act.put, List.setIfInBounds_toArray, List.set_cons_zero, List.set_cons_succ])
  refine take_at (i := 6) (v := .bool true) 48 rfl (by kernel_rfl) (by kernel_rfl) (by kernel_rfl) (by kernel_rfl) (fun _ _ _ h => h) (.inl ⟨by kernel_rfl, fun w' hS => by (go_simp)⟩) hHeld ?_
  (try simp only [Act.put, List.setIfInBounds_toArray, List.set_cons_zero, List.set_cons_succ])
  refine take_at (i := 7) (v := .bool true) 49 rfl (by kernel_rfl) (by kernel_rfl) (by kernel_rfl) (by kernel_rfl) (fun _ _ _ h => h) (.inl ⟨by kernel_rfl, fun w' hS => by (go_simp)⟩) hHeld ?_
  (try simp only [Act.put, List.setIfInBounds_toArray, List.set_cons_zero, List.set_cons_succ])
  refine take_at (i := 8) (v := _) 50 rfl (by kernel_rfl) (by kernel_rfl) (by kernel_rfl) (by kernel_rfl) (fun _ _ _ h => h) (yields_packet (by kernel_rfl) (.tmp 9) rfl g (by kernel_rfl) (fun w' hS => hS)) hHeld ?_
  (try simp only [Act.put, List.setIfInBounds_toArray, List.set_cons_zero, List.set_cons_succ])
  refine take_at (i := 10) (v := _) 52 rfl (by kernel_rfl) (by kernel_rfl) (by kernel_rfl) (by kernel_rfl) (fun _ _ _ h => h) (yields_packet (by kernel_rfl) (.tmp 9) rfl g (by kernel_rfl) (fun w' hS => hS)) hHeld ?_
  (try simp only [Act.put, List.setIfInBounds_toArray, List.set_cons_zero, List.set_cons_succ])
  refine wpAnyH_ready (rs := [9]) (by kernel_rfl) (by simp) (AllReadyH.cons rfl (fun K hK => ?_) AllReadyH.nil)
  clear hHeld
  rw [if_pos (by kernel_rfl)]
  go_simp
  refine (pclean w6 q T vd vg vx A6 HM.out).mono ?_
  rintro e w7 ⟨T', ud, ug, ux, rfl, O7, L7⟩
  rw [HCl.out] at O7
  rw [HCl.out]
  have P7 := O6.below L7 hlt6
  have A7 := A6.below L7
  have B7 := B6.trans (L7.mono B6.size)
  have hlt7 := P7.lt
  refine hK.out _ _ P7 (fun hHeld => ?_)
  clear O6 A6 B6 hlt6 L7
  clear hK K
  (try simp only [Act.put, List.setIfInBounds_toArray, List.set_cons_zero, List.set_cons_succ])
  refine wpAnyH_ready (rs := [11]) (by kernel_rfl) (by simp) (AllReadyH.cons rfl (fun K hK => ?_) AllReadyH.nil)
  clear hHeld
  rw [if_pos (by kernel_rfl)]
  go_simp
  refine (pk_same w7 q T' T ud ug ux vd vg vx O7.at_ A7 HM.out.deps HM.out.got HM.out.xs HM.out.cnt).mono ?_
  rintro e w8 ⟨rfl, G8⟩
  have P8 := P7.below G8.below hlt7
  have B8 := B7.trans (G8.below.mono B7.size)
  refine hK.out _ _ P8 (fun hHeld => ?_)
  clear P7 A7 B7 O7 hlt7 G8
  clear hK K
  (try simp only [Act.put, List.setIfInBounds_toArray, List.set_cons_zero, List.set_cons_succ])
  refine take_at (i := 12) (v := .bool true) 54 rfl (by kernel_rfl) (by kernel_rfl) (by kernel_rfl) (by kernel_rfl) (fun _ _ _ h => h) (.inl ⟨by kernel_rfl, fun w' hS => by (go_simp)⟩) hHeld ?_
  (try simp only [Act.put, List.setIfInBounds_toArray, List.set_cons_zero, List.set_cons_succ])
  refine take_at (i := 13) (v := .bool true) 55 rfl (by kernel_rfl) (by kernel_rfl) (by kernel_rfl) (by kernel_rfl) (fun _ _ _ h => h) (.inl ⟨by kernel_rfl, fun w' hS => by (go_simp)⟩) hHeld ?_
  (try simp only [Act.put, List.setIfInBounds_toArray, List.set_cons_zero, List.set_cons_succ])
  refine take_at (i := 14) (v := .pointer (some ⟨g, 0, none⟩)) 56 rfl (by kernel_rfl) (by kernel_rfl) (by kernel_rfl) (by kernel_rfl) (fun _ _ _ h => h) (.inl ⟨by kernel_rfl, fun w' hS => by (go_simp)⟩) hHeld ?_
  (try simp only [Act.put, List.setIfInBounds_toArray, List.set_cons_zero, List.set_cons_succ])
  refine take_at (i := 15) (v := .int .i64 (k : Int)) 57 rfl (by kernel_rfl) (by kernel_rfl) (by kernel_rfl) (by kernel_rfl) (fun _ _ _ h => h) (.inl ⟨by kernel_rfl, fun w' hS => by ((have c := Own.at_ hS 0 (.int .i64 (k : Int)) (congrArg (fun x : Int => some (Value.int .i64 x)) HQ.out.1)); go_simp)⟩) hHeld ?_
  (try simp only [Act.put, List.setIfInBounds_toArray, List.set_cons_zero, List.set_cons_succ])
  refine take_at (i := 16) (v := .int .i64 (k : Int)) 58 rfl (by kernel_rfl) (by kernel_rfl) (by kernel_rfl) (by kernel_rfl) (fun _ _ _ h => h) (.inl ⟨by kernel_rfl, fun w' hS => by (go_simp)⟩) hHeld ?_
  (try simp only [Act.put, List.setIfInBounds_toArray, List.set_cons_zero, List.set_cons_succ])
  refine take_at (i := 17) (v := .bool true) 59 rfl (by kernel_rfl) (by kernel_rfl) (by kernel_rfl) (by kernel_rfl) (fun _ _ _ h => h) (.inl ⟨by kernel_rfl, fun w' hS => by (go_simp)⟩) hHeld ?_
  (try simp only [Act.put, List.setIfInBounds_toArray, List.set_cons_zero, List.set_cons_succ])
  refine take_at (i := 18) (v := .bool true) 60 rfl (by kernel_rfl) (by kernel_rfl) (by kernel_rfl) (by kernel_rfl) (fun _ _ _ h => h) (.inl ⟨by kernel_rfl, fun w' hS => by (go_simp)⟩) hHeld ?_
  (try simp only [Act.put, List.setIfInBounds_toArray, List.set_cons_zero, List.set_cons_succ])
  refine take_at (i := 19) (v := .bool true) 61 rfl (by kernel_rfl) (by kernel_rfl) (by kernel_rfl) (by kernel_rfl) (fun _ _ _ h => h) (.inl ⟨by kernel_rfl, fun w' hS => by (go_simp)⟩) hHeld ?_
  (try simp only [Act.put, List.setIfInBounds_toArray, List.set_cons_zero, List.set_cons_succ])
  refine take_at (i := 20) (v := .pointer (some ⟨g, 1, none⟩)) 62 rfl (by kernel_rfl) (by kernel_rfl) (by kernel_rfl) (by kernel_rfl) (fun _ _ _ h => h) (.inl ⟨by kernel_rfl, fun w' hS => by (go_simp)⟩) hHeld ?_
  (try simp only [Act.put, List.setIfInBounds_toArray, List.set_cons_zero, List.set_cons_succ])
  refine take_at (i := 21) (v := .int .i64 (f : Int)) 63 rfl (by kernel_rfl) (by kernel_rfl) (by kernel_rfl) (by kernel_rfl) (fun _ _ _ h => h) (.inl ⟨by kernel_rfl, fun w' hS => by ((have c := Own.at_ hS 1 (.int .i64 (f : Int)) (congrArg (fun x : Int => some (Value.int .i64 x)) HQ.out.2.1)); go_simp)⟩) hHeld ?_
  (try simp only [Act.put, List.setIfInBounds_toArray, List.set_cons_zero, List.set_cons_succ])
  refine take_at (i := 22) (v := .int .i64 (f : Int)) 64 rfl (by kernel_rfl) (by kernel_rfl) (by kernel_rfl) (by kernel_rfl) (fun _ _ _ h => h) (.inl ⟨by kernel_rfl, fun w' hS => by (go_simp)⟩) hHeld ?_
  (try simp only [Act.put, List.setIfInBounds_toArray, List.set_cons_zero, List.set_cons_succ])
  refine take_at (i := 23) (v := .bool true) 65 rfl (by kernel_rfl) (by kernel_rfl) (by kernel_rfl) (by kernel_rfl) (fun _ _ _ h => h) (.inl ⟨by kernel_rfl, fun w' hS => by (go_simp)⟩) hHeld ?_
  (try simp only [Act.put, List.setIfInBounds_toArray, List.set_cons_zero, List.set_cons_succ])
  refine take_at (i := 24) (v := .bool true) 66 rfl (by kernel_rfl) (by kernel_rfl) (by kernel_rfl) (by kernel_rfl) (fun _ _ _ h => h) (.inl ⟨by kernel_rfl, fun w' hS => by (go_simp)⟩) hHeld ?_
  (try simp only [Act.put, List.setIfInBounds_toArray, List.set_cons_zero, List.set_cons_succ])
  refine take_at (i := 25) (v := .bool true) 67 rfl (by kernel_rfl) (by kernel_rfl) (by kernel_rfl) (by kernel_rfl) (fun _ _ _ h => h) (.inl ⟨by kernel_rfl, fun w' hS => by (go_simp)⟩) hHeld ?_
  (try simp only [Act.put, List.setIfInBounds_toArray, List.set_cons_zero, List.set_cons_succ])
  refine take_at (i := 26) (v := .pointer (some ⟨g, 2, none⟩)) 68 rfl (by kernel_rfl) (by kernel_rfl) (by kernel_rfl) (by kernel_rfl) (fun _ _ _ h => h) (.inl ⟨by kernel_rfl, fun w' hS => by (go_simp)⟩) hHeld ?_
  (try simp only [Act.put, List.setIfInBounds_toArray, List.set_cons_zero, List.set_cons_succ])
  refine take_at (i := 27) (v := .int .i64 1) 69 rfl (by kernel_rfl) (by kernel_rfl) (by kernel_rfl) (by kernel_rfl) (fun _ _ _ h => h) (.inl ⟨by kernel_rfl, fun w' hS => by ((have c := Own.at_ hS 2 (.int .i64 1) (congrArg (fun x : Int => some (Value.int .i64 x)) HQ.out.2.2)); go_simp)⟩) hHeld ?_
  (try simp only [Act.put, List.setIfInBounds_toArray, List.set_cons_zero, List.set_cons_succ])
  refine take_at (i := 28) (v := .bool true) 70 rfl (by kernel_rfl) (by kernel_rfl) (by kernel_rfl) (by kernel_rfl) (fun _ _ _ h => h) (.inl ⟨by kernel_rfl, fun w' hS => by (go_simp)⟩) hHeld ?_
  (try simp only [Act.put, List.setIfInBounds_toArray, List.set_cons_zero, List.set_cons_succ])
  refine take_at (i := 29) (v := .bool true) 71 rfl (by kernel_rfl) (by kernel_rfl) (by kernel_rfl) (by kernel_rfl) (fun _ _ _ h => h) (.inl ⟨by kernel_rfl, fun w' hS => by (go_simp)⟩) hHeld ?_
  (try simp only [Act.put, List.setIfInBounds_toArray, List.set_cons_zero, List.set_cons_succ])
  refine take_at (i := 30) (v := .bool true) 6 rfl (by kernel_rfl) (by kernel_rfl) (by kernel_rfl) (by kernel_rfl) (fun _ _ _ h => h) (.inl ⟨by kernel_rfl, fun w' hS => by (go_simp)⟩) hHeld ?_
  (try simp only [Act.put, List.setIfInBounds_toArray, List.set_cons_zero, List.set_cons_succ])
  refine wpAnyH_done (by kernel_rfl) ?_ _
  go_wp2_with fail
  go_ret
  exact ⟨rfl, B8⟩

set_option maxHeartbeats 4000000 in
theorem walk_PacketOne (s : ByteArray) (ws : s.size ≤ maxLen) (k : Int) (wk : (Lit.int .i64 k).wf = true) (f : Int) (wf : (Lit.int .i64 f).wf = true) (w : World) :
    Calls Try.prog 5 #[.string s, .int .i64 k, .int .i64 f] w fun e w' => e = .returned (.bool true) ∧ Below w.heap.size w w' := by
  have hs' : (s.size : Int) ≤ 9223372036854775807 := by unfold maxLen at ws; omega
  by_cases h1 : (40000 : Int) < s.size
  · go_enter Try.func5, Try.ntmps5
    go_wp2_with fail
    refine (pkAwake_any _).mono ?_
    rintro e w1 ⟨rfl, L1⟩
    go_wp2
    go_ret
    exact ⟨rfl, L1⟩
  by_cases hc : fcode k f 1 s.size = 0
  · have hm := fcode_may hc
    obtain ⟨k, rfl⟩ := Int.eq_ofNat_of_zero_le (show 0 ≤ k by omega)
    obtain ⟨f, rfl⟩ := Int.eq_ofNat_of_zero_le (show 0 ≤ f by omega)
    exact one_yes s h1 k f hc w
  · have p1 := fun W => refPrint_no k f 1 s W _ rfl hc
    generalize fcode k f 1 s.size = c at *
    go_enter Try.func5, Try.ntmps5
    go_wp2_with fail
    refine (pkAwake_any _).mono ?_
    rintro e w1 ⟨rfl, L1⟩
    go_wp2_with fail
    refine (p1 _).mono ?_
    rintro e w2 ⟨rfl, rfl⟩
    go_wp2
    go_ret
    exact ⟨rfl, L1⟩
end Go.Proofs.Ytjifhknghhefaaa
