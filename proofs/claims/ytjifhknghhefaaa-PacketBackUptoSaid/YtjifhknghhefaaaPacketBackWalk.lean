/- The walk of 'PacketBack'. (Written by wip/gen_packetback.py.) -/
import Derived.Test.YtjifhknghhefaaaPkAwake
import Derived.Test.YtjifhknghhefaaaPkSames
import Derived.Test.YtjifhknghhefaaaCleans
import Derived.Test.YtjifhknghhefaaaPkHeld
import Derived.Test.YtjifhknghhefaaaPkFew
set_option linter.unusedVariables false
set_option linter.unusedSimpArgs false
namespace Go.Proofs.Ytjifhknghhefaaa
open Go.RowKit Go.Sort

set_option maxHeartbeats 8000000 in
set_option maxRecDepth 100000 in
theorem walk_PacketBack (w : World) (p : Pk) (T : ByteArray) (vd vg vx : Vc) (ht : PkAt w p T vd vg vx) (hty : p.typed) (hsm : Small p) :
    Calls Try.prog 4 #[.agg (encP p T vd vg vx).toArray] w fun e w' => e = .returned (.bool true) ∧ Below w.heap.size w w' := by
  have HP := Lib.hid (fun h => parsed_sOf hty h)
  have HZ := Lib.hid (sOf_size hty)
  have HE : Hid (pcodeP p ≠ 0 → sOf p = { data := #[] }) := Lib.hid fun h => by unfold sOf; rw [if_neg h]
  have HTy := Lib.hid hty
  have HM := Lib.hid hsm
  rw [show (encP p T vd vg vx).toArray = #[.int .i64 p.kind, .int .i64 p.frm, .int .i64 p.to, .int .u64 (p.conf.e : Int), .int .i64 p.conf.r, .int .i64 p.m.f, .int .u32 (p.m.q : Int), .int .u64 (p.m.s : Int), .int .i64 p.m.v, .slice vd.a vd.n vd.c, .string T, .int .u64 (p.stamp : Int), .int .u32 (p.sent : Int), .slice vg.a vg.n vg.c, .int .u64 (p.hor : Int), .int .i64 p.whom, .int .u32 (p.seq : Int), .int .u64 (p.mem : Int), .int .u64 (p.prom.e : Int), .int .i64 p.prom.r, .int .u64 (p.epoch : Int), .slice vx.a vx.n vx.c] from rfl]
  have O0 := Own.new w 35 (encP p T vd vg vx).toArray
  have G0 := (Grw.refl w).alloc (.cells (encP p T vd vg vx).toArray 35)
  obtain ⟨W, hW⟩ : ∃ W, W = w.alloc (.cells (encP p T vd vg vx).toArray 35) := ⟨_, rfl⟩
  rw [← hW] at O0 G0
  have A0 := ht.below G0.below
  have B0 := G0.below
  have hlt0 := O0.lt
  have HW := Lib.hid hW
  clear ht hty hsm G0 hW
  go_enter Try.func4, Try.ntmps4
  go_upto_region 1 with fail
  rw [show w.alloc (.cells #[.int .i64 p.kind, .int .i64 p.frm, .int .i64 p.to, .int .u64 (p.conf.e : Int), .int .i64 p.conf.r, .int .i64 p.m.f, .int .u32 (p.m.q : Int), .int .u64 (p.m.s : Int), .int .i64 p.m.v, .slice vd.a vd.n vd.c, .string T, .int .u64 (p.stamp : Int), .int .u32 (p.sent : Int), .slice vg.a vg.n vg.c, .int .u64 (p.hor : Int), .int .i64 p.whom, .int .u32 (p.seq : Int), .int .u64 (p.mem : Int), .int .u64 (p.prom.e : Int), .int .i64 p.prom.r, .int .u64 (p.epoch : Int), .slice vx.a vx.n vx.c] 35) = W from HW.out.symm]
  clear HW
  go_wp2_with fail
  refine (pkAwake_any _).mono ?_
  rintro e w1 ⟨rfl, L1⟩
  have O1 := O0.below L1 hlt0
  have A1 := A0.below L1
  have B1 := B0.trans (L1.mono B0.size)
  clear O0 A0 B0 hlt0 L1
  have hlt1 := O1.lt
  go_upto_region 3 with fail
  go_wp2_with (refine load_packet rfl (.tmp 1) rfl w.heap.size rfl O1 ?_)
  refine (pkFew w1 p T vd vg vx A1 HM.out).mono ?_
  rintro e w2 ⟨⟨b, rfl⟩, G2⟩
  have O2 := O1.below G2.below hlt1
  have A2 := A1.below G2.below
  have B2 := B1.trans (G2.below.mono B1.size)
  clear O1 A1 B1 hlt1 G2
  have hlt2 := O2.lt
  cases b
  · go_wp2
    go_ret
    exact ⟨rfl, B2⟩
  go_upto_region 5 with fail
  go_wp2_with (refine load_packet rfl (.tmp 1) rfl w.heap.size rfl O2 ?_)
  refine (pclean w2 p T vd vg vx A2 HM.out).mono ?_
  rintro e w3 ⟨T3, ud, ug, ux, rfl, OC3, L3⟩
  have O3 := O2.below L3 hlt2
  have A3 := A2.below L3
  have B3 := B2.trans (L3.mono B2.size)
  clear O2 A2 B2 hlt2 L3
  have hlt3 := O3.lt
  go_upto_region 6 with (refine store_packet (p := cleanP p) (T := T3) (vd := ud) (vg := ug) (vx := ux) rfl (.tmp 3) (.tmp 16) rfl w3.heap.size rfl rfl (boxed_new w3) ?_)
  rw [boxed_is]
  have P4 := boxed_own w3 (cleanP p) T3 ud ug ux
  have L4 := boxed_below w3 (cleanP p) T3 ud ug ux
  have C4 := OC3.at_.below L4
  have O4 := O3.below L4 hlt3
  have A4 := A3.below L4
  have B4 := B3.trans (L4.mono B3.size)
  have hgA : w3.heap.size ≠ w.heap.size := by omega
  clear L4 O3 A3 B3 hlt3 OC3
  generalize boxed w3 (cleanP p) T3 ud ug ux = w4 at *
  generalize w3.heap.size = g at *
  have hl4 := O4.lt
  have hp4 := P4.lt
  go_wp2_with (refine load_packet rfl (.tmp 1) rfl w.heap.size rfl O4 ?_)
  refine (pprint_any w4 p T vd vg vx A4 HTy.out HM.out).mono ?_
  rintro e w5 ⟨rfl, L5⟩
  have P5 := P4.below L5 hp4
  have C5 := C4.below L5
  have B5 := B4.trans (L5.mono B4.size)
  clear O4 A4 B4 hl4 L5 P4 C4 hp4
  have hp5 := P5.lt
  go_upto_region 7 with fail
  go_wp2_with (refine load_packet rfl (.tmp 3) rfl g rfl P5 ?_)
  refine (pprint_any w5 (cleanP p) T3 ud ug ux C5 (clean_typed HTy.out) (clean_small HM.out)).mono ?_
  rintro e w6 ⟨rfl, L6⟩
  rw [clean_sOf, clean_pcode]
  have P6 := P5.below L6 hp5
  have C6 := C5.below L6
  have B6 := B5.trans (L6.mono B5.size)
  clear P5 C5 B5 hp5 L6
  generalize sOf p = z at *
  generalize pcodeP p = c at *
  go_upto_region 8 with fail
  refine wp_region_held_drew (S := fun w' => Own w' g 35 (encP (cleanP p) T3 ud ug ux).toArray) (by kernel_rfl) P6.drew (fun hHeld => ?_)
  have P7 := P6.drew
  have C7 := C6.below ((Grw.refl w6).drew).below
  have B7 := B6.trans (((Grw.refl w6).drew).below.mono B6.size)
  clear P6 C6 B6
  generalize w6.drew = w7 at *
  have hp7 := P7.lt
  refine take_at (i := 0) (v := .string z) 27 rfl (by kernel_rfl) (by kernel_rfl) (by kernel_rfl) (by kernel_rfl) (fun _ _ _ h => h) (.inl ⟨by kernel_rfl, fun w' hS => by (go_simp)⟩) hHeld ?_
  (try simp only [Act.put, List.setIfInBounds_toArray, List.set_cons_zero, List.set_cons_succ])
  refine take_at (i := 1) (v := .string z) 28 rfl (by kernel_rfl) (by kernel_rfl) (by kernel_rfl) (by kernel_rfl) (fun _ _ _ h => h) (.inl ⟨by kernel_rfl, fun w' hS => by (go_simp)⟩) hHeld ?_
  (try simp only [Act.put, List.setIfInBounds_toArray, List.set_cons_zero, List.set_cons_succ])
  refine take_at (i := 2) (v := .bool false) 29 rfl (by kernel_rfl) (by kernel_rfl) (by kernel_rfl) (by kernel_rfl) (fun _ _ _ h => h) (.inl ⟨by kernel_rfl, fun w' hS => by (go_simp)⟩) hHeld ?_
  (try simp only [Act.put, List.setIfInBounds_toArray, List.set_cons_zero, List.set_cons_succ])
  refine take_at (i := 3) (v := .bool false) 30 rfl (by kernel_rfl) (by kernel_rfl) (by kernel_rfl) (by kernel_rfl) (fun _ _ _ h => h) (.inl ⟨by kernel_rfl, fun w' hS => by (go_simp)⟩) hHeld ?_
  (try simp only [Act.put, List.setIfInBounds_toArray, List.set_cons_zero, List.set_cons_succ])
  refine take_at (i := 4) (v := .int .i64 c) 31 rfl (by kernel_rfl) (by kernel_rfl) (by kernel_rfl) (by kernel_rfl) (fun _ _ _ h => h) (.inl ⟨by kernel_rfl, fun w' hS => by (go_simp)⟩) hHeld ?_
  (try simp only [Act.put, List.setIfInBounds_toArray, List.set_cons_zero, List.set_cons_succ])
  refine take_at (i := 5) (v := .int .i64 c) 32 rfl (by kernel_rfl) (by kernel_rfl) (by kernel_rfl) (by kernel_rfl) (fun _ _ _ h => h) (.inl ⟨by kernel_rfl, fun w' hS => by (go_simp)⟩) hHeld ?_
  (try simp only [Act.put, List.setIfInBounds_toArray, List.set_cons_zero, List.set_cons_succ])
  refine take_at (i := 6) (v := .bool false) 33 rfl (by kernel_rfl) (by kernel_rfl) (by kernel_rfl) (by kernel_rfl) (fun _ _ _ h => h) (.inl ⟨by kernel_rfl, fun w' hS => by (go_simp)⟩) hHeld ?_
  (try simp only [Act.put, List.setIfInBounds_toArray, List.set_cons_zero, List.set_cons_succ])
  refine take_at (i := 7) (v := .bool false) 34 rfl (by kernel_rfl) (by kernel_rfl) (by kernel_rfl) (by kernel_rfl) (fun _ _ _ h => h) (.inl ⟨by kernel_rfl, fun w' hS => by (go_simp)⟩) hHeld ?_
  (try simp only [Act.put, List.setIfInBounds_toArray, List.set_cons_zero, List.set_cons_succ])
  refine take_at (i := 8) (v := .bool false) 35 rfl (by kernel_rfl) (by kernel_rfl) (by kernel_rfl) (by kernel_rfl) (fun _ _ _ h => h) (.inl ⟨by kernel_rfl, fun w' hS => by (go_simp)⟩) hHeld ?_
  (try simp only [Act.put, List.setIfInBounds_toArray, List.set_cons_zero, List.set_cons_succ])
  refine take_at (i := 9) (v := _) 36 rfl (by kernel_rfl) (by kernel_rfl) (by kernel_rfl) (by kernel_rfl) (fun _ _ _ h => h) (yields_packet (by kernel_rfl) (.tmp 3) rfl g (by kernel_rfl) (fun w' hS => hS)) hHeld ?_
  (try simp only [Act.put, List.setIfInBounds_toArray, List.set_cons_zero, List.set_cons_succ])
  refine take_at (i := 11) (v := _) 38 rfl (by kernel_rfl) (by kernel_rfl) (by kernel_rfl) (by kernel_rfl) (fun _ _ _ h => h) (yields_packet (by kernel_rfl) (.tmp 3) rfl g (by kernel_rfl) (fun w' hS => hS)) hHeld ?_
  (try simp only [Act.put, List.setIfInBounds_toArray, List.set_cons_zero, List.set_cons_succ])
  refine wpAnyH_ready (rs := [10]) (by kernel_rfl) (by simp) (AllReadyH.cons rfl (fun K hK => ?_) AllReadyH.nil)
  clear hHeld
  rw [if_pos (by kernel_rfl)]
  go_simp
  refine (pclean w7 (cleanP p) T3 ud ug ux C7 (clean_small HM.out)).mono ?_
  rintro e w8 ⟨T8, sd, sg, sx, rfl, OC8, L8⟩
  rw [clean_clean] at OC8
  rw [clean_clean]
  have P8 := P7.below L8 hp7
  have C8 := C7.below L8
  have B8 := B7.trans (L8.mono B7.size)
  have hp8 := P8.lt
  refine hK.out _ _ P8 (fun hHeld => ?_)
  clear P7 C7 B7 hp7 L8
  clear hK K
  (try simp only [Act.put, List.setIfInBounds_toArray, List.set_cons_zero, List.set_cons_succ])
  refine wpAnyH_ready (rs := [12]) (by kernel_rfl) (by simp) (AllReadyH.cons rfl (fun K hK => ?_) AllReadyH.nil)
  clear hHeld
  rw [if_pos (by kernel_rfl)]
  go_simp
  refine (pk_same w8 (cleanP p) T8 T3 sd sg sx ud ug ux OC8.at_ C8 (clean_small HM.out).deps (clean_small HM.out).got (clean_small HM.out).xs (clean_small HM.out).cnt).mono ?_
  rintro e w9 ⟨rfl, G9⟩
  have P9 := P8.below G9.below hp8
  have C9 := C8.below G9.below
  have B9 := B8.trans (G9.below.mono B8.size)
  refine hK.out _ _ P9 (fun hHeld => ?_)
  clear P8 C8 B8 OC8 hp8 G9
  clear hK K
  (try simp only [Act.put, List.setIfInBounds_toArray, List.set_cons_zero, List.set_cons_succ])
  refine take_at (i := 13) (v := .bool false) 40 rfl (by kernel_rfl) (by kernel_rfl) (by kernel_rfl) (by kernel_rfl) (fun _ _ _ h => h) (.inl ⟨by kernel_rfl, fun w' hS => by (go_simp)⟩) hHeld ?_
  (try simp only [Act.put, List.setIfInBounds_toArray, List.set_cons_zero, List.set_cons_succ])
  refine take_at (i := 14) (v := .bool false) 41 rfl (by kernel_rfl) (by kernel_rfl) (by kernel_rfl) (by kernel_rfl) (fun _ _ _ h => h) (.inl ⟨by kernel_rfl, fun w' hS => by (go_simp)⟩) hHeld ?_
  (try simp only [Act.put, List.setIfInBounds_toArray, List.set_cons_zero, List.set_cons_succ])
  refine wpAnyH_done (by kernel_rfl) ?_ _
  clear hHeld
  by_cases hc : c = 0
  case neg =>
    obtain rfl := HE.out hc
    go_wp2
    go_ret
    exact ⟨rfl, B9⟩
  subst hc
  have hq0 := HP.out rfl
  go_upto_region 12 with fail
  go_wp2_with fail
  refine (pparse_any z (Nat.le_trans HZ.out (by decide)) w9).mono ?_
  rintro e w10 ⟨L10, ⟨q, T10, td, tg, tx, hq, rfl, O10⟩ | ⟨c, _, hq, _⟩⟩
  case inr => rw [hq0] at hq; cases hq
  obtain rfl : q = cleanP p := by rw [hq0] at hq; cases hq; rfl
  have P10 := P9.below L10 P9.lt
  have C10 := C9.below L10
  have B10 := B9.trans (L10.mono B9.size)
  clear P9 C9 B9 L10 hq hq0
  have hp10 := P10.lt
  go_upto_region 13 with (refine store_packet (p := cleanP p) (T := T10) (vd := td) (vg := tg) (vx := tx) rfl (.tmp 8) (.tmp 49) rfl w10.heap.size rfl rfl (boxed_new w10) ?_)
  rw [boxed_is]
  have Q11 := boxed_own w10 (cleanP p) T10 td tg tx
  have L11 := boxed_below w10 (cleanP p) T10 td tg tx
  have P11 := P10.below L11 hp10
  have D11 := O10.at_.below L11
  have C11 := C10.below L11
  have B11 := B10.trans (L11.mono B10.size)
  clear P10 C10 B10 L11 O10 hp10
  generalize boxed w10 (cleanP p) T10 td tg tx = w11 at *
  go_wp2_with (first | (refine load_packet_if (by kernel_rfl) (.tmp 8) rfl w10.heap.size rfl Q11 ?_) | (refine load_packet_if (by kernel_rfl) (.tmp 3) rfl g rfl P11 ?_))
  refine (pk_same w11 (cleanP p) T10 T3 td tg tx ud ug ux D11 C11 (clean_small HM.out).deps (clean_small HM.out).got (clean_small HM.out).xs (clean_small HM.out).cnt).mono ?_
  rintro e w12 ⟨rfl, G12⟩
  go_wp2
  go_ret
  exact ⟨rfl, B11.trans (G12.below.mono B11.size)⟩
end Go.Proofs.Ytjifhknghhefaaa
