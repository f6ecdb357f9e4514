/- Attempts: a copy. (Written by wip/gen_gacopy.py.) -/
import Derived.Test.YtmaiphgmnammgaaDoorZGaExch
set_option linter.unusedVariables false
set_option maxRecDepth 100000
set_option linter.unusedSimpArgs false
namespace Go.Proofs.YtmaiphgmnammgaaDoor
open Go.RowKit Go.Sort Go.Maps Go.Shelf

def mcRen : Ren := ⟨fun | 5 => 53 | 7 => 59 | n => n, fun | 4 => 4 | 20 => 20 | 23 => 69 | 25 => 3 | 3 => 38 | n => n, fun n => n⟩
theorem mcLays : SlLaysW.n5 Tryd.prog mcRen := {
  mixed := by kernel_rfl
  f5 := Exists.intro "maps.Clone[map[int]consort/api.Exchange,int,consort/api.Exchange]" ⟨by decide +kernel, by kernel_rfl⟩
  f7 := by kernel_rfl
  t4 := Tryd.underlying4
  a4 := Tryd.isAgg4
  z4 := Tryd.sizeOf4
  v4 := Tryd.zeroValue4
  t20 := Tryd.underlying20
  a20 := Tryd.isAgg20
  z20 := Tryd.sizeOf20
  v20 := Tryd.zeroValue20
  t23 := Tryd.underlying69
  a23 := Tryd.isAgg69
  z23 := Tryd.sizeOf69
  v23 := Tryd.zeroValue69 }
theorem gclone {w : World} {b n : Nat} {H : Int → Option Xg} (h : MapI encXv w b H n) :
    Calls Tryd.prog 53 #[.map (some b)] w fun e w' => e = .returned (.map (some w.heap.size)) ∧ MapI encXv w' w.heap.size H n ∧ Below w.heap.size w w' := by
  obtain ⟨D, ho, r⟩ := h
  exact (AnyW.maps_Clone_owns mcLays 3 (rdE encXv) b n D w ho).mono fun e w' ⟨h1, h2, h3, h4⟩ => ⟨h1, ⟨D, h2, r⟩, h4⟩
section
variable {w : World} {g mb : Nat} {S : Gt}
set_option maxHeartbeats 4000000 in
theorem gcopy (h : GtB w g mb S) :
    Calls Tryd.prog 34 #[.pointer (some ⟨g, 0, none⟩)] w fun e w' => ∃ g2 mb2, e = .returned (.pointer (some ⟨g2, 0, none⟩)) ∧ GtB w' g2 mb2 S ∧ w.heap.size ≤ g2 ∧ w.heap.size ≤ mb2 ∧ Below w.heap.size w w' := by
  have H0 := Lib.hid (h.later (Grw.refl w).drew.below)
  have HB0 := Lib.hid (Grw.refl w).drew.below
  clear h
  go_enter Tryd.func34, Tryd.ntmps34
  go_upto_region 1 with fail
  have HT0 := H0.out.blk
  have HXS := Lib.hid H0.out.xs
  have HMP := Lib.hid H0.out.map
  have HOK := Lib.hid H0.out.ok
  clear H0
  obtain ⟨e0, r0, M, Y, H, n⟩ := S
  simp only at HT0
  refine wp_region_held_drew (S := fun w' => Own w' g 71 #[.int .u64 e0, .int .i64 r0, .int .u64 (M : Int), .map (some mb), .int .u64 (Y : Int)]) (by kernel_rfl) HT0 (fun hHeld => ?_)
  clear HT0
  generalize w.drew = w1 at *
  refine stake (i := 0) (v := (.pointer (some ⟨g, 0, none⟩))) 3 rfl (by kernel_rfl) (by kernel_rfl) (by kernel_rfl) (by kernel_rfl) (fun _ _ _ h => h) (.inl ⟨by kernel_rfl, fun w' hS => by (go_simp)⟩) hHeld ?_
  (try simp only [Act.put, List.setIfInBounds_toArray, List.set_cons_zero, List.set_cons_succ])
  refine stake (i := 1) (v := (.pointer (some ⟨g, 0, none⟩))) 4 rfl (by kernel_rfl) (by kernel_rfl) (by kernel_rfl) (by kernel_rfl) (fun _ _ _ h => h) (.inl ⟨by kernel_rfl, fun w' hS => by (go_simp)⟩) hHeld ?_
  (try simp only [Act.put, List.setIfInBounds_toArray, List.set_cons_zero, List.set_cons_succ])
  refine stake (i := 2) (v := (.pointer (some ⟨g, 0, none⟩))) 5 rfl (by kernel_rfl) (by kernel_rfl) (by kernel_rfl) (by kernel_rfl) (fun _ _ _ h => h) (.inl ⟨by kernel_rfl, fun w' hS => by (go_simp)⟩) hHeld ?_
  (try simp only [Act.put, List.setIfInBounds_toArray, List.set_cons_zero, List.set_cons_succ])
  refine stake (i := 3) (v := (.agg #[.int .u64 e0, .int .i64 r0])) 6 rfl (by kernel_rfl) (by kernel_rfl) (by kernel_rfl) (by kernel_rfl) (fun _ _ _ h => h) (.inl ⟨by kernel_rfl, fun w' hS => by (have hc0 := hS.at_ 0 _ rfl; have hc1 := hS.at_ 1 _ rfl; go_simp)⟩) hHeld ?_
  (try simp only [Act.put, List.setIfInBounds_toArray, List.set_cons_zero, List.set_cons_succ])
  refine stake (i := 4) (v := (.pointer (some ⟨g, 0, none⟩))) 7 rfl (by kernel_rfl) (by kernel_rfl) (by kernel_rfl) (by kernel_rfl) (fun _ _ _ h => h) (.inl ⟨by kernel_rfl, fun w' hS => by (go_simp)⟩) hHeld ?_
  (try simp only [Act.put, List.setIfInBounds_toArray, List.set_cons_zero, List.set_cons_succ])
  refine stake (i := 5) (v := (.pointer (some ⟨g, 0, none⟩))) 8 rfl (by kernel_rfl) (by kernel_rfl) (by kernel_rfl) (by kernel_rfl) (fun _ _ _ h => h) (.inl ⟨by kernel_rfl, fun w' hS => by (go_simp)⟩) hHeld ?_
  (try simp only [Act.put, List.setIfInBounds_toArray, List.set_cons_zero, List.set_cons_succ])
  refine stake (i := 6) (v := (.pointer (some ⟨g, 2, none⟩))) 9 rfl (by kernel_rfl) (by kernel_rfl) (by kernel_rfl) (by kernel_rfl) (fun _ _ _ h => h) (.inl ⟨by kernel_rfl, fun w' hS => by (go_simp)⟩) hHeld ?_
  (try simp only [Act.put, List.setIfInBounds_toArray, List.set_cons_zero, List.set_cons_succ])
  refine stake (i := 7) (v := (.int .u64 (M : Int))) 10 rfl (by kernel_rfl) (by kernel_rfl) (by kernel_rfl) (by kernel_rfl) (fun _ _ _ h => h) (.inl ⟨by kernel_rfl, fun w' hS => by (have hc2 := hS.at_ 2 _ rfl; go_simp)⟩) hHeld ?_
  (try simp only [Act.put, List.setIfInBounds_toArray, List.set_cons_zero, List.set_cons_succ])
  refine stake (i := 8) (v := (.pointer (some ⟨g, 0, none⟩))) 11 rfl (by kernel_rfl) (by kernel_rfl) (by kernel_rfl) (by kernel_rfl) (fun _ _ _ h => h) (.inl ⟨by kernel_rfl, fun w' hS => by (go_simp)⟩) hHeld ?_
  (try simp only [Act.put, List.setIfInBounds_toArray, List.set_cons_zero, List.set_cons_succ])
  refine stake (i := 9) (v := (.pointer (some ⟨g, 0, none⟩))) 12 rfl (by kernel_rfl) (by kernel_rfl) (by kernel_rfl) (by kernel_rfl) (fun _ _ _ h => h) (.inl ⟨by kernel_rfl, fun w' hS => by (go_simp)⟩) hHeld ?_
  (try simp only [Act.put, List.setIfInBounds_toArray, List.set_cons_zero, List.set_cons_succ])
  refine stake (i := 10) (v := (.pointer (some ⟨g, 3, none⟩))) 13 rfl (by kernel_rfl) (by kernel_rfl) (by kernel_rfl) (by kernel_rfl) (fun _ _ _ h => h) (.inl ⟨by kernel_rfl, fun w' hS => by (go_simp)⟩) hHeld ?_
  (try simp only [Act.put, List.setIfInBounds_toArray, List.set_cons_zero, List.set_cons_succ])
  refine stake (i := 11) (v := (.map (some mb))) 14 rfl (by kernel_rfl) (by kernel_rfl) (by kernel_rfl) (by kernel_rfl) (fun _ _ _ h => h) (.inl ⟨by kernel_rfl, fun w' hS => by (have hc3 := hS.at_ 3 _ rfl; go_simp)⟩) hHeld ?_
  (try simp only [Act.put, List.setIfInBounds_toArray, List.set_cons_zero, List.set_cons_succ])
  refine stake (i := 13) (v := (.pointer (some ⟨g, 0, none⟩))) 16 rfl (by kernel_rfl) (by kernel_rfl) (by kernel_rfl) (by kernel_rfl) (fun _ _ _ h => h) (.inl ⟨by kernel_rfl, fun w' hS => by (go_simp)⟩) hHeld ?_
  (try simp only [Act.put, List.setIfInBounds_toArray, List.set_cons_zero, List.set_cons_succ])
  refine stake (i := 14) (v := (.pointer (some ⟨g, 0, none⟩))) 17 rfl (by kernel_rfl) (by kernel_rfl) (by kernel_rfl) (by kernel_rfl) (fun _ _ _ h => h) (.inl ⟨by kernel_rfl, fun w' hS => by (go_simp)⟩) hHeld ?_
  (try simp only [Act.put, List.setIfInBounds_toArray, List.set_cons_zero, List.set_cons_succ])
  refine stake (i := 15) (v := (.pointer (some ⟨g, 4, none⟩))) 18 rfl (by kernel_rfl) (by kernel_rfl) (by kernel_rfl) (by kernel_rfl) (fun _ _ _ h => h) (.inl ⟨by kernel_rfl, fun w' hS => by (go_simp)⟩) hHeld ?_
  (try simp only [Act.put, List.setIfInBounds_toArray, List.set_cons_zero, List.set_cons_succ])
  refine stake (i := 16) (v := (.int .u64 (Y : Int))) 19 rfl (by kernel_rfl) (by kernel_rfl) (by kernel_rfl) (by kernel_rfl) (fun _ _ _ h => h) (.inl ⟨by kernel_rfl, fun w' hS => by (have hc4 := hS.at_ 4 _ rfl; go_simp)⟩) hHeld ?_
  (try simp only [Act.put, List.setIfInBounds_toArray, List.set_cons_zero, List.set_cons_succ])
  have HS := Lib.hid hHeld
  have PC := gclone HMP.out
  simp only at PC
  refine wpAnyH_ready (rs := [12]) (by kernel_rfl) (by simp) (AllReadyH.cons rfl (fun K hK => ?_) AllReadyH.nil)
  clear hHeld
  rw [if_pos (by kernel_rfl)]
  go_simp
  refine PC.mono ?_
  rintro e w2 ⟨rfl, hmap, L2⟩
  have H2 := HS.out.below L2 HS.out.lt
  have HM2 := Lib.hid hmap
  have HX2 := Lib.hid (show ∀ k x, H k = some x → XT w2 x from fun k x hx => (HXS.out k x hx).below L2)
  have HB2 := Lib.hid (HB0.out.trans (L2.mono HB0.out.size))
  have hb1 := HB0.out.size
  clear PC hmap L2 HMP HXS HB0
  refine hK.out _ _ H2 (fun hHeld => ?_)
  clear hK K HS H2
  (try simp only [Act.put, List.setIfInBounds_toArray, List.set_cons_zero, List.set_cons_succ])
  generalize w1.heap.size = mb2 at *
  refine stake (i := 17) (v := (.agg #[.int .u64 e0, .int .i64 r0, .int .u64 (M : Int), .map (some mb2), .int .u64 (Y : Int)])) 20 rfl (by kernel_rfl) (by kernel_rfl) (by kernel_rfl) (by kernel_rfl) (fun _ _ _ h => h) (.inl ⟨by kernel_rfl, fun w' hS => by (go_simp)⟩) hHeld ?_
  (try simp only [Act.put, List.setIfInBounds_toArray, List.set_cons_zero, List.set_cons_succ])
  have HS := Lib.hid hHeld
  refine wpAnyH_ready (rs := [18]) (by kernel_rfl) (by simp) (AllReadyH.cons rfl (fun K hK => ?_) AllReadyH.nil)
  clear hHeld
  rw [if_pos (by kernel_rfl)]
  go_simp
  have L3 := ((Grw.refl w2).alloc (.cells #[.int .u64 e0, .int .i64 r0, .int .u64 (M : Int), .map (some mb2), .int .u64 (Y : Int)] 71)).below
  have G3 : Hid (GtB (w2.alloc (.cells #[.int .u64 e0, .int .i64 r0, .int .u64 (M : Int), .map (some mb2), .int .u64 (Y : Int)] 71)) w2.heap.size mb2 ⟨e0, r0, M, Y, H, n⟩) := Lib.hid ⟨Own.new w2 _ _, HM2.out.below L3, fun k x hx => (HX2.out k x hx).below L3, HOK.out⟩
  have HB3 := Lib.hid (HB2.out.trans (L3.mono HB2.out.size))
  have hb2 := HB2.out.size
  have H3 := HS.out.below L3 HS.out.lt
  clear L3 HM2 HX2 HB2 HOK HS
  generalize (w2.alloc (.cells #[.int .u64 e0, .int .i64 r0, .int .u64 (M : Int), .map (some mb2), .int .u64 (Y : Int)] 71)) = w3 at *
  generalize w2.heap.size = g2 at *
  refine hK.out _ _ H3 (fun hHeld => ?_)
  clear hK K H3
  (try simp only [Act.put, List.setIfInBounds_toArray, List.set_cons_zero, List.set_cons_succ])
  refine stake (i := 19) (v := (.pointer (some ⟨g2, 0, none⟩))) 2 rfl (by kernel_rfl) (by kernel_rfl) (by kernel_rfl) (by kernel_rfl) (fun _ _ _ h => h) (.inl ⟨by kernel_rfl, fun w' hS => by (go_simp)⟩) hHeld ?_
  (try simp only [Act.put, List.setIfInBounds_toArray, List.set_cons_zero, List.set_cons_succ])
  refine wpAnyH_done (by kernel_rfl) ?_ _
  clear hHeld
  go_wp2_with fail
  go_ret
  exact ⟨g2, mb2, rfl, G3.out, hb2, hb1, HB3.out⟩
end
end Go.Proofs.YtmaiphgmnammgaaDoor
