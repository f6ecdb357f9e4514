/- Copy. (Written by gen_ocopy.py.) -/
import Derived.Test.YtfocjcdfpnbkjaaZOrdFinds
set_option linter.unusedVariables false
set_option maxRecDepth 100000
set_option linter.unusedSimpArgs false
namespace Go.Proofs.Ytfocjcdfpnbkjaa
open Go.RowKit Go.Sort Go.Shelf

theorem HAt.congrX14 {w : World} {F : Nat → Prop} {g N : Nat} {lo : Nat → Nat} {sl : Nat → Sl} {X X' : Nat → List Mg} (h : HAt w F g N lo sl X) (he : ∀ p, p < 64 → X' p = X p) : HAt w F g N lo sl X' :=
  ⟨h.own, h.fg, h.lim, fun p hp => by rw [he p hp]; exact h.slot p hp, h.inF, h.apart, fun p hp => by rw [he p hp]; exact h.deps p hp, fun p hp => by rw [he p hp]; exact h.bnd p hp⟩
theorem hs_copy14 {w : World} {F : Nat → Prop} {g N : Nat} {S : Hs} (h : HRep w F g N S) (hN : N ≤ 1000) :
    Calls Try.prog 88 #[.pointer (some ⟨g, 0, none⟩)] w fun e w' => ∃ gc, e = .returned (.pointer (some ⟨gc, 0, none⟩)) ∧ HRep w' (newB w.heap.size w') gc N S ∧ Below w.heap.size w w' := by
  obtain ⟨sl, X, h1, h2⟩ := h.ex
  refine (hcopy h1 hN).mono fun e w' hs => ?_
  obtain ⟨gc, sl2, X2, k1, k2, k3, k4⟩ := hs
  refine ⟨gc, k1, ⟨sl2, fun p => if p < 64 then X2 p else X p, k2.congrX14 fun p hp => if_pos hp, fun p => ?_⟩, k3⟩
  by_cases hp : p < 64
  · simp only [if_pos hp]; rw [k4 p hp, h2]
  · simp only [if_neg hp]; exact h2 p
theorem od_size : (Try.prog.info? 61).map (·.size) = some 134 := by kernel_rfl
def zK : List Value := .pointer none :: .pointer none :: .int .i64 0 :: .int .u64 0 :: (rowT (fun _ => 0) ++ [.int .u64 0, .int .i64 0])
theorem zK_length : zK.length = 134 := by unfold zK; simp [rowT_length]
theorem od_zero (w : World) : (zeroValue 61).run Try.prog w = .ok (.agg zK.toArray) w := by kernel_rfl
theorem oC_ptrs (gh gz gh' gz' : Nat) (O : Od) : ((oC gh gz O).toArray.setIfInBounds 0 (.pointer (some ⟨gh', 0, none⟩))).setIfInBounds 1 (.pointer (some ⟨gz', 0, none⟩)) = (oC gh' gz' O).toArray := by
  rw [List.setIfInBounds_toArray, List.setIfInBounds_toArray]; rfl
section
variable {w : World} {E : Nat → Prop} {g N : Nat} {O : Od}
set_option maxHeartbeats 8000000 in
theorem ocopy (h : ORep w E g N O) (hN : N ≤ 1000) :
    Calls Try.prog 38 #[.pointer (some ⟨g, 0, none⟩)] w fun e w' => ∃ c, e = .returned (.pointer (some ⟨c, 0, none⟩)) ∧ ORep w' (newB w.heap.size w') c N O ∧ Below w.heap.size w w' := by
  obtain ⟨gh, gz, F, zs, h⟩ := h.ex
  have HO := Lib.hid h.own
  have HZ := Lib.hid (show zK.toArray.size = (oC gh gz O).toArray.size by simp [oC_length, zK_length])
  have HS := Lib.hid (show (Try.prog.info? 61).map (·.size) = some (oC gh gz O).toArray.size by rw [od_size]; simp [oC_length])
  have H1 := Lib.hid (oC_one gh gz O)
  have hz := Lib.hid od_zero
  have HH := Lib.hid h
  have HP := Lib.hid (fun a b => oC_ptrs gh gz a b O)
  have hC0 : (oC gh gz O).toArray[0]? = some (.pointer (some ⟨gh, 0, none⟩)) := rfl
  have hC1 : (oC gh gz O).toArray[1]? = some (.pointer (some ⟨gz, 0, none⟩)) := rfl
  have HC01 := Lib.hid (And.intro hC0 hC1)
  generalize zK.toArray = Z at *
  have HN := Lib.hid (Own.new w 61 Z)
  have HF : Hid (Own ((w.alloc (.cells Z 61)).setRow w.heap.size (oC gh gz O).toArray) w.heap.size 61 (oC gh gz O).toArray) := Lib.hid (setRow_heap _ _ _ _ _ _ HN.out)
  have HB : Hid (Below w.heap.size w ((w.alloc (.cells Z 61)).setRow w.heap.size (oC gh gz O).toArray)) := Lib.hid (belowRowZ ((Grw.refl w).alloc _).below _ (Nat.le_refl _) _)
  generalize (oC gh gz O).toArray = C at *
  clear h hC0 hC1
  go_enter Try.func38, Try.ntmps38
  go_upto_region 2 with (first | (with_reducible refine step_allocZ rfl 61 rfl Z (hz.out _) ?_) | (refine wpList_load_row rfl 61 (.tmp 5) rfl g rfl 61 C (0, 0) _ HO.out Try.underlying61 rfl HS.out ?_) | (refine wpList_store_row rfl 61 (.tmp 3) (.tmp 6) rfl w.heap.size C rfl rfl 61 _ HN.out HS.out HZ.out H1.out ?_) | fail)
  obtain ⟨cb, hcb⟩ : ∃ cb, cb = w.heap.size := ⟨_, rfl⟩
  rw [← hcb] at HF HB
  try rw [← hcb]
  have HCB := Lib.hid hcb
  clear hcb HN
  generalize (w.alloc (.cells Z 61)).setRow cb C = w1 at *
  have hF0 : Own w1.drew cb 61 C := HF.out
  have hB0 : Below cb w w1.drew := HB.out.trans ((Grw.refl w1).drew.below.mono (by have := HB.out.size; have := HCB.out; omega))
  have hgc : g < cb := by have := HO.out.lt; have := HCB.out; omega
  have hO0 : Own w1.drew g 61 C := (hB0.block g hgc).trans HO.out
  refine wp_region_held_drew (S := fun w' => Own w' g 61 C ∧ cb < w'.heap.size) (by kernel_rfl) ⟨hO0, hF0.lt⟩ (fun hHeld => ?_)
  have HF0 := Lib.hid hF0
  have HB0 := Lib.hid hB0
  have HO0 := Lib.hid hO0
  clear HF HB hF0 hB0 hO0
  generalize w1.drew = w2 at *
  refine stake (i := 0) (v := (.pointer (some ⟨g, 0, none⟩))) 7 rfl (by kernel_rfl) (by kernel_rfl) (by kernel_rfl) (by kernel_rfl) (fun _ _ _ h => h) (.inl ⟨by kernel_rfl, fun w' hS => by (go_simp)⟩) hHeld ?_
  (try simp only [Act.put, List.setIfInBounds_toArray, List.set_cons_zero, List.set_cons_succ])
  refine stake (i := 1) (v := (.pointer (some ⟨g, 0, none⟩))) 8 rfl (by kernel_rfl) (by kernel_rfl) (by kernel_rfl) (by kernel_rfl) (fun _ _ _ h => h) (.inl ⟨by kernel_rfl, fun w' hS => by (go_simp)⟩) hHeld ?_
  (try simp only [Act.put, List.setIfInBounds_toArray, List.set_cons_zero, List.set_cons_succ])
  refine stake (i := 2) (v := (.pointer (some ⟨g, 0, none⟩))) 9 rfl (by kernel_rfl) (by kernel_rfl) (by kernel_rfl) (by kernel_rfl) (fun _ _ _ h => h) (.inl ⟨by kernel_rfl, fun w' hS => by (go_simp)⟩) hHeld ?_
  (try simp only [Act.put, List.setIfInBounds_toArray, List.set_cons_zero, List.set_cons_succ])
  refine stake (i := 3) (v := (.pointer (some ⟨gh, 0, none⟩))) 10 rfl (by kernel_rfl) (by kernel_rfl) (by kernel_rfl) (by kernel_rfl) (fun _ _ _ h => h) (.inl ⟨by kernel_rfl, fun w' hS => by (have hc : w'.cell? ⟨g, 0, none⟩ = some (.pointer (some ⟨gh, 0, none⟩)) := Own.at_ hS.1 0 _ HC01.out.1; go_simp)⟩) hHeld ?_
  (try simp only [Act.put, List.setIfInBounds_toArray, List.set_cons_zero, List.set_cons_succ])
  refine stake (i := 5) (v := (.pointer (some ⟨g, 0, none⟩))) 12 rfl (by kernel_rfl) (by kernel_rfl) (by kernel_rfl) (by kernel_rfl) (fun _ _ _ h => h) (.inl ⟨by kernel_rfl, fun w' hS => by (go_simp)⟩) hHeld ?_
  (try simp only [Act.put, List.setIfInBounds_toArray, List.set_cons_zero, List.set_cons_succ])
  refine stake (i := 6) (v := (.pointer (some ⟨g, 0, none⟩))) 13 rfl (by kernel_rfl) (by kernel_rfl) (by kernel_rfl) (by kernel_rfl) (fun _ _ _ h => h) (.inl ⟨by kernel_rfl, fun w' hS => by (go_simp)⟩) hHeld ?_
  (try simp only [Act.put, List.setIfInBounds_toArray, List.set_cons_zero, List.set_cons_succ])
  refine stake (i := 7) (v := (.pointer (some ⟨g, 1, none⟩))) 14 rfl (by kernel_rfl) (by kernel_rfl) (by kernel_rfl) (by kernel_rfl) (fun _ _ _ h => h) (.inl ⟨by kernel_rfl, fun w' hS => by (go_simp)⟩) hHeld ?_
  (try simp only [Act.put, List.setIfInBounds_toArray, List.set_cons_zero, List.set_cons_succ])
  refine stake (i := 8) (v := (.pointer (some ⟨gz, 0, none⟩))) 15 rfl (by kernel_rfl) (by kernel_rfl) (by kernel_rfl) (by kernel_rfl) (fun _ _ _ h => h) (.inl ⟨by kernel_rfl, fun w' hS => by (have hc : w'.cell? ⟨g, 1, none⟩ = some (.pointer (some ⟨gz, 0, none⟩)) := Own.at_ hS.1 1 _ HC01.out.2; go_simp)⟩) hHeld ?_
  (try simp only [Act.put, List.setIfInBounds_toArray, List.set_cons_zero, List.set_cons_succ])
  have HOA := Lib.hid (HH.out.below (HCB.out ▸ HB0.out))
  have K1 := hs_copy14 HOA.out.hold hN
  refine wpAnyH_ready (rs := [4]) (by kernel_rfl) (by simp) (AllReadyH.cons rfl (fun K hK => ?_) AllReadyH.nil)
  clear hHeld
  rw [if_pos (by kernel_rfl)]
  go_simp
  refine K1.mono ?_
  rintro e w3 ⟨gh2, rfl, k2, k3⟩
  have HA3 := Lib.hid (HOA.out.below k3)
  have HF3 := Lib.hid (HF0.out.below k3 HF0.out.lt)
  have HO3 := Lib.hid (HO0.out.below k3 HO0.out.lt)
  have HK2 := Lib.hid (And.intro k2 k3)
  refine hK.out _ _ ⟨HO3.out, HF3.out.lt⟩ (fun hHeld => ?_)
  clear hK K K1 k2 k3 HOA
  (try simp only [Act.put, List.setIfInBounds_toArray, List.set_cons_zero, List.set_cons_succ])
  have K1 := zcopy HA3.out.hz (Nat.le_trans HA3.out.wt (by omega))
  refine wpAnyH_ready (rs := [9]) (by kernel_rfl) (by simp) (AllReadyH.cons rfl (fun K hK => ?_) AllReadyH.nil)
  clear hHeld
  rw [if_pos (by kernel_rfl)]
  go_simp
  refine K1.mono ?_
  rintro e w4 ⟨zs2, rfl, k2, k3⟩
  have HF4 := Lib.hid (HF3.out.below k3 HF3.out.lt)
  have HO4 := Lib.hid (HO3.out.below k3 HO3.out.lt)
  have HZ4 := Lib.hid (And.intro k2 k3)
  have HSZ3 := Lib.hid (Nat.lt_of_lt_of_le HF0.out.lt HK2.out.2.size)
  generalize hgz2 : w3.heap.size = gz2 at *
  have HGZ2 := Lib.hid hgz2
  refine hK.out _ _ ⟨HO4.out, HF4.out.lt⟩ (fun hHeld => ?_)
  clear hK K K1 k2 k3 hgz2
  (try simp only [Act.put, List.setIfInBounds_toArray, List.set_cons_zero, List.set_cons_succ])
  refine stake (i := 10) (v := (.pointer (some ⟨cb, 0, none⟩))) 17 rfl (by kernel_rfl) (by kernel_rfl) (by kernel_rfl) (by kernel_rfl) (fun _ _ _ h => h) (.inl ⟨by kernel_rfl, fun w' hS => by (go_simp)⟩) hHeld ?_
  (try simp only [Act.put, List.setIfInBounds_toArray, List.set_cons_zero, List.set_cons_succ])
  refine wpAnyH_ready (rs := [11]) (by kernel_rfl) (by simp) (AllReadyH.cons rfl (fun K hK => ?_) AllReadyH.nil)
  have ct : w4.cell? ⟨cb, 0, none⟩ = some (.pointer (some ⟨gh, 0, none⟩)) := HF4.out.at_ 0 _ HC01.out.1
  have ft := HF4.out.free 0
  have HF5 := Lib.hid (HF4.out.set 0 (.pointer (some ⟨gh2, 0, none⟩)))
  have HO5 := Lib.hid (HO4.out.set_other cb 0 (.pointer (some ⟨gh2, 0, none⟩)) (by omega))
  have HG5 := Lib.hid (grown_set13 w4 cb 0 (.pointer (some ⟨gh2, 0, none⟩)))
  clear hHeld
  rw [if_pos (by kernel_rfl)]
  go_simp
  refine hK.out _ _ ⟨HO5.out, HF5.out.lt⟩ (fun hHeld => ?_)
  clear hK K ct ft
  (try simp only [Act.put, List.setIfInBounds_toArray, List.set_cons_zero, List.set_cons_succ])
  generalize w4.setCell ⟨cb, 0, none⟩ (.pointer (some ⟨gh2, 0, none⟩)) = w5 at *
  refine stake (i := 12) (v := (.pointer (some ⟨cb, 1, none⟩))) 18 rfl (by kernel_rfl) (by kernel_rfl) (by kernel_rfl) (by kernel_rfl) (fun _ _ _ h => h) (.inl ⟨by kernel_rfl, fun w' hS => by (go_simp)⟩) hHeld ?_
  (try simp only [Act.put, List.setIfInBounds_toArray, List.set_cons_zero, List.set_cons_succ])
  refine wpAnyH_ready (rs := [13]) (by kernel_rfl) (by simp) (AllReadyH.cons rfl (fun K hK => ?_) AllReadyH.nil)
  have ct : w5.cell? ⟨cb, 1, none⟩ = some (.pointer (some ⟨gz, 0, none⟩)) := HF5.out.at_ 1 _ (by rw [Array.getElem?_setIfInBounds_ne (by omega)]; exact HC01.out.2)
  have ft := HF5.out.free 1
  have HF6 := Lib.hid (HF5.out.set 1 (.pointer (some ⟨gz2, 0, none⟩)))
  have HO6 := Lib.hid (HO5.out.set_other cb 1 (.pointer (some ⟨gz2, 0, none⟩)) (by omega))
  have HG6 := Lib.hid (grown_set13 w5 cb 1 (.pointer (some ⟨gz2, 0, none⟩)))
  clear hHeld
  rw [if_pos (by kernel_rfl)]
  go_simp
  refine hK.out _ _ ⟨HO6.out, HF6.out.lt⟩ (fun hHeld => ?_)
  clear hK K ct ft hHeld
  generalize w5.setCell ⟨cb, 1, none⟩ (.pointer (some ⟨gz2, 0, none⟩)) = w6 at *
  refine wpAnyH_done (by kernel_rfl) ?_ _
  go_wp2
  go_ret
  have hf := HF6.out
  rw [HP.out] at hf
  obtain ⟨k2, k3⟩ := HK2.out
  obtain ⟨z2, z3⟩ := HZ4.out
  have hcb := HCB.out
  have hgz2 := HGZ2.out
  have s2 := HB0.out.size
  have s3 := k3.size
  have s4 := z3.size
  have s5 := HG5.out.size
  have s6 := HG6.out.size
  have hlc := HF0.out.lt
  have hlz := z2.lt
  have hgh := k2.lim gh2 k2.fg
  have far5 : ∀ j, j < w4.heap.size → j ≠ cb → w6.heap[j]? = w4.heap[j]? := fun j hj hn => (HG6.out.block j (by omega) (fun e => hn (by cases e; rfl))).trans (HG5.out.block j hj (fun e => hn (by cases e; rfl)))
  refine ⟨cb, rfl, ⟨gh2, gz2, newB w2.heap.size w3, zs2, ⟨hf, ?_, ?_, HH.out.wt, HH.out.ok, ?_, ?_, fun x hx => ?_, fun k hk => ?_, fun k hk => hk.2, ?_, fun k hk => ?_⟩⟩, ?_⟩
  · exact (k2.below (hgz2.symm ▸ z3)).kept (by omega) fun j hj => far5 j (by have := hj.2; omega) (by have := hj.1; omega)
  · refine z2.base0.kept fun j hj e => ?_
    refine far5 j hj ?_
    rcases e with rfl | ⟨x, e, rfl⟩
    · omega
    · have := z2.base2 x e; omega
  · exact ⟨by omega, by omega⟩
  · exact ⟨by omega, by omega⟩
  · have h1 := z2.base2 x hx
    have h2 := z2.row.lt x hx
    exact ⟨by omega, by omega⟩
  · have h1 := hk.1
    have h2 := hk.2
    exact ⟨by omega, by omega⟩
  · omega
  · have h1 := hk.1
    have h2 := hk.2
    exact ⟨by omega, by omega, fun x hx => by have := z2.base2 x hx; omega⟩
  · have b1 : Below w.heap.size w w4 := (hcb ▸ HB0.out).trans ((k3.mono (by omega)).trans (Below.mono (hgz2.symm ▸ z3) (by omega)))
    exact (b1.grown HG5.out (by omega) (fun k e => by cases e; omega)).grown HG6.out (by omega) (fun k e => by cases e; omega)
end
end Go.Proofs.Ytfocjcdfpnbkjaa
