/- ripe, Trim. (Written by gen_oripe.py.) -/
import Derived.Test.YtfocjcdfpnbkjaaZOrdHeads
set_option linter.unusedVariables false
set_option maxRecDepth 100000
set_option linter.unusedSimpArgs false
namespace Go.Proofs.Ytfocjcdfpnbkjaa
open Go.RowKit Go.Sort Go.Shelf
section
variable {w : World} {E : Nat → Prop} {g N : Nat} {O : Od}
set_option maxHeartbeats 4000000 in
theorem oripe_safe (h : ORep w E g N O) (f q s v : Int) (a : Option Addr) (dl dc : Nat) (text : ByteArray) (hv : (v == 2) = true) :
    Calls Try.prog 106 #[.pointer (some ⟨g, 0, none⟩), .agg #[.int .i64 f, .int .u32 q, .int .u64 s, .int .i64 v, .slice a dl dc, .string text]] w fun e w' => e = .returned (.bool (decide (s ≤ (safeN O.H : Int)))) ∧ Below w.heap.size w w' := by
  obtain ⟨gh, gz, F, zs, h⟩ := h.ex
  have HB := Lib.hid ((Grw.refl w).alloc (.cells #[.int .i64 f, .int .u32 q, .int .u64 s, .int .i64 v, .slice a dl dc, .string text] 47)).below
  have hO := h.below HB.out
  have c1 := hO.c1
  have P := fun n' => zsafe (hO.below ((Grw.refl _).drewN n').below).hz
  generalize safeN O.H = z at *
  clear h hO
  go_enter Try.func106, Try.ntmps106
  go_upto_region 2 with fail
  go_quiet ((go_at_call 136; exact Calls.quiet_of_same ((P _).mono fun _ _ ⟨he, hw⟩ => ⟨he, hw.symm⟩)))
  go_wp2
  go_ret
  exact ⟨rfl, HB.out.trans (((Grw.refl _).drewN _).below.mono HB.out.size)⟩
set_option maxHeartbeats 4000000 in
theorem oripe_all (h : ORep w E g N O) (f q s v : Int) (a : Option Addr) (dl dc : Nat) (text : ByteArray) (hv : (v == 2) = false) :
    Calls Try.prog 106 #[.pointer (some ⟨g, 0, none⟩), .agg #[.int .i64 f, .int .u32 q, .int .u64 s, .int .i64 v, .slice a dl dc, .string text]] w fun e w' => e = .returned (.bool (decide (s ≤ (allN O.H : Int)))) ∧ Below w.heap.size w w' := by
  obtain ⟨gh, gz, F, zs, h⟩ := h.ex
  have HB := Lib.hid ((Grw.refl w).alloc (.cells #[.int .i64 f, .int .u32 q, .int .u64 s, .int .i64 v, .slice a dl dc, .string text] 47)).below
  have hO := h.below HB.out
  have c1 := hO.c1
  have P := fun n' => zall (hO.below ((Grw.refl _).drewN n').below).hz
  generalize allN O.H = z at *
  clear h hO
  go_enter Try.func106, Try.ntmps106
  go_upto_region 3 with fail
  go_quiet ((go_at_call 137; exact Calls.quiet_of_same ((P _).mono fun _ _ ⟨he, hw⟩ => ⟨he, hw.symm⟩)))
  go_wp2
  go_ret
  exact ⟨rfl, HB.out.trans (((Grw.refl _).drewN _).below.mono HB.out.size)⟩
theorem oripe (h : ORep w E g N O) (m : Mg) :
    Calls Try.prog 106 #[.pointer (some ⟨g, 0, none⟩), valG m] w fun e w' => e = .returned (.bool (ripeO O m)) ∧ Below w.heap.size w w' := by
  obtain ⟨f, q, s, v, a, dl, dc, deps, text⟩ := m
  by_cases hv : v = 2
  · have := oripe_safe h f q s v a dl dc text (by simpa using hv)
    unfold ripeO; rw [if_pos hv]; exact this
  · have := oripe_all h f q s v a dl dc text (by simpa using hv)
    unfold ripeO; rw [if_neg hv]; exact this
set_option maxHeartbeats 8000000 in
theorem otrim (h : ORep w E g N O) (hN : N ≤ 1000) (p : Int) (p0 : -9223372036854775808 ≤ p) (p1 : p ≤ 9223372036854775807) (upto : Nat) (hu : upto < 4294967296) :
    Calls Try.prog 37 #[.pointer (some ⟨g, 0, none⟩), .int .i64 p, .int .u32 (upto : Int)] w (OSaid w E g N (trimO O p upto) (.tuple #[])) := by
  have H0 := Lib.hid h
  obtain ⟨gh, gz, F, zs, h⟩ := h.ex
  have c3 := h.c3
  have P := has_any O.ms p w h.ok.m p0 p1
  cases hm : mem O.ms p with
  | false =>
    rw [hm] at P
    have HT := Lib.hid (show trimO O p upto = O by unfold trimO; rw [hm]; rfl)
    clear h hm
    go_enter Try.func37, Try.ntmps37
    go_wp2_with (go_at_call 57; refine P.mono ?_; rintro e w' ⟨rfl, rfl⟩)
    go_end0
    rw [HT.out]
    exact ⟨rfl, H0.out.up (Nat.le_refl _), Chg.refl _ _⟩
  | true =>
    rw [hm] at P
    have htr := trim_ok h.ok p upto
    have hT : trimO O p upto = { O with S := dropS O.S p (min upto (O.dn p.toNat)) } := by unfold trimO; rw [hm]; rfl
    rw [hT] at htr
    have HT := Lib.hid hT
    clear hT
    obtain ⟨k, rfl, hk, -⟩ := mem_nat13 hm
    rw [Int.toNat_natCast] at HT htr
    have hk' : (k : Int) < 64 := by omega
    have HO := Lib.hid h
    have HTR := Lib.hid htr
    have hdn : O.dn k ≤ 1000 := by
      have h1 := h.ok.dc k hk
      have h2 := h.hold.bnd k hk
      omega
    obtain ⟨d, hd⟩ : ∃ d, d = O.dn k := ⟨_, rfl⟩
    have HD := Lib.hid hd
    have hd1 : d ≤ 1000 := by omega
    obtain ⟨z, hz⟩ : ∃ z, z = min upto d := ⟨_, rfl⟩
    have hzi : min (upto : Int) (d : Int) = (z : Int) := by omega
    have HZ := Lib.hid (show min upto (O.dn k) = z by rw [hz, hd])
    have hzl : z < 4294967296 := by omega
    rw [HZ.out] at HT HTR
    clear h hm hd hz hdn htr
    go_enter Try.func37, Try.ntmps37
    go_upto_region 1 with (go_at_call 57; refine P.mono ?_; rintro e w' ⟨rfl, rfl⟩)
    have hO0 := HO.out.below (Grw.refl w).drew.below
    have HB := Lib.hid (Grw.refl w).drew.below
    refine wp_region_held_drew (S := fun w' => Own w' g 61 (oC gh gz O).toArray) (by kernel_rfl) hO0.own (fun hHeld => ?_)
    clear c3
    generalize w.drew = W0 at *
    have HO0 := Lib.hid hO0
    clear hO0
    refine stake (i := 0) (v := (.pointer (some ⟨g, 0, none⟩))) 12 rfl (by kernel_rfl) (by kernel_rfl) (by kernel_rfl) (by kernel_rfl) (fun _ _ _ h => h) (.inl ⟨by kernel_rfl, fun w' hS => by (go_simp)⟩) hHeld ?_
    (try simp only [Act.put, List.setIfInBounds_toArray, List.set_cons_zero, List.set_cons_succ])
    refine stake (i := 1) (v := (.pointer (some ⟨g, 0, none⟩))) 13 rfl (by kernel_rfl) (by kernel_rfl) (by kernel_rfl) (by kernel_rfl) (fun _ _ _ h => h) (.inl ⟨by kernel_rfl, fun w' hS => by (go_simp)⟩) hHeld ?_
    (try simp only [Act.put, List.setIfInBounds_toArray, List.set_cons_zero, List.set_cons_succ])
    refine stake (i := 2) (v := (.pointer (some ⟨g, 0, none⟩))) 14 rfl (by kernel_rfl) (by kernel_rfl) (by kernel_rfl) (by kernel_rfl) (fun _ _ _ h => h) (.inl ⟨by kernel_rfl, fun w' hS => by (go_simp)⟩) hHeld ?_
    (try simp only [Act.put, List.setIfInBounds_toArray, List.set_cons_zero, List.set_cons_succ])
    refine stake (i := 3) (v := (.pointer (some ⟨gh, 0, none⟩))) 15 rfl (by kernel_rfl) (by kernel_rfl) (by kernel_rfl) (by kernel_rfl) (fun _ _ _ h => h) (.inl ⟨by kernel_rfl, fun w' hS => by (have hc : w'.cell? ⟨g, 0, none⟩ = some (.pointer (some ⟨gh, 0, none⟩)) := Own.at_ hS 0 _ rfl; go_simp)⟩) hHeld ?_
    (try simp only [Act.put, List.setIfInBounds_toArray, List.set_cons_zero, List.set_cons_succ])
    refine stake (i := 4) (v := (.int .i64 (k : Int))) 16 rfl (by kernel_rfl) (by kernel_rfl) (by kernel_rfl) (by kernel_rfl) (fun _ _ _ h => h) (.inl ⟨by kernel_rfl, fun w' hS => by (go_simp)⟩) hHeld ?_
    (try simp only [Act.put, List.setIfInBounds_toArray, List.set_cons_zero, List.set_cons_succ])
    refine stake (i := 5) (v := (.int .u32 (upto : Int))) 17 rfl (by kernel_rfl) (by kernel_rfl) (by kernel_rfl) (by kernel_rfl) (fun _ _ _ h => h) (.inl ⟨by kernel_rfl, fun w' hS => by (go_simp)⟩) hHeld ?_
    (try simp only [Act.put, List.setIfInBounds_toArray, List.set_cons_zero, List.set_cons_succ])
    refine stake (i := 6) (v := (.pointer (some ⟨g, 0, none⟩))) 18 rfl (by kernel_rfl) (by kernel_rfl) (by kernel_rfl) (by kernel_rfl) (fun _ _ _ h => h) (.inl ⟨by kernel_rfl, fun w' hS => by (go_simp)⟩) hHeld ?_
    (try simp only [Act.put, List.setIfInBounds_toArray, List.set_cons_zero, List.set_cons_succ])
    refine stake (i := 7) (v := (.int .i64 (k : Int))) 19 rfl (by kernel_rfl) (by kernel_rfl) (by kernel_rfl) (by kernel_rfl) (fun _ _ _ h => h) (.inl ⟨by kernel_rfl, fun w' hS => by (go_simp)⟩) hHeld ?_
    (try simp only [Act.put, List.setIfInBounds_toArray, List.set_cons_zero, List.set_cons_succ])
    refine stake (i := 8) (v := (.pointer (some ⟨g, 0, none⟩))) 20 rfl (by kernel_rfl) (by kernel_rfl) (by kernel_rfl) (by kernel_rfl) (fun _ _ _ h => h) (.inl ⟨by kernel_rfl, fun w' hS => by (go_simp)⟩) hHeld ?_
    (try simp only [Act.put, List.setIfInBounds_toArray, List.set_cons_zero, List.set_cons_succ])
    refine stake (i := 9) (v := (.pointer (some ⟨g, 4, none⟩))) 21 rfl (by kernel_rfl) (by kernel_rfl) (by kernel_rfl) (by kernel_rfl) (fun _ _ _ h => h) (.inl ⟨by kernel_rfl, fun w' hS => by (go_simp)⟩) hHeld ?_
    (try simp only [Act.put, List.setIfInBounds_toArray, List.set_cons_zero, List.set_cons_succ])
    refine stake (i := 10) (v := (.pointer (some ⟨g, 4 + k * 2, none⟩))) 22 rfl (by kernel_rfl) (by kernel_rfl) (by kernel_rfl) (by kernel_rfl) (fun _ _ _ h => h) (.inl ⟨by kernel_rfl, fun w' hS => by (go_simp)⟩) hHeld ?_
    (try simp only [Act.put, List.setIfInBounds_toArray, List.set_cons_zero, List.set_cons_succ])
    refine stake (i := 11) (v := (.pointer (some ⟨g, 4 + k * 2 + 1, none⟩))) 23 rfl (by kernel_rfl) (by kernel_rfl) (by kernel_rfl) (by kernel_rfl) (fun _ _ _ h => h) (.inl ⟨by kernel_rfl, fun w' hS => by (go_simp)⟩) hHeld ?_
    (try simp only [Act.put, List.setIfInBounds_toArray, List.set_cons_zero, List.set_cons_succ])
    refine stake (i := 12) (v := (.int .u32 (d : Int))) 24 rfl (by kernel_rfl) (by kernel_rfl) (by kernel_rfl) (by kernel_rfl) (fun _ _ _ h => h) (.inl ⟨by kernel_rfl, fun w' hS => by (have hc : w'.cell? ⟨g, 4 + k * 2 + 1, none⟩ = some (.int .u32 (O.dn k : Int)) := cell_tally hS k hk 1 _ rfl; rw [← HD.out] at hc; go_simp)⟩) hHeld ?_
    (try simp only [Act.put, List.setIfInBounds_toArray, List.set_cons_zero, List.set_cons_succ])
    refine wpAnyH_ready (rs := [13]) (by kernel_rfl) (by simp) (AllReadyH.cons rfl (fun K hK => ?_) AllReadyH.nil)
    clear hHeld
    rw [if_pos (by kernel_rfl)]
    go_simp
    refine hK.out _ _ HO0.out.own (fun hHeld => ?_)
    clear hK K
    (try simp only [Act.put, List.setIfInBounds_toArray, List.set_cons_zero, List.set_cons_succ])
    have KD := hs_drop HO0.out.hold hN (k : Int) z hzl
    refine wpAnyH_ready (rs := [14]) (by kernel_rfl) (by simp) (AllReadyH.cons rfl (fun K hK => ?_) AllReadyH.nil)
    clear hHeld
    rw [if_pos (by kernel_rfl)]
    go_simp
    refine KD.mono ?_
    rintro e W1 ⟨rfl, k2, k3⟩
    have hF := HO0.out.held (M := N) (k2.more (fun j hj => .inl hj) fun j hj => by
      rcases hj with hj | hj
      · exact Nat.lt_of_lt_of_le (HO0.out.lim j (HO0.out.ef j hj)) k3.size
      · exact hj.2) k3 (Nat.le_refl _) HTR.out
    have HFIN := Lib.hid (And.intro (show ORep W1 (newF E W0 W1) g N (trimO O (k : Int) upto) by rw [HT.out]; exact ⟨_, _, _, _, hF⟩) (show Chg E W0 W1 from k3.mono fun j _ hj => HO0.out.ef j hj))
    refine hK.out _ _ hF.own (fun hHeld => ?_)
    clear hK K KD k2 k3 hF
    refine wpAnyH_done (by kernel_rfl) ?_ _
    go_wp2
    go_end0
    exact OSaid.after HB.out ⟨rfl, HFIN.out.1, HFIN.out.2⟩
end
end Go.Proofs.Ytfocjcdfpnbkjaa
