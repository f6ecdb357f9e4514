/- The walk of HoldAbove. (Written by wip/gen_holdabove.py out of wip/holdabove_frame.txt.) -/
import Derived.Test.YtafenlacacghoaaHdDo
import Derived.Test.YtafenlacacghoaaRefCmp
set_option linter.unusedVariables false
set_option linter.unusedSimpArgs false
namespace Go.Proofs.Ytafenlacacghoaa
open Go.RowKit Go.Sort

/-- Each message of a hold has its process and its number. -/
def Num12 (S : Hs) : Prop := ∀ p, p < 64 → ∀ i x, (S.R p)[i]? = some x → x.f = (p : Int) ∧ x.q = ((S.lo p + i + 1 : Nat) : Int)
theorem num_hs0 : Num12 hs0 := fun p hp i x hx => by simp [hs0] at hx
theorem num_put {S : Hs} (h : Num12 S) (m : Mg) : Num12 (putS S m) := by
  unfold putS
  by_cases h1 : 0 ≤ m.f ∧ m.f < 64
  · rw [if_pos h1]
    by_cases h2 : m.q = (S.cnt m.f.toNat : Int) + 1
    · rw [if_pos h2]
      intro p hp i x hx
      by_cases e : p = m.f.toNat
      · subst e
        simp only [updF_same] at hx ⊢
        by_cases hi : i < (S.R m.f.toNat).length
        · rw [List.getElem?_append_left hi] at hx
          exact h _ hp i x hx
        · rw [List.getElem?_append_right (by omega)] at hx
          have hi2 : i - (S.R m.f.toNat).length = 0 := by
            have := (List.getElem?_eq_some_iff.1 hx).1
            simp at this; omega
          rw [hi2] at hx
          cases hx
          refine ⟨?_, ?_⟩
          · show m.f = _
            omega
          · show m.q = _
            rw [h2]; unfold Hs.cnt; omega
      · simp only [updF_other _ _ _ _ e] at hx ⊢
        exact h p hp i x hx
    · rw [if_neg h2]; exact h
  · rw [if_neg h1]; exact h
theorem num_drop {S : Hs} (h : Num12 S) (p : Int) (u : Nat) : Num12 (dropS S p u) := by
  unfold dropS
  by_cases h1 : 0 ≤ p ∧ p < 64
  · rw [if_pos h1]
    intro k hk i x hx
    by_cases e : k = p.toNat
    · subst e
      simp only [updF_same, List.getElem?_drop] at hx ⊢
      obtain ⟨e1, e2⟩ := h _ hk _ x hx
      exact ⟨e1, by rw [e2]; congr 1; omega⟩
    · simp only [updF_other _ _ _ _ e] at hx ⊢
      exact h k hk i x hx
  · rw [if_neg h1]; exact h
theorem num_run (l : List Ha) : Num12 (runH l) := by
  unfold runH
  have : ∀ (l : List Ha) S, Num12 S → Num12 (l.foldl stepH S) := by
    intro l
    induction l with
    | nil => intro S h; exact h
    | cons a t ih =>
      intro S h
      refine ih _ ?_
      unfold stepH
      split
      · exact num_drop h _ _
      · exact num_put h _
  exact this l hs0 num_hs0
theorem mgb_there {w : World} {b : Nat} {m : Mg} (h : MgB w b m) (x : Mg) : w.there b 0 (encG x).toArray.size := fun j hj => by
  have h6 : j < 6 := by simpa [encG] using hj
  have := Own.at_ h j ((encG m)[j]?.getD (.bool true)) (by
    rw [List.getElem?_toArray, List.getElem?_eq_getElem (by rw [encG_length]; exact h6)]; rfl)
  rw [Nat.zero_add, this]; exact ⟨rfl, Own.free h j⟩
theorem mgb_cells {w : World} {b : Nat} {m : Mg} (h : MgB w b m) (x : Mg) : MgB (w.setCells b 0 (encG x)) b x := by
  obtain ⟨cur', h1, h2⟩ := heap_setCells (encG x) 0 w (encG m).toArray h (by simp [encG])
  have : cur' = (encG x).toArray := by
    apply Array.ext'
    rw [h2]
    simp [encG]
  rw [this] at h1
  exact h1
theorem below_cells {B : Nat} {a w : World} (h : Below B a w) (b o : Nat) (vs : List Value) (hb : B ≤ b) : Below B a (w.setCells b o vs) := by
  have g := grownCells12 b vs o w
  exact ⟨g.os.trans h.os, g.tape.trans h.tape, g.output.trans h.output, Nat.le_trans h.size g.size, fun k hk => by
    by_cases hl : k < w.heap.size
    · exact (g.block k hl (by intro e; injection e with e; omega)).trans (h.block k hk)
    · have hs : (w.setCells b o vs).heap.size = w.heap.size := size_setCells12 b vs o w
      rw [Array.getElem?_eq_none (by omega), ← h.block k hk, Array.getElem?_eq_none (by omega)]⟩
theorem cells_other12 (b : Nat) : ∀ (vs : List Value) (o : Nat) (w : World) (j : Nat), j ≠ b → (w.setCells b o vs).heap[j]? = w.heap[j]?
  | [], o, w, j, h => rfl
  | v :: r, o, w, j, h => (cells_other12 b r (o + 1) (w.setCell ⟨b, o, none⟩ v) j h).trans (heap_setCell_other w ⟨b, o, none⟩ j v h)
theorem from_all {L : List Mg} (lo : Nat) (h : L.length ≤ 1000) : fromX lo L 0 1000 = L := by
  unfold fromX
  rw [show 0 - lo - 1 = 0 by omega, List.drop_zero, List.take_of_length_le (by show L.length ≤ 1000; exact h)]
theorem R_str {w : World} {F : Nat → Prop} {g N : Nat} {S : Hs} (h : HRep w F g N S) (p : Nat) : (S.R p).map strip = S.R p := by
  obtain ⟨sl, X, _, h2⟩ := h.ex
  exact R_strip h2 p

set_option maxHeartbeats 16000000 in
set_option maxRecDepth 100000 in
theorem above_core (ao : Option Addr) (len cap : Nat) (l : List Ha) (kn kp : Int) (w : World) (hl : Lst encA 9 w ao len l) (hok : ∀ a ∈ l, a.ok w) :
    Calls Try.prog 6 #[.slice ao len cap, .agg #[.int .u64 kn, .int .i64 kp]] w fun e w' => e = .returned (.bool true) ∧ Below w.heap.size w w' := by
  have mixed : Try.prog.follows .mixedOrders = true := by kernel_rfl
  have LB := ((Grw.refl w).alloc (.cells #[.int .u64 kn, .int .i64 kp] 26)).below
  have hk0 : (w.alloc (.cells #[.int .u64 kn, .int .i64 kp] 26)).cell? ⟨w.heap.size, 0, none⟩ = some (.int .u64 kn) := by simp
  have hk1 : (w.alloc (.cells #[.int .u64 kn, .int .i64 kp] 26)).cell? ⟨w.heap.size, 1, none⟩ = some (.int .i64 kp) := by simp
  have hks : w.heap.size < (w.alloc (.cells #[.int .u64 kn, .int .i64 kp] 26)).heap.size := by simp
  have PA := hawake (w.alloc (.cells #[.int .u64 kn, .int .i64 kp] 26))
  have HL := Lib.hid (Lst.below hl LB)
  have HO := Lib.hid (fun a ha => (hok a ha).below12 LB : ∀ a ∈ l, a.ok (w.alloc (.cells #[.int .u64 kn, .int .i64 kp] 26)))
  have HK := Lib.hid (And.intro hks (And.intro hk0 hk1))
  have HLB := Lib.hid LB
  clear hl hok hk0 hk1 hks LB
  go_enter Try.func6, Try.ntmps6
  go_upto_region 1 with fail
  generalize hkb : w.heap.size = kb at *
  have HKE := Lib.hid hkb
  clear hkb
  generalize w.alloc (.cells #[.int .u64 kn, .int .i64 kp] 26) = W at *
  go_wp2_with fail
  refine PA.mono ?_
  rintro e w1 ⟨rfl, B1⟩
  have PF := hfew ao len cap l w1 (HL.out.below B1)
  have HB1 := Lib.hid B1
  clear PA B1
  go_wp2_with fail
  refine PF.mono ?_
  rintro e w2 ⟨h2, B2⟩
  have HB2 := Lib.hid (HB1.out.trans (B2.mono HB1.out.size))
  clear PF B2 HB1
  rcases h2 with rfl | ⟨rfl, hlen, hdl⟩
  · have hkb := HKE.out
    subst hkb
    go_wp2
    go_ret
    exact ⟨rfl, HLB.out.trans (HB2.out.mono HLB.out.size)⟩
  have HDL := Lib.hid hdl
  have PN := oh_new W w2 HB2.out
  clear hdl
  go_wp2_with fail
  refine PN.mono ?_
  rintro e w3 ⟨rfl, H3⟩
  generalize hg : w2.heap.size = g at *
  have HS3 : Hid (OwnH W w3 g 0 (runH (l.take 0))) := Lib.hid H3
  clear PN H3 hg HB2
  go_wp2_with fail
  go_loopw [6] (fun si wr => ∃ k : Nat, k ≤ len ∧ si = .int .i64 k ∧ Hid (OwnH W wr g k (runH (l.take k)))) (fun si _ => len - (intOf si).toNat)
  case atStart => exact ⟨0, Nat.zero_le _, rfl, HS3⟩
  case round =>
    obtain ⟨k, hk, rfl, HS⟩ := hrel
    by_cases hlt : k < len
    · obtain ⟨b, o, x, rfl, hx, hb, hc⟩ := HL.out.atA hlt
      have hxm := List.mem_of_getElem? hx
      have hcr : ∀ c v, (encA x)[c]? = some v → wr.cell? ⟨b, o + k * 9 + c, none⟩ = some v := fun c v hv => cell_later HS.out.bel (hc c v hv)
      have c0 := hcr 0 _ rfl
      have c1 := hcr 1 _ rfl
      have c2 := hcr 2 _ rfl
      have c3 := hcr 3 _ rfl
      have c4 := hcr 4 _ rfl
      have c5 := hcr 5 _ rfl
      have c6 := hcr 6 _ rfl
      have c7 := hcr 7 _ rfl
      have c8 := hcr 8 _ rfl
      rw [Nat.add_zero] at c0
      have HCC := Lib.hid (And.intro (hc 1 _ rfl) (hc 2 _ rfl))
      have HOK := Lib.hid (HO.out x hxm)
      have HDX := Lib.hid (HDL.out x hxm)
      have HRX := Lib.hid (runH_next l k x hx)
      clear hcr hc hx hxm
      obtain ⟨dr, p, upto, ⟨f, q, s, v, da, dl, dc, deps, text⟩⟩ := x
      simp only at c0 c1 c2 c3 c4 c5 c6 c7 c8 HCC
      cases dr with
      | true =>
        have HRN : Hid (runH (l.take (k + 1)) = dropS (runH (l.take k)) p upto) := Lib.hid (by rw [HRX.out]; rfl)
        clear HRX
        go_upto_region 10 with fail
        refine wp_region_held_drew (S := fun w' => w'.cell? ⟨b, o + k * 9 + 1, none⟩ = some (.int .i64 p) ∧ w'.cell? ⟨b, o + k * 9 + 2, none⟩ = some (.int .u32 (upto : Int))) (by kernel_rfl) ⟨c1, c2⟩ (fun hHeld => ?_)
        have HS1 : Hid (OwnH W wr.drew g k (runH (l.take k))) := Lib.hid (HS.out.later (Grw.refl wr).drew.below)
        clear HS c0 c1 c2 c3 c4 c5 c6 c7 c8
        generalize wr.drew = w4 at *
        refine stake (i := 0) (v := (.pointer (some ⟨g, 0, none⟩))) 32 rfl (by kernel_rfl) (by kernel_rfl) (by kernel_rfl) (by kernel_rfl) (fun _ _ _ h => h) (.inl ⟨by kernel_rfl, fun w' hS => by (go_simp)⟩) hHeld ?_
        (try simp only [Act.put, List.setIfInBounds_toArray, List.set_cons_zero, List.set_cons_succ])
        refine stake (i := 1) (v := (.slice (some ⟨b, o, none⟩) len cap)) 33 rfl (by kernel_rfl) (by kernel_rfl) (by kernel_rfl) (by kernel_rfl) (fun _ _ _ h => h) (.inl ⟨by kernel_rfl, fun w' hS => by (go_simp)⟩) hHeld ?_
        (try simp only [Act.put, List.setIfInBounds_toArray, List.set_cons_zero, List.set_cons_succ])
        refine stake (i := 2) (v := (.int .i64 (k : Int))) 34 rfl (by kernel_rfl) (by kernel_rfl) (by kernel_rfl) (by kernel_rfl) (fun _ _ _ h => h) (.inl ⟨by kernel_rfl, fun w' hS => by (go_simp)⟩) hHeld ?_
        (try simp only [Act.put, List.setIfInBounds_toArray, List.set_cons_zero, List.set_cons_succ])
        refine stake (i := 3) (v := (.pointer (some ⟨b, o + k * 9, none⟩))) 35 rfl (by kernel_rfl) (by kernel_rfl) (by kernel_rfl) (by kernel_rfl) (fun _ _ _ h => h) (.inl ⟨by kernel_rfl, fun w' hS => by (go_simp)⟩) hHeld ?_
        (try simp only [Act.put, List.setIfInBounds_toArray, List.set_cons_zero, List.set_cons_succ])
        refine stake (i := 4) (v := (.pointer (some ⟨b, o + k * 9 + 1, none⟩))) 36 rfl (by kernel_rfl) (by kernel_rfl) (by kernel_rfl) (by kernel_rfl) (fun _ _ _ h => h) (.inl ⟨by kernel_rfl, fun w' hS => by (go_simp)⟩) hHeld ?_
        (try simp only [Act.put, List.setIfInBounds_toArray, List.set_cons_zero, List.set_cons_succ])
        refine stake (i := 5) (v := (.int .i64 p)) 37 rfl (by kernel_rfl) (by kernel_rfl) (by kernel_rfl) (by kernel_rfl) (fun _ _ _ h => h) (.inl ⟨by kernel_rfl, fun w' hS => by (have hc := hS.1; go_simp)⟩) hHeld ?_
        (try simp only [Act.put, List.setIfInBounds_toArray, List.set_cons_zero, List.set_cons_succ])
        refine stake (i := 6) (v := (.slice (some ⟨b, o, none⟩) len cap)) 38 rfl (by kernel_rfl) (by kernel_rfl) (by kernel_rfl) (by kernel_rfl) (fun _ _ _ h => h) (.inl ⟨by kernel_rfl, fun w' hS => by (go_simp)⟩) hHeld ?_
        (try simp only [Act.put, List.setIfInBounds_toArray, List.set_cons_zero, List.set_cons_succ])
        refine stake (i := 7) (v := (.int .i64 (k : Int))) 39 rfl (by kernel_rfl) (by kernel_rfl) (by kernel_rfl) (by kernel_rfl) (fun _ _ _ h => h) (.inl ⟨by kernel_rfl, fun w' hS => by (go_simp)⟩) hHeld ?_
        (try simp only [Act.put, List.setIfInBounds_toArray, List.set_cons_zero, List.set_cons_succ])
        refine stake (i := 8) (v := (.pointer (some ⟨b, o + k * 9, none⟩))) 40 rfl (by kernel_rfl) (by kernel_rfl) (by kernel_rfl) (by kernel_rfl) (fun _ _ _ h => h) (.inl ⟨by kernel_rfl, fun w' hS => by (go_simp)⟩) hHeld ?_
        (try simp only [Act.put, List.setIfInBounds_toArray, List.set_cons_zero, List.set_cons_succ])
        refine stake (i := 9) (v := (.pointer (some ⟨b, o + k * 9 + 2, none⟩))) 41 rfl (by kernel_rfl) (by kernel_rfl) (by kernel_rfl) (by kernel_rfl) (fun _ _ _ h => h) (.inl ⟨by kernel_rfl, fun w' hS => by (go_simp)⟩) hHeld ?_
        (try simp only [Act.put, List.setIfInBounds_toArray, List.set_cons_zero, List.set_cons_succ])
        refine stake (i := 10) (v := (.int .u32 (upto : Int))) 42 rfl (by kernel_rfl) (by kernel_rfl) (by kernel_rfl) (by kernel_rfl) (fun _ _ _ h => h) (.inl ⟨by kernel_rfl, fun w' hS => by (have hc := hS.2; go_simp)⟩) hHeld ?_
        (try simp only [Act.put, List.setIfInBounds_toArray, List.set_cons_zero, List.set_cons_succ])
        have PD := oh_drop HS1.out (by omega) p upto HOK.out.u
        refine wpAnyH_ready (rs := [11]) (by kernel_rfl) (by simp) (AllReadyH.cons rfl (fun K hK => ?_) AllReadyH.nil)
        clear hHeld
        rw [if_pos (by kernel_rfl)]
        go_simp
        refine PD.mono ?_
        rintro e w5 ⟨rfl, h5⟩
        have HS5 : Hid (OwnH W w5 g (k + 1) (runH (l.take (k + 1)))) := Lib.hid (by rw [HRN.out]; exact h5.le (Nat.le_succ _))
        have hS5 : w5.cell? ⟨b, o + k * 9 + 1, none⟩ = some (.int .i64 p) ∧ w5.cell? ⟨b, o + k * 9 + 2, none⟩ = some (.int .u32 (upto : Int)) := ⟨cell_later h5.bel HCC.out.1, cell_later h5.bel HCC.out.2⟩
        refine hK.out _ _ hS5 (fun hHeld => ?_)
        clear hK K PD h5 hS5 HS1 hHeld
        refine wpAnyH_done (by kernel_rfl) ?_ _
        go_wp2
        go_roundw
        case rel => exact ⟨k + 1, by omega, by go_num, HS5⟩
        case measure => simp [intOf]; omega
      | false =>
        have HRN : Hid (runH (l.take (k + 1)) = putS (runH (l.take k)) ⟨f, q, s, v, da, dl, dc, deps, text⟩) := Lib.hid (by rw [HRX.out]; rfl)
        have PP := oh_put HS.out (by omega) ⟨f, q, s, v, da, dl, dc, deps, text⟩ HOK.out.q0 HOK.out.q1 (Lst.below HOK.out.d HS.out.bel) (by have := HDX.out; simp only at this ⊢; omega)
        unfold valG at PP
        simp only [encG] at PP
        clear HRX HS
        go_wp2_with fail
        refine PP.mono ?_
        rintro e w5 ⟨rfl, h5⟩
        have HS5 : Hid (OwnH W w5 g (k + 1) (runH (l.take (k + 1)))) := Lib.hid (by rw [HRN.out]; exact h5)
        clear PP h5 c0 c1 c2 c3 c4 c5 c6 c7 c8
        go_wp2
        go_roundw
        case rel => exact ⟨k + 1, by omega, by go_num, HS5⟩
        case measure => simp [intOf]; omega
    · obtain rfl : k = len := by omega
      obtain ⟨F, h1, hF⟩ := HS.out.ex
      have hk0 := cell_later HS.out.bel HK.out.2.1
      have hk1 := cell_later HS.out.bel HK.out.2.2
      have P1 := hs_above h1 (by omega) ⟨kn, kp⟩
      have hksz : kb < wr.heap.size := Nat.lt_of_lt_of_le HK.out.1 HS.out.bel.size
      have HR := Lib.hid h1
      have HB := Lib.hid HS.out.bel
      have HNM := Lib.hid (num_run (l.take k))
      simp only at P1
      clear h1 hF HS HS3
      generalize runH (l.take k) = S at *
      go_wp2_with fail
      refine P1.mono ?_
      rintro e w5 ⟨⟨sa, sn, sc⟩, Y, rfl, hO5, hS5, B5⟩
      obtain ⟨O, hOe⟩ : ∃ O, O = catF S.R ⟨kn, kp⟩ 64 := ⟨_, rfl⟩
      rw [← hOe] at hS5
      have HOO : Hid (∀ k, k = 64 → catF S.R ⟨kn, kp⟩ k = O) := Lib.hid fun k hk => by rw [hk, hOe]
      have HR5 := Lib.hid (HR.out.below B5)
      have HB5 : Hid (Below w.heap.size w w5) := Lib.hid (by
        have hkb := HKE.out
        subst hkb
        exact HLB.out.trans ((HB.out.trans (B5.mono HB.out.size)).mono HLB.out.size))
      have HKB : Hid (kb < w5.heap.size ∧ w5.cell? ⟨kb, 0, none⟩ = some (.int .u64 kn) ∧ w5.cell? ⟨kb, 1, none⟩ = some (.int .i64 kp)) := Lib.hid ⟨Nat.lt_of_lt_of_le hksz B5.size, cell_later B5 hk0, cell_later B5 hk1⟩
      have HYO := Lib.hid hO5
      have HYS := Lib.hid hS5
      have hYn : Y.length = sn := hO5.slot.len
      have hCn : O.length = sn := by
        have := hS5.fil.length
        rw [List.length_map, List.length_map] at this
        omega
      have hRb : ∀ p, p < 64 → (S.R p).length ≤ 200 := fun p hp => by have := HR.out.bnd p hp; unfold Hs.cnt at this; omega
      have hsnb : sn ≤ 12800 := by
        have h1 := catF_len S.R ⟨kn, kp⟩ 200 hRb 64 (Nat.le_refl _)
        rw [← hOe] at h1
        omega
      have HRB := Lib.hid hRb
      have HCF := Lib.hid (catF_len S.R ⟨kn, kp⟩ 200 hRb)
      have HYN := Lib.hid hYn
      have HCN := Lib.hid hCn
      clear hOe P1 hO5 hS5 B5 HR HB hk0 hk1 hksz HLB HK HKE hYn hCn hRb
      go_wp2_with fail
      go_loopw [8, 9] (fun sv sp wr => ∃ p : Nat, p ≤ 64 ∧ sp = .int .i64 p ∧ sv = .int .i64 ((catF S.R ⟨kn, kp⟩ p).length : Nat) ∧ Hid (Below w5.heap.size w5 wr)) (fun _ sp _ => 64 - (intOf sp).toNat)
      case atStart => exact ⟨0, Nat.zero_le _, rfl, rfl, Lib.hid (Below.refl _ _)⟩
      case round =>
        obtain ⟨p, hp, rfl, rfl, HB⟩ := hrel
        by_cases hlt2 : p < 64
        · have h6 := HR5.out.below HB.out
          have P2 := hs_from h6 (by omega) (p : Int) 0 (by decide) 1000 (by decide) (by decide)
          rw [show (((0 : Nat)) : Int) = 0 from rfl] at P2
          rw [onP_yes _ _ _ hlt2, onP_yes _ _ _ hlt2, from_all _ (by have := HRB.out p hlt2; omega)] at P2
          have hcl := HCF.out p (by omega)
          have hpb := HRB.out p hlt2
          have hps : p * 200 ≤ 64 * 200 := Nat.mul_le_mul_right _ (by omega)
          obtain ⟨n0, hn0⟩ : ∃ n0, n0 = (catF S.R ⟨kn, kp⟩ p).length := ⟨_, rfl⟩
          rw [← hn0] at hcl
          rw [← hn0]
          have HN0 := Lib.hid hn0
          clear hn0
          go_wp2_with fail
          refine P2.mono ?_
          rintro e w6 ⟨⟨ta, tn, tc⟩, X, rfl, hO6, hS6, B6⟩
          rw [R_str HR5.out] at hS6
          have htn : tn = (S.R p).length := by
            have e1 : X.length = tn := hO6.slot.len
            have e2 := congrArg List.length hS6
            rw [List.length_map] at e2
            omega
          have Q1 := hs_count (h6.below B6) (by omega) (p : Int)
          have Q2 := hs_low (h6.below B6) (p : Int)
          rw [onP_yes _ _ _ hlt2] at Q1 Q2
          have hcb := HR5.out.bnd p hlt2
          obtain ⟨cv, hcv⟩ : ∃ cv, cv = S.cnt p := ⟨_, rfl⟩
          obtain ⟨lv, hlv⟩ : ∃ lv, lv = S.lo p := ⟨_, rfl⟩
          have hme : (cv : Int) - (lv : Int) = (tn : Int) := by rw [hcv, hlv, htn]; unfold Hs.cnt; omega
          rw [← hcv] at Q1 hcb
          rw [← hlv] at Q2
          have hlvb : lv ≤ 200 := by rw [hlv]; unfold Hs.cnt at hcv; omega
          have htb : tn ≤ 200 := by omega
          have HTN := Lib.hid htn
          have HX6 := Lib.hid (And.intro hO6 hS6)
          have HB6 := Lib.hid (HB.out.trans (B6.mono HB.out.size))
          clear P2 hO6 hS6 B6 hcv hlv htn HB h6
          go_wp2_with (first | (go_at_call 26; refine Q2.mono ?_; rintro e w' ⟨rfl, rfl⟩) | (go_at_call 18; refine Q1.mono ?_; rintro e w' ⟨rfl, rfl⟩))
          clear Q1 Q2 hme hcb hlvb
          go_loopw [8, 11] (fun sv si wr => ∃ i : Nat, i ≤ tn ∧ si = .int .i64 i ∧ sv = .int .i64 ((n0 + (((S.R p).take i).filter fun x => K.less ⟨kn, kp⟩ x.key).length : Nat) : Int) ∧ Hid (Below w6.heap.size w6 wr)) (fun _ si _ => tn - (intOf si).toNat)
          case atStart => exact ⟨0, Nat.zero_le _, rfl, by simp, Lib.hid (Below.refl _ _)⟩
          case round =>
            obtain ⟨i, hi, rfl, rfl, HB⟩ := hrel
            by_cases hlt3 : i < tn
            · have hsl := HX6.out.1.slot
              have hXl : X.length = tn := hsl.len
              rcases hsl with ⟨h0, _⟩ | ⟨tb, tf, hta, hR⟩
              · exfalso; injection h0 with _ h0 _; omega
              simp only at hta
              subst hta
              obtain ⟨x, hx⟩ : ∃ x, X[i]? = some x := ⟨_, List.getElem?_eq_getElem (by omega)⟩
              have hRx : (S.R p)[i]? = some (strip x) := by rw [← HX6.out.2, List.getElem?_map, hx]; rfl
              have hcell : ∀ c v, (encG x)[c]? = some v → wr.cell? ⟨tb, tf + i * 6 + c, none⟩ = some v := fun c v hv => by
                have hc : c < 6 := by have := (List.getElem?_eq_some_iff.1 hv).1; rwa [encG_length] at this
                refine cell_later HB.out ?_
                rw [Nat.add_assoc]
                exact hR.cell _ _ (by rw [flat_at encG 6 encG_length X i x hx c hc]; exact hv)
              have htl : tb < wr.heap.size := Nat.lt_of_lt_of_le hR.lt HB.out.size
              have HTK : Hid ((S.R p).take (i + 1) = (S.R p).take i ++ [strip x]) := Lib.hid (by rw [List.take_succ_eq_append_getElem (by rw [← HTN.out]; exact hlt3), (List.getElem?_eq_some_iff.1 hRx).2])
              have HLS : Hid (K.less ⟨kn, kp⟩ (strip x).key = lessB kn kp x.s x.f) := Lib.hid rfl
              have hfl := List.length_filter_le (fun x => K.less ⟨kn, kp⟩ x.key) ((S.R p).take i)
              rw [List.length_take] at hfl
              obtain ⟨n1, hn1⟩ : ∃ n1, n1 = n0 + (((S.R p).take i).filter fun x => K.less ⟨kn, kp⟩ x.key).length := ⟨_, rfl⟩
              have hn1b : n1 ≤ 100000 := by omega
              rw [← hn1]
              have HN1 := Lib.hid hn1
              obtain ⟨f, q, s, v, a, dl, dc, deps, text⟩ := x
              have y0 := fun n os => cell_grown (a := ⟨tb, tf + i * 6 + 0, none⟩) (n := n) (os := os) htl (hcell 0 _ rfl)
              have y1 := fun n os => cell_grown (a := ⟨tb, tf + i * 6 + 1, none⟩) (n := n) (os := os) htl (hcell 1 _ rfl)
              have y2 := fun n os => cell_grown (a := ⟨tb, tf + i * 6 + 2, none⟩) (n := n) (os := os) htl (hcell 2 _ rfl)
              have y3 := fun n os => cell_grown (a := ⟨tb, tf + i * 6 + 3, none⟩) (n := n) (os := os) htl (hcell 3 _ rfl)
              have y4 := fun n os => cell_grown (a := ⟨tb, tf + i * 6 + 4, none⟩) (n := n) (os := os) htl (hcell 4 _ rfl)
              have y5 := fun n os => cell_grown (a := ⟨tb, tf + i * 6 + 5, none⟩) (n := n) (os := os) htl (hcell 5 _ rfl)
              simp only [Nat.add_zero] at y0
              simp only at y1 y2 y3 y4 y5
              have hkl : kb < wr.heap.size := Nat.lt_of_lt_of_le HKB.out.1 (Nat.le_trans HB6.out.size HB.out.size)
              have b0 := fun n os => cell_grown (a := ⟨kb, 0, none⟩) (n := n) (os := os) hkl (cell_later HB.out (cell_later HB6.out HKB.out.2.1))
              have b1 := fun n os => cell_grown (a := ⟨kb, 1, none⟩) (n := n) (os := os) hkl (cell_later HB.out (cell_later HB6.out HKB.out.2.2))
              have ho : ∀ (f q s v : Int) (a : Option Addr) (dl dc : Nat) (text : ByteArray) W, Calls Try.prog 31 #[.agg #[.int .i64 f, .int .u32 q, .int .u64 s, .int .i64 v, .slice a dl dc, .string text]] W fun e w' => e = .returned (.agg #[.int .u64 s, .int .i64 f]) ∧ Grw W w' :=
                fun f q s v a dl dc text W => refOf_any ⟨f, q, s, v, a, dl, dc, [], text⟩ W
              have hls : ∀ (an ap bn bp : Int) W, Calls Try.prog 30 #[.agg #[.int .u64 an, .int .i64 ap], .agg #[.int .u64 bn, .int .i64 bp]] W fun e w' => e = .returned (.bool (lessB an ap bn bp)) ∧ Grw W w' := fun an ap bn bp W => less_any ⟨an, ap⟩ ⟨bn, bp⟩ W
              clear hcell hR hx hRx hXl hfl hn1
              cases hr : lessB kn kp s f with
              | true =>
                have HLT : Hid (K.less ⟨kn, kp⟩ (strip ⟨f, q, s, v, a, dl, dc, deps, text⟩).key = true) := Lib.hid (HLS.out.trans hr)
                have hl1 : ∀ W, Calls Try.prog 30 #[.agg #[.int .u64 kn, .int .i64 kp], .agg #[.int .u64 s, .int .i64 f]] W fun e w' => e = .returned (.bool true) ∧ Grw W w' := fun W => by
                  have := hls kn kp s f W
                  rw [hr] at this
                  exact this
                clear hls hr
                go_wp2_with fail
                go_quiet_grown (first
                  | (go_at_call 31; exact Calls.grown_of (ho _ _ _ _ _ _ _ _ _))
                  | (go_at_call 30; exact Calls.grown_of (hl1 _)))
                have HB7 := Lib.hid (HB.out.trans ((Grw.below (w := wr) ⟨nq, osq, rfl⟩).mono HB.out.size))
                clear ho hl1 y0 y1 y2 y3 y4 y5 b0 b1
                go_wp2
                go_roundw
                case rel =>
                  refine ⟨i + 1, by omega, by go_num, ?_, HB7⟩
                  rw [HTK.out, List.filter_append, List.filter_cons_of_pos (by rw [HLT.out]), List.filter_nil, List.length_append, HN1.out]
                  congr 1
                case measure => simp [intOf]; omega
              | false =>
                have HLT : Hid (K.less ⟨kn, kp⟩ (strip ⟨f, q, s, v, a, dl, dc, deps, text⟩).key = false) := Lib.hid (HLS.out.trans hr)
                have hl1 : ∀ W, Calls Try.prog 30 #[.agg #[.int .u64 kn, .int .i64 kp], .agg #[.int .u64 s, .int .i64 f]] W fun e w' => e = .returned (.bool false) ∧ Grw W w' := fun W => by
                  have := hls kn kp s f W
                  rw [hr] at this
                  exact this
                clear hls hr
                go_wp2_with fail
                go_quiet_grown (first
                  | (go_at_call 31; exact Calls.grown_of (ho _ _ _ _ _ _ _ _ _))
                  | (go_at_call 30; exact Calls.grown_of (hl1 _)))
                have HB7 := Lib.hid (HB.out.trans ((Grw.below (w := wr) ⟨nq, osq, rfl⟩).mono HB.out.size))
                clear ho hl1 y0 y1 y2 y3 y4 y5 b0 b1
                go_wp2
                go_roundw
                case rel =>
                  refine ⟨i + 1, by omega, by go_num, ?_, HB7⟩
                  rw [HTK.out, List.filter_append, List.filter_cons_of_neg (by rw [HLT.out]; simp), List.filter_nil, List.append_nil, HN1.out]
                case measure => simp [intOf]; omega
            · have HB8 := Lib.hid (HB6.out.trans (HB.out.mono HB6.out.size))
              have hE : Hid (n0 + (((S.R p).take i).filter fun x => K.less ⟨kn, kp⟩ x.key).length = (catF S.R ⟨kn, kp⟩ (p + 1)).length) := Lib.hid (by
                rw [List.take_of_length_le (by rw [← HTN.out]; omega), HN0.out]
                show _ = (catF S.R ⟨kn, kp⟩ p ++ (S.R p).filter fun x => K.less ⟨kn, kp⟩ x.key).length
                rw [List.length_append])
              generalize n0 + (((S.R p).take i).filter fun x => K.less ⟨kn, kp⟩ x.key).length = n1 at *
              go_wp2
              go_roundw
              case rel => exact ⟨p + 1, by omega, by go_num, by rw [← hE.out], HB8⟩
              case measure => simp [intOf]; omega
        · have e64 : catF S.R ⟨kn, kp⟩ p = O := HOO.out p (by omega)
          rw [e64, HCN.out]
          clear e64
          have HBS := HB
          go_wp2_with fail
          go_loopw [12] (fun si wr => ∃ i : Nat, i ≤ sn ∧ si = .int .i64 i ∧ Hid (Below w5.heap.size w5 wr)) (fun si _ => sn - (intOf si).toNat)
          case atStart => exact ⟨0, Nat.zero_le _, rfl, HBS⟩
          case round =>
            obtain ⟨i, hi, rfl, HB⟩ := hrel
            by_cases hlt2 : i < sn
            · have hsl := HYO.out.slot
              rcases hsl with ⟨h0, _⟩ | ⟨lb, lf, hsa, hR⟩
              · exfalso; injection h0 with _ h0 _; omega
              simp only at hsa
              subst hsa
              obtain ⟨y, hy⟩ : ∃ y, Y[i]? = some y := ⟨_, List.getElem?_eq_getElem (by rw [HYN.out]; exact hlt2)⟩
              have hcl : ∀ (j : Nat) (z : Mg), Y[j]? = some z → ∀ c v, (encG z)[c]? = some v → w5.cell? ⟨lb, lf + j * 6 + c, none⟩ = some v := fun j z hz c v hv => by
                have hc : c < 6 := by have := (List.getElem?_eq_some_iff.1 hv).1; rwa [encG_length] at this
                rw [Nat.add_assoc]
                exact hR.cell _ _ (by rw [flat_at encG 6 encG_length Y j z hz c hc]; exact hv)
              -- where the message stands
              have hmem : strip y ∈ O.map strip := (HYS.out.fil.mem _).1 (List.mem_map_of_mem (List.mem_of_getElem? hy))
              rw [← HOO.out 64 rfl] at hmem
              obtain ⟨y', hy', hye⟩ := List.mem_map.1 hmem
              obtain ⟨p, hp, hpm, hless⟩ := catF_mem S.R ⟨kn, kp⟩ y' 64 hy'
              obtain ⟨j, hj, hje⟩ := List.getElem_of_mem hpm
              have hjs : (S.R p)[j]? = some y' := by rw [List.getElem?_eq_getElem hj, hje]
              have hys : strip y' = y' := by
                have h1 := R_str HR5.out p
                have h2 : ((S.R p).map strip)[j]? = some (strip y') := by rw [List.getElem?_map, hjs]; rfl
                rw [h1, hjs] at h2
                injection h2 with h2
                exact h2.symm
              obtain ⟨hf, hq⟩ := HNM.out p hp j y' hjs
              have hyf : y.f = (p : Int) := (strip_f hye.symm).trans hf
              obtain ⟨q, hqd⟩ : ∃ q : Nat, q = S.lo p + j + 1 := ⟨_, rfl⟩
              have hyq : y.q = (q : Int) := (strip_q hye.symm).trans (by rw [hq, hqd])
              have HGX : Hid (getX (onP 0 S.lo y.f) (onP [] S.R y.f) q = some (strip y)) := Lib.hid (by
                rw [hyf, onP_yes _ _ _ hp, onP_yes _ _ _ hp]
                unfold getX
                rw [if_pos (by omega), show q - S.lo p - 1 = j by omega, hjs, ← hys, hye])
              have HLT : Hid (K.less ⟨kn, kp⟩ ⟨y.s, y.f⟩ = true) := Lib.hid (by
                have : y'.key = y.key := by
                  show (⟨y'.s, y'.f⟩ : K) = ⟨y.s, y.f⟩
                  rw [strip_s hye, strip_f hye]
                rw [this] at hless
                exact hless)
              have HQB : Hid (q ≤ 1000) := Lib.hid (by
                have h1 := HR5.out.bnd p hp
                unfold Hs.cnt at h1
                omega)
              have HZ : Hid (∀ j, i = j + 1 → ∃ z : Mg, Y[j]? = some z ∧ (∀ c v, (encG z)[c]? = some v → w5.cell? ⟨lb, lf + j * 6 + c, none⟩ = some v) ∧ K.less ⟨y.s, y.f⟩ ⟨z.s, z.f⟩ = false) := Lib.hid fun j hij => by
                subst hij
                have hjl : j < Y.length := by rw [HYN.out]; omega
                refine ⟨Y[j], List.getElem?_eq_getElem hjl, hcl j _ (List.getElem?_eq_getElem hjl), ?_⟩
                have hsrt := HYS.out.srt
                unfold Srt at hsrt
                rw [List.pairwise_map] at hsrt
                have hil : j + 1 < Y.length := by rw [HYN.out]; exact hlt2
                have := List.pairwise_iff_getElem.1 hsrt j (j + 1) hjl hil (by omega)
                have hyy : Y[j + 1] = y := (List.getElem?_eq_some_iff.1 hy).2
                rw [hyy] at this
                exact this
              have hy1 := hcl i y hy 1 _ rfl
              have hy0 := hcl i y hy 0 _ rfl
              rw [hyq] at hy1
              rw [Nat.add_zero] at hy0
              have HEE : Hid (w5.cell? ⟨lb, lf + i * 6, none⟩ = some (.int .i64 y.f) ∧ w5.cell? ⟨lb, lf + i * 6 + 1, none⟩ = some (.int .u32 (q : Int))) := Lib.hid ⟨hy0, hy1⟩
              have e0 := cell_later HB.out hy0
              have e1 := cell_later HB.out hy1
              have HYC := Lib.hid (hcl i y hy)
              have HYD := Lib.hid (HYO.out.deps y (List.mem_of_getElem? hy)).deps
              have HLB := Lib.hid hR.lt
              clear hcl hmem hy' hye hpm hless hj hje hjs hys hf hq hyf hqd hyq hR hy hy0 hy1
              go_upto_region 28 with fail
              refine wp_region_held_drew (S := (fun w' => w'.cell? ⟨lb, lf + i * 6, none⟩ = some (.int .i64 y.f) ∧ w'.cell? ⟨lb, lf + i * 6 + 1, none⟩ = some (.int .u32 (q : Int)))) (by kernel_rfl) ⟨e0, e1⟩ (fun hHeld => ?_)
              have HB6 : Hid (Below w5.heap.size w5 wr.drew) := Lib.hid (HB.out.trans ((Grw.refl wr).drew.below.mono HB.out.size))
              clear HB e0 e1
              generalize wr.drew = w6 at *
              refine stake (i := 0) (v := (.pointer (some ⟨g, 0, none⟩))) 94 rfl (by kernel_rfl) (by kernel_rfl) (by kernel_rfl) (by kernel_rfl) (fun _ _ _ h => h) (.inl ⟨by kernel_rfl, fun w' hS => by (go_simp)⟩) hHeld ?_
              (try simp only [Act.put, List.setIfInBounds_toArray, List.set_cons_zero, List.set_cons_succ])
              refine stake (i := 1) (v := (.slice (some ⟨lb, lf, none⟩) sn sc)) 95 rfl (by kernel_rfl) (by kernel_rfl) (by kernel_rfl) (by kernel_rfl) (fun _ _ _ h => h) (.inl ⟨by kernel_rfl, fun w' hS => by (go_simp)⟩) hHeld ?_
              (try simp only [Act.put, List.setIfInBounds_toArray, List.set_cons_zero, List.set_cons_succ])
              refine stake (i := 2) (v := (.int .i64 (i : Int))) 96 rfl (by kernel_rfl) (by kernel_rfl) (by kernel_rfl) (by kernel_rfl) (fun _ _ _ h => h) (.inl ⟨by kernel_rfl, fun w' hS => by (go_simp)⟩) hHeld ?_
              (try simp only [Act.put, List.setIfInBounds_toArray, List.set_cons_zero, List.set_cons_succ])
              refine stake (i := 3) (v := (.pointer (some ⟨lb, lf + i * 6, none⟩))) 97 rfl (by kernel_rfl) (by kernel_rfl) (by kernel_rfl) (by kernel_rfl) (fun _ _ _ h => h) (.inl ⟨by kernel_rfl, fun w' hS => by (go_simp)⟩) hHeld ?_
              (try simp only [Act.put, List.setIfInBounds_toArray, List.set_cons_zero, List.set_cons_succ])
              refine stake (i := 4) (v := (.pointer (some ⟨lb, lf + i * 6, none⟩))) 98 rfl (by kernel_rfl) (by kernel_rfl) (by kernel_rfl) (by kernel_rfl) (fun _ _ _ h => h) (.inl ⟨by kernel_rfl, fun w' hS => by (go_simp)⟩) hHeld ?_
              (try simp only [Act.put, List.setIfInBounds_toArray, List.set_cons_zero, List.set_cons_succ])
              refine stake (i := 5) (v := (.int .i64 y.f)) 99 rfl (by kernel_rfl) (by kernel_rfl) (by kernel_rfl) (by kernel_rfl) (fun _ _ _ h => h) (.inl ⟨by kernel_rfl, fun w' hS => by (have hc := hS.1; go_simp)⟩) hHeld ?_
              (try simp only [Act.put, List.setIfInBounds_toArray, List.set_cons_zero, List.set_cons_succ])
              refine stake (i := 6) (v := (.slice (some ⟨lb, lf, none⟩) sn sc)) 100 rfl (by kernel_rfl) (by kernel_rfl) (by kernel_rfl) (by kernel_rfl) (fun _ _ _ h => h) (.inl ⟨by kernel_rfl, fun w' hS => by (go_simp)⟩) hHeld ?_
              (try simp only [Act.put, List.setIfInBounds_toArray, List.set_cons_zero, List.set_cons_succ])
              refine stake (i := 7) (v := (.int .i64 (i : Int))) 101 rfl (by kernel_rfl) (by kernel_rfl) (by kernel_rfl) (by kernel_rfl) (fun _ _ _ h => h) (.inl ⟨by kernel_rfl, fun w' hS => by (go_simp)⟩) hHeld ?_
              (try simp only [Act.put, List.setIfInBounds_toArray, List.set_cons_zero, List.set_cons_succ])
              refine stake (i := 8) (v := (.pointer (some ⟨lb, lf + i * 6, none⟩))) 102 rfl (by kernel_rfl) (by kernel_rfl) (by kernel_rfl) (by kernel_rfl) (fun _ _ _ h => h) (.inl ⟨by kernel_rfl, fun w' hS => by (go_simp)⟩) hHeld ?_
              (try simp only [Act.put, List.setIfInBounds_toArray, List.set_cons_zero, List.set_cons_succ])
              refine stake (i := 9) (v := (.pointer (some ⟨lb, lf + i * 6 + 1, none⟩))) 103 rfl (by kernel_rfl) (by kernel_rfl) (by kernel_rfl) (by kernel_rfl) (fun _ _ _ h => h) (.inl ⟨by kernel_rfl, fun w' hS => by (go_simp)⟩) hHeld ?_
              (try simp only [Act.put, List.setIfInBounds_toArray, List.set_cons_zero, List.set_cons_succ])
              refine stake (i := 10) (v := (.int .u32 (q : Int))) 104 rfl (by kernel_rfl) (by kernel_rfl) (by kernel_rfl) (by kernel_rfl) (fun _ _ _ h => h) (.inl ⟨by kernel_rfl, fun w' hS => by (have hc := hS.2; go_simp)⟩) hHeld ?_
              (try simp only [Act.put, List.setIfInBounds_toArray, List.set_cons_zero, List.set_cons_succ])
              refine wpAnyH_ready (rs := [11, 15]) (by kernel_rfl) (by simp) (AllReadyH.cons rfl (fun K hK => ?_) (AllReadyH.cons rfl (fun K hK => ?_) AllReadyH.nil))
              · have PG := hs_get (HR5.out.below HB6.out) (by omega) y.f q (by have := HQB.out; omega)
                rw [HGX.out] at PG
                clear hHeld
                rw [if_pos (by kernel_rfl)]
                go_simp
                refine PG.mono ?_
                rintro e w7 hs
                cases hs with
                | yes m x w' k1 k2 k3 =>
                  have HB7 := Lib.hid (HB6.out.trans (k3.mono HB6.out.size))
                  have hS7 : w7.cell? ⟨lb, lf + i * 6, none⟩ = some (.int .i64 y.f) ∧ w7.cell? ⟨lb, lf + i * 6 + 1, none⟩ = some (.int .u32 (q : Int)) := ⟨cell_later HB7.out HEE.out.1, cell_later HB7.out HEE.out.2⟩
                  have HXX := Lib.hid (And.intro (k1.trans (strip_strip _)) (And.intro True.intro k2.few))
                  have HXK := Lib.hid k2
                  refine hK.out _ _ hS7 (fun hHeld => ?_)
                  clear hK K PG k1 k2 k3 hS7
                  (try simp only [Act.put, List.setIfInBounds_toArray, List.set_cons_zero, List.set_cons_succ])
                  refine stake (i := 12) (v := (.tuple #[valG x, .bool true])) 93 rfl (by kernel_rfl) (by kernel_rfl) (by kernel_rfl) (by kernel_rfl) (fun _ _ _ h => h) (.inl ⟨by kernel_rfl, fun w' hS => by (go_simp)⟩) hHeld ?_
                  (try simp only [Act.put, List.setIfInBounds_toArray, List.set_cons_zero, List.set_cons_succ])
                  refine stake (i := 13) (v := (valG x)) 106 rfl (by kernel_rfl) (by kernel_rfl) (by kernel_rfl) (by kernel_rfl) (fun _ _ _ h => h) (.inl ⟨by kernel_rfl, fun w' hS => by (go_simp)⟩) hHeld ?_
                  (try simp only [Act.put, List.setIfInBounds_toArray, List.set_cons_zero, List.set_cons_succ])
                  refine stake (i := 14) (v := (.bool true)) 107 rfl (by kernel_rfl) (by kernel_rfl) (by kernel_rfl) (by kernel_rfl) (fun _ _ _ h => h) (.inl ⟨by kernel_rfl, fun w' hS => by (go_simp)⟩) hHeld ?_
                  (try simp only [Act.put, List.setIfInBounds_toArray, List.set_cons_zero, List.set_cons_succ])
                  refine wpAnyH_ready (rs := [15]) (by kernel_rfl) (by simp) (AllReadyH.cons rfl (fun K hK => ?_) AllReadyH.nil)
                  clear hHeld
                  rw [if_pos (by kernel_rfl)]
                  go_simp
                  have HM8 := Lib.hid (MgB.new w7 zeroG)
                  have HB8 := Lib.hid (HB7.out.trans (((Grw.refl w7).alloc (.cells #[.int .i64 0, .int .u32 0, .int .u64 0, .int .i64 0, .slice none 0 0, .string { data := #[] }] 37)).below.mono HB7.out.size))
                  have hS8 : (w7.alloc (.cells #[.int .i64 0, .int .u32 0, .int .u64 0, .int .i64 0, .slice none 0 0, .string { data := #[] }] 37)).cell? ⟨lb, lf + i * 6, none⟩ = some (.int .i64 y.f) ∧ (w7.alloc (.cells #[.int .i64 0, .int .u32 0, .int .u64 0, .int .i64 0, .slice none 0 0, .string { data := #[] }] 37)).cell? ⟨lb, lf + i * 6 + 1, none⟩ = some (.int .u32 (q : Int)) := ⟨cell_later HB8.out HEE.out.1, cell_later HB8.out HEE.out.2⟩
                  have hmb : w5.heap.size ≤ w7.heap.size := HB7.out.size
                  have HXM : Hid (DpIn (w7.alloc (.cells #[.int .i64 0, .int .u32 0, .int .u64 0, .int .i64 0, .slice none 0 0, .string { data := #[] }] 37)) x ∧ ∀ ad, x.a = some ad → ad.block ≠ w7.heap.size) := Lib.hid ⟨(HXK.out.below ((Grw.refl w7).alloc _).below).deps, fun ad e => by have := HXK.out.lt ad e; omega⟩
                  clear HXK
                  have HM8' : Hid (MgB (w7.alloc (.cells #[.int .i64 0, .int .u32 0, .int .u64 0, .int .i64 0, .slice none 0 0, .string { data := #[] }] 37)) w7.heap.size zeroG) := HM8
                  clear HM8
                  have HM8 := HM8'
                  clear HM8'
                  refine hK.out _ _ hS8 (fun hHeld => ?_)
                  clear hK K hS8
                  (try simp only [Act.put, List.setIfInBounds_toArray, List.set_cons_zero, List.set_cons_succ])
                  generalize w7.alloc (.cells #[.int .i64 0, .int .u32 0, .int .u64 0, .int .i64 0, .slice none 0 0, .string { data := #[] }] 37) = w8 at *
                  generalize w7.heap.size = mb at *
                  have HMT : Hid (w8.there mb 0 (encG x).toArray.size) := Lib.hid (mgb_there HM8.out x)
                  refine wpAnyH_ready (rs := [16]) (by kernel_rfl) (by simp) (AllReadyH.cons rfl (fun K hK => ?_) AllReadyH.nil)
                  clear hHeld
                  rw [if_pos (by kernel_rfl)]
                  refine wp_store_mid 37 (.tmp 13) (.tmp 106) rfl mb 0 (encG x).toArray rfl rfl (HMT.out) msg_size (mg_one x) ?_
                  have HM9 : Hid (MgB (w8.setCells mb 0 (encG x)) mb x) := Lib.hid (mgb_cells HM8.out x)
                  have HB9 : Hid (Below w5.heap.size w5 (w8.setCells mb 0 (encG x))) := Lib.hid (below_cells HB8.out mb 0 (encG x) hmb)
                  have HXD : Hid (DpIn (w8.setCells mb 0 (encG x)) x) := Lib.hid (HXM.out.1.moved fun ad e => cells_other12 mb (encG x) 0 w8 ad.block (HXM.out.2 ad e))
                  have hS9 : (w8.setCells mb 0 (encG x)).cell? ⟨lb, lf + i * 6, none⟩ = some (.int .i64 y.f) ∧ (w8.setCells mb 0 (encG x)).cell? ⟨lb, lf + i * 6 + 1, none⟩ = some (.int .u32 (q : Int)) := ⟨cell_later HB9.out HEE.out.1, cell_later HB9.out HEE.out.2⟩
                  refine hK.out _ _ hS9 (fun hHeld => ?_)
                  clear hK K hS9 HM8 HB8 HMT HXM
                  (try simp only [Act.put, List.setIfInBounds_toArray, List.set_cons_zero, List.set_cons_succ])
                  generalize w8.setCells mb 0 (encG x) = w9 at *
                  refine stake (i := 17) (v := (.bool true)) 14 rfl (by kernel_rfl) (by kernel_rfl) (by kernel_rfl) (by kernel_rfl) (fun _ _ _ h => h) (.inl ⟨by kernel_rfl, fun w' hS => by (go_simp)⟩) hHeld ?_
                  (try simp only [Act.put, List.setIfInBounds_toArray, List.set_cons_zero, List.set_cons_succ])
                  refine wpAnyH_done (by kernel_rfl) ?_ _
                  clear hHeld
                  have HMX := HM9
                  have HBX := HB9
                  clear HM9 HB9 HEE HGX
                  generalize w9 = wz at *
                  go_upto_region 29 with fail
                  obtain ⟨xf, xq, xs, xv, xa, xdl, xdc, xdeps, xt⟩ := x
                  obtain ⟨yf, yq, ys, yv, ya, ydl, ydc, ydeps, yt⟩ := y
                  have hyc : ∀ c v, (encG ⟨yf, yq, ys, yv, ya, ydl, ydc, ydeps, yt⟩)[c]? = some v → wz.cell? ⟨lb, lf + i * 6 + c, none⟩ = some v := fun c v hv => cell_later HBX.out (HYC.out c v hv)
                  have hyl : lb < wz.heap.size := Nat.lt_of_lt_of_le HLB.out HBX.out.size
                  have x0 := fun n os => cell_grown (n := n) (os := os) HMX.out.lt (HMX.out.own.at_ 0 _ rfl)
                  have x1 := fun n os => cell_grown (n := n) (os := os) HMX.out.lt (HMX.out.own.at_ 1 _ rfl)
                  have x2 := fun n os => cell_grown (n := n) (os := os) HMX.out.lt (HMX.out.own.at_ 2 _ rfl)
                  have x3 := fun n os => cell_grown (n := n) (os := os) HMX.out.lt (HMX.out.own.at_ 3 _ rfl)
                  have x4 := fun n os => cell_grown (n := n) (os := os) HMX.out.lt (HMX.out.own.at_ 4 _ rfl)
                  have x5 := fun n os => cell_grown (n := n) (os := os) HMX.out.lt (HMX.out.own.at_ 5 _ rfl)
                  have y0 := fun n os => cell_grown (a := ⟨lb, lf + i * 6 + 0, none⟩) (n := n) (os := os) hyl (hyc 0 _ rfl)
                  have y1 := fun n os => cell_grown (a := ⟨lb, lf + i * 6 + 1, none⟩) (n := n) (os := os) hyl (hyc 1 _ rfl)
                  have y2 := fun n os => cell_grown (a := ⟨lb, lf + i * 6 + 2, none⟩) (n := n) (os := os) hyl (hyc 2 _ rfl)
                  have y3 := fun n os => cell_grown (a := ⟨lb, lf + i * 6 + 3, none⟩) (n := n) (os := os) hyl (hyc 3 _ rfl)
                  have y4 := fun n os => cell_grown (a := ⟨lb, lf + i * 6 + 4, none⟩) (n := n) (os := os) hyl (hyc 4 _ rfl)
                  have y5 := fun n os => cell_grown (a := ⟨lb, lf + i * 6 + 5, none⟩) (n := n) (os := os) hyl (hyc 5 _ rfl)
                  simp only [Nat.add_zero] at y0
                  simp only at y1 y2 y3 y4 y5
                  try simp only at x0
                  try simp only at x1
                  try simp only at x2
                  try simp only at x3
                  try simp only at x4
                  try simp only at x5
                  have hkl : kb < wz.heap.size := Nat.lt_of_lt_of_le HKB.out.1 HBX.out.size
                  have b0 := fun n os => cell_grown (a := ⟨kb, 0, none⟩) (n := n) (os := os) hkl (cell_later HBX.out HKB.out.2.1)
                  have b1 := fun n os => cell_grown (a := ⟨kb, 1, none⟩) (n := n) (os := os) hkl (cell_later HBX.out HKB.out.2.2)
                  have hsm : ∀ n os, Calls Try.prog 17 #[.agg #[.int .i64 xf, .int .u32 xq, .int .u64 xs, .int .i64 xv, .slice xa xdl xdc, .string xt], .agg #[.int .i64 yf, .int .u32 yq, .int .u64 ys, .int .i64 yv, .slice ya ydl ydc, .string yt]] (grow (wz.drewN n) os) fun e w' => e = .returned (.bool true) ∧ ∃ q os', w' = grow ((grow (wz.drewN n) os).drewN q) os' := fun n os => by
                    have h1 : DpIn wz ⟨xf, xq, xs, xv, xa, xdl, xdc, xdeps, xt⟩ := HXD.out
                    have := sameG_any ⟨xf, xq, xs, xv, xa, xdl, xdc, xdeps, xt⟩ ⟨yf, yq, ys, yv, ya, ydl, ydc, ydeps, yt⟩ (grow (wz.drewN n) os) (h1.below (Grw.below ⟨n, os, rfl⟩)) ((Lst.below HYD.out HBX.out).below (Grw.below ⟨n, os, rfl⟩)) HXX.out.2.2
                    rw [strip_same HXX.out.1] at this
                    exact this
                  have ho : ∀ (f q s v : Int) (a : Option Addr) (dl dc : Nat) (text : ByteArray) W, Calls Try.prog 31 #[.agg #[.int .i64 f, .int .u32 q, .int .u64 s, .int .i64 v, .slice a dl dc, .string text]] W fun e w' => e = .returned (.agg #[.int .u64 s, .int .i64 f]) ∧ Grw W w' :=
                    fun f q s v a dl dc text W => refOf_any ⟨f, q, s, v, a, dl, dc, [], text⟩ W
                  have hls : ∀ (an ap bn bp : Int) W, Calls Try.prog 30 #[.agg #[.int .u64 an, .int .i64 ap], .agg #[.int .u64 bn, .int .i64 bp]] W fun e w' => e = .returned (.bool (lessB an ap bn bp)) ∧ Grw W w' := fun an ap bn bp W => less_any ⟨an, ap⟩ ⟨bn, bp⟩ W
                  have hl1 : ∀ W, Calls Try.prog 30 #[.agg #[.int .u64 kn, .int .i64 kp], .agg #[.int .u64 ys, .int .i64 yf]] W fun e w' => e = .returned (.bool true) ∧ Grw W w' := fun W => by
                    have := hls kn kp ys yf W
                    rw [show lessB kn kp ys yf = true from HLT.out] at this
                    exact this
                  clear hyc HYC
                  rcases Nat.eq_zero_or_pos i with hi0 | hi0
                  · have hd1 : decide (0 < i) = false := by rw [hi0]; rfl
                    have hd2 : decide ((0 : Int) < (i : Int)) = false := by rw [hi0]; rfl
                    clear hi0
                    refine wp_region_quiet_grown (by assumption) (by kernel_rfl) ?_
                    repeat (first | go_big_quiet_skip | quiet_step (first
                      | (go_at_call 17; exact Calls.grown_of (hsm _ _))
                      | (go_at_call 31; exact Calls.grown_of (ho _ _ _ _ _ _ _ _ _))
                      | (go_at_call 30; with_reducible exact Calls.grown_of (hl1 _))))
                    refine wpQuiet_nil ?_
                    intro _ hw'
                    obtain ⟨⟨nq, osq⟩, hw''⟩ := hw'
                    subst hw''
                    have HB10 := Lib.hid (HBX.out.trans ((Grw.below (w := wz) ⟨nq, osq, rfl⟩).mono HBX.out.size))
                    clear hd1 hd2 hsm ho hls x0 x1 x2 x3 x4 x5 y0 y1 y2 y3 y4 y5 b0 b1
                    go_wp2
                    go_roundw
                    case rel => exact ⟨i + 1, by omega, by go_num, HB10⟩
                    case measure => simp [intOf]; omega
                  · obtain ⟨j, hij⟩ : ∃ j, i = j + 1 := ⟨i - 1, by omega⟩
                    obtain ⟨z, hz1, hz2, hz3⟩ := HZ.out j hij
                    have hjz : (i : Int) - 1 = (j : Int) := by omega
                    have hW : IntKind.i64.wrap (j : Int) = (j : Int) := by rw [IntKind.wrap_i64]; omega
                    have hjl : j < sn := by omega
                    have hjlz : (j : Int) < (sn : Int) := by omega
                    clear hij
                    obtain ⟨zf, zq, zs, zv, za, zdl, zdc, zdeps, zt⟩ := z
                    have hzc : ∀ c v, (encG ⟨zf, zq, zs, zv, za, zdl, zdc, zdeps, zt⟩)[c]? = some v → wz.cell? ⟨lb, lf + j * 6 + c, none⟩ = some v := fun c v hv => cell_later HBX.out (hz2 c v hv)
                    have z0 := fun n os => cell_grown (a := ⟨lb, lf + j * 6 + 0, none⟩) (n := n) (os := os) hyl (hzc 0 _ rfl)
                    have z1 := fun n os => cell_grown (a := ⟨lb, lf + j * 6 + 1, none⟩) (n := n) (os := os) hyl (hzc 1 _ rfl)
                    have z2 := fun n os => cell_grown (a := ⟨lb, lf + j * 6 + 2, none⟩) (n := n) (os := os) hyl (hzc 2 _ rfl)
                    have z3 := fun n os => cell_grown (a := ⟨lb, lf + j * 6 + 3, none⟩) (n := n) (os := os) hyl (hzc 3 _ rfl)
                    have z4 := fun n os => cell_grown (a := ⟨lb, lf + j * 6 + 4, none⟩) (n := n) (os := os) hyl (hzc 4 _ rfl)
                    have z5 := fun n os => cell_grown (a := ⟨lb, lf + j * 6 + 5, none⟩) (n := n) (os := os) hyl (hzc 5 _ rfl)
                    simp only [Nat.add_zero] at z0
                    simp only at z1 z2 z3 z4 z5
                    have hl2 : ∀ W, Calls Try.prog 30 #[.agg #[.int .u64 ys, .int .i64 yf], .agg #[.int .u64 zs, .int .i64 zf]] W fun e w' => e = .returned (.bool false) ∧ Grw W w' := fun W => by
                      have := hls ys yf zs zf W
                      rw [show lessB ys yf zs zf = false from hz3] at this
                      exact this
                    clear hzc hz1 hz2 hz3
                    refine wp_region_quiet_grown (by assumption) (by kernel_rfl) ?_
                    repeat (first | go_big_quiet_skip | quiet_step (first
                      | (go_at_call 17; exact Calls.grown_of (hsm _ _))
                      | (go_at_call 31; exact Calls.grown_of (ho _ _ _ _ _ _ _ _ _))
                      | (go_at_call 30; first | (with_reducible exact Calls.grown_of (hl1 _)) | (with_reducible exact Calls.grown_of (hl2 _)))))
                    refine wpQuiet_nil ?_
                    intro _ hw'
                    obtain ⟨⟨nq, osq⟩, hw''⟩ := hw'
                    subst hw''
                    have HB10 := Lib.hid (HBX.out.trans ((Grw.below (w := wz) ⟨nq, osq, rfl⟩).mono HBX.out.size))
                    clear hjz hW hsm ho hls x0 x1 x2 x3 x4 x5 y0 y1 y2 y3 y4 y5 b0 b1 z0 z1 z2 z3 z4 z5
                    go_wp2
                    go_roundw
                    case rel => exact ⟨i + 1, by omega, by go_num, HB10⟩
                    case measure => simp [intOf]; omega
              · clear hHeld
                rw [if_pos (by kernel_rfl)]
                go_simp
                have HM7 := Lib.hid (MgB.new w6 zeroG)
                have HB7 := Lib.hid (HB6.out.trans (((Grw.refl w6).alloc (.cells #[.int .i64 0, .int .u32 0, .int .u64 0, .int .i64 0, .slice none 0 0, .string { data := #[] }] 37)).below.mono HB6.out.size))
                have hS7 : (w6.alloc (.cells #[.int .i64 0, .int .u32 0, .int .u64 0, .int .i64 0, .slice none 0 0, .string { data := #[] }] 37)).cell? ⟨lb, lf + i * 6, none⟩ = some (.int .i64 y.f) ∧ (w6.alloc (.cells #[.int .i64 0, .int .u32 0, .int .u64 0, .int .i64 0, .slice none 0 0, .string { data := #[] }] 37)).cell? ⟨lb, lf + i * 6 + 1, none⟩ = some (.int .u32 (q : Int)) := ⟨cell_later HB7.out HEE.out.1, cell_later HB7.out HEE.out.2⟩
                have hmb : w5.heap.size ≤ w6.heap.size := HB6.out.size
                have HM7' : Hid (MgB (w6.alloc (.cells #[.int .i64 0, .int .u32 0, .int .u64 0, .int .i64 0, .slice none 0 0, .string { data := #[] }] 37)) w6.heap.size zeroG) := HM7
                clear HM7
                have HM7 := HM7'
                clear HM7'
                refine hK.out _ _ hS7 (fun hHeld => ?_)
                clear hK K hS7
                (try simp only [Act.put, List.setIfInBounds_toArray, List.set_cons_zero, List.set_cons_succ])
                generalize w6.alloc (.cells #[.int .i64 0, .int .u32 0, .int .u64 0, .int .i64 0, .slice none 0 0, .string { data := #[] }] 37) = w7 at *
                generalize w6.heap.size = mb at *
                refine wpAnyH_ready (rs := [11]) (by kernel_rfl) (by simp) (AllReadyH.cons rfl (fun K hK => ?_) AllReadyH.nil)
                have PG := hs_get (HR5.out.below HB7.out) (by omega) y.f q (by have := HQB.out; omega)
                rw [HGX.out] at PG
                clear hHeld
                rw [if_pos (by kernel_rfl)]
                go_simp
                refine PG.mono ?_
                rintro e w8 hs
                cases hs with
                | yes m x w' k1 k2 k3 =>
                  have HB8 := Lib.hid (HB7.out.trans (k3.mono HB7.out.size))
                  have hS8 : w8.cell? ⟨lb, lf + i * 6, none⟩ = some (.int .i64 y.f) ∧ w8.cell? ⟨lb, lf + i * 6 + 1, none⟩ = some (.int .u32 (q : Int)) := ⟨cell_later HB8.out HEE.out.1, cell_later HB8.out HEE.out.2⟩
                  have HXX := Lib.hid (And.intro (k1.trans (strip_strip _)) (And.intro True.intro k2.few))
                  have HXK := Lib.hid k2
                  have HM8 := Lib.hid (HM7.out.later k3)
                  have hmbl := HM7.out.lt
                  have HXM : Hid (DpIn w8 x ∧ ∀ ad, x.a = some ad → ad.block ≠ mb) := Lib.hid ⟨k2.deps, fun ad e => by have := (k2.typ ad e).1; omega⟩
                  clear hmbl HXK
                  refine hK.out _ _ hS8 (fun hHeld => ?_)
                  clear hK K HM7 PG k1 k2 k3 hS8
                  (try simp only [Act.put, List.setIfInBounds_toArray, List.set_cons_zero, List.set_cons_succ])
                  refine stake (i := 12) (v := (.tuple #[valG x, .bool true])) 93 rfl (by kernel_rfl) (by kernel_rfl) (by kernel_rfl) (by kernel_rfl) (fun _ _ _ h => h) (.inl ⟨by kernel_rfl, fun w' hS => by (go_simp)⟩) hHeld ?_
                  (try simp only [Act.put, List.setIfInBounds_toArray, List.set_cons_zero, List.set_cons_succ])
                  refine stake (i := 13) (v := (valG x)) 106 rfl (by kernel_rfl) (by kernel_rfl) (by kernel_rfl) (by kernel_rfl) (fun _ _ _ h => h) (.inl ⟨by kernel_rfl, fun w' hS => by (go_simp)⟩) hHeld ?_
                  (try simp only [Act.put, List.setIfInBounds_toArray, List.set_cons_zero, List.set_cons_succ])
                  refine stake (i := 14) (v := (.bool true)) 107 rfl (by kernel_rfl) (by kernel_rfl) (by kernel_rfl) (by kernel_rfl) (fun _ _ _ h => h) (.inl ⟨by kernel_rfl, fun w' hS => by (go_simp)⟩) hHeld ?_
                  (try simp only [Act.put, List.setIfInBounds_toArray, List.set_cons_zero, List.set_cons_succ])
                  have HMT : Hid (w8.there mb 0 (encG x).toArray.size) := Lib.hid (mgb_there HM8.out x)
                  refine wpAnyH_ready (rs := [16]) (by kernel_rfl) (by simp) (AllReadyH.cons rfl (fun K hK => ?_) AllReadyH.nil)
                  clear hHeld
                  rw [if_pos (by kernel_rfl)]
                  refine wp_store_mid 37 (.tmp 13) (.tmp 106) rfl mb 0 (encG x).toArray rfl rfl (HMT.out) msg_size (mg_one x) ?_
                  have HM9 : Hid (MgB (w8.setCells mb 0 (encG x)) mb x) := Lib.hid (mgb_cells HM8.out x)
                  have HB9 : Hid (Below w5.heap.size w5 (w8.setCells mb 0 (encG x))) := Lib.hid (below_cells HB8.out mb 0 (encG x) hmb)
                  have HXD : Hid (DpIn (w8.setCells mb 0 (encG x)) x) := Lib.hid (HXM.out.1.moved fun ad e => cells_other12 mb (encG x) 0 w8 ad.block (HXM.out.2 ad e))
                  have hS9 : (w8.setCells mb 0 (encG x)).cell? ⟨lb, lf + i * 6, none⟩ = some (.int .i64 y.f) ∧ (w8.setCells mb 0 (encG x)).cell? ⟨lb, lf + i * 6 + 1, none⟩ = some (.int .u32 (q : Int)) := ⟨cell_later HB9.out HEE.out.1, cell_later HB9.out HEE.out.2⟩
                  refine hK.out _ _ hS9 (fun hHeld => ?_)
                  clear hK K hS9 HM8 HB8 HMT HXM
                  (try simp only [Act.put, List.setIfInBounds_toArray, List.set_cons_zero, List.set_cons_succ])
                  generalize w8.setCells mb 0 (encG x) = w9 at *
                  refine stake (i := 17) (v := (.bool true)) 14 rfl (by kernel_rfl) (by kernel_rfl) (by kernel_rfl) (by kernel_rfl) (fun _ _ _ h => h) (.inl ⟨by kernel_rfl, fun w' hS => by (go_simp)⟩) hHeld ?_
                  (try simp only [Act.put, List.setIfInBounds_toArray, List.set_cons_zero, List.set_cons_succ])
                  refine wpAnyH_done (by kernel_rfl) ?_ _
                  clear hHeld
                  have HMX := HM9
                  have HBX := HB9
                  clear HM9 HB9 HEE HGX
                  generalize w9 = wz at *
                  go_upto_region 29 with fail
                  obtain ⟨xf, xq, xs, xv, xa, xdl, xdc, xdeps, xt⟩ := x
                  obtain ⟨yf, yq, ys, yv, ya, ydl, ydc, ydeps, yt⟩ := y
                  have hyc : ∀ c v, (encG ⟨yf, yq, ys, yv, ya, ydl, ydc, ydeps, yt⟩)[c]? = some v → wz.cell? ⟨lb, lf + i * 6 + c, none⟩ = some v := fun c v hv => cell_later HBX.out (HYC.out c v hv)
                  have hyl : lb < wz.heap.size := Nat.lt_of_lt_of_le HLB.out HBX.out.size
                  have x0 := fun n os => cell_grown (n := n) (os := os) HMX.out.lt (HMX.out.own.at_ 0 _ rfl)
                  have x1 := fun n os => cell_grown (n := n) (os := os) HMX.out.lt (HMX.out.own.at_ 1 _ rfl)
                  have x2 := fun n os => cell_grown (n := n) (os := os) HMX.out.lt (HMX.out.own.at_ 2 _ rfl)
                  have x3 := fun n os => cell_grown (n := n) (os := os) HMX.out.lt (HMX.out.own.at_ 3 _ rfl)
                  have x4 := fun n os => cell_grown (n := n) (os := os) HMX.out.lt (HMX.out.own.at_ 4 _ rfl)
                  have x5 := fun n os => cell_grown (n := n) (os := os) HMX.out.lt (HMX.out.own.at_ 5 _ rfl)
                  have y0 := fun n os => cell_grown (a := ⟨lb, lf + i * 6 + 0, none⟩) (n := n) (os := os) hyl (hyc 0 _ rfl)
                  have y1 := fun n os => cell_grown (a := ⟨lb, lf + i * 6 + 1, none⟩) (n := n) (os := os) hyl (hyc 1 _ rfl)
                  have y2 := fun n os => cell_grown (a := ⟨lb, lf + i * 6 + 2, none⟩) (n := n) (os := os) hyl (hyc 2 _ rfl)
                  have y3 := fun n os => cell_grown (a := ⟨lb, lf + i * 6 + 3, none⟩) (n := n) (os := os) hyl (hyc 3 _ rfl)
                  have y4 := fun n os => cell_grown (a := ⟨lb, lf + i * 6 + 4, none⟩) (n := n) (os := os) hyl (hyc 4 _ rfl)
                  have y5 := fun n os => cell_grown (a := ⟨lb, lf + i * 6 + 5, none⟩) (n := n) (os := os) hyl (hyc 5 _ rfl)
                  simp only [Nat.add_zero] at y0
                  simp only at y1 y2 y3 y4 y5
                  try simp only at x0
                  try simp only at x1
                  try simp only at x2
                  try simp only at x3
                  try simp only at x4
                  try simp only at x5
                  have hkl : kb < wz.heap.size := Nat.lt_of_lt_of_le HKB.out.1 HBX.out.size
                  have b0 := fun n os => cell_grown (a := ⟨kb, 0, none⟩) (n := n) (os := os) hkl (cell_later HBX.out HKB.out.2.1)
                  have b1 := fun n os => cell_grown (a := ⟨kb, 1, none⟩) (n := n) (os := os) hkl (cell_later HBX.out HKB.out.2.2)
                  have hsm : ∀ n os, Calls Try.prog 17 #[.agg #[.int .i64 xf, .int .u32 xq, .int .u64 xs, .int .i64 xv, .slice xa xdl xdc, .string xt], .agg #[.int .i64 yf, .int .u32 yq, .int .u64 ys, .int .i64 yv, .slice ya ydl ydc, .string yt]] (grow (wz.drewN n) os) fun e w' => e = .returned (.bool true) ∧ ∃ q os', w' = grow ((grow (wz.drewN n) os).drewN q) os' := fun n os => by
                    have h1 : DpIn wz ⟨xf, xq, xs, xv, xa, xdl, xdc, xdeps, xt⟩ := HXD.out
                    have := sameG_any ⟨xf, xq, xs, xv, xa, xdl, xdc, xdeps, xt⟩ ⟨yf, yq, ys, yv, ya, ydl, ydc, ydeps, yt⟩ (grow (wz.drewN n) os) (h1.below (Grw.below ⟨n, os, rfl⟩)) ((Lst.below HYD.out HBX.out).below (Grw.below ⟨n, os, rfl⟩)) HXX.out.2.2
                    rw [strip_same HXX.out.1] at this
                    exact this
                  have ho : ∀ (f q s v : Int) (a : Option Addr) (dl dc : Nat) (text : ByteArray) W, Calls Try.prog 31 #[.agg #[.int .i64 f, .int .u32 q, .int .u64 s, .int .i64 v, .slice a dl dc, .string text]] W fun e w' => e = .returned (.agg #[.int .u64 s, .int .i64 f]) ∧ Grw W w' :=
                    fun f q s v a dl dc text W => refOf_any ⟨f, q, s, v, a, dl, dc, [], text⟩ W
                  have hls : ∀ (an ap bn bp : Int) W, Calls Try.prog 30 #[.agg #[.int .u64 an, .int .i64 ap], .agg #[.int .u64 bn, .int .i64 bp]] W fun e w' => e = .returned (.bool (lessB an ap bn bp)) ∧ Grw W w' := fun an ap bn bp W => less_any ⟨an, ap⟩ ⟨bn, bp⟩ W
                  have hl1 : ∀ W, Calls Try.prog 30 #[.agg #[.int .u64 kn, .int .i64 kp], .agg #[.int .u64 ys, .int .i64 yf]] W fun e w' => e = .returned (.bool true) ∧ Grw W w' := fun W => by
                    have := hls kn kp ys yf W
                    rw [show lessB kn kp ys yf = true from HLT.out] at this
                    exact this
                  clear hyc HYC
                  rcases Nat.eq_zero_or_pos i with hi0 | hi0
                  · have hd1 : decide (0 < i) = false := by rw [hi0]; rfl
                    have hd2 : decide ((0 : Int) < (i : Int)) = false := by rw [hi0]; rfl
                    clear hi0
                    refine wp_region_quiet_grown (by assumption) (by kernel_rfl) ?_
                    repeat (first | go_big_quiet_skip | quiet_step (first
                      | (go_at_call 17; exact Calls.grown_of (hsm _ _))
                      | (go_at_call 31; exact Calls.grown_of (ho _ _ _ _ _ _ _ _ _))
                      | (go_at_call 30; with_reducible exact Calls.grown_of (hl1 _))))
                    refine wpQuiet_nil ?_
                    intro _ hw'
                    obtain ⟨⟨nq, osq⟩, hw''⟩ := hw'
                    subst hw''
                    have HB10 := Lib.hid (HBX.out.trans ((Grw.below (w := wz) ⟨nq, osq, rfl⟩).mono HBX.out.size))
                    clear hd1 hd2 hsm ho hls x0 x1 x2 x3 x4 x5 y0 y1 y2 y3 y4 y5 b0 b1
                    go_wp2
                    go_roundw
                    case rel => exact ⟨i + 1, by omega, by go_num, HB10⟩
                    case measure => simp [intOf]; omega
                  · obtain ⟨j, hij⟩ : ∃ j, i = j + 1 := ⟨i - 1, by omega⟩
                    obtain ⟨z, hz1, hz2, hz3⟩ := HZ.out j hij
                    have hjz : (i : Int) - 1 = (j : Int) := by omega
                    have hW : IntKind.i64.wrap (j : Int) = (j : Int) := by rw [IntKind.wrap_i64]; omega
                    have hjl : j < sn := by omega
                    have hjlz : (j : Int) < (sn : Int) := by omega
                    clear hij
                    obtain ⟨zf, zq, zs, zv, za, zdl, zdc, zdeps, zt⟩ := z
                    have hzc : ∀ c v, (encG ⟨zf, zq, zs, zv, za, zdl, zdc, zdeps, zt⟩)[c]? = some v → wz.cell? ⟨lb, lf + j * 6 + c, none⟩ = some v := fun c v hv => cell_later HBX.out (hz2 c v hv)
                    have z0 := fun n os => cell_grown (a := ⟨lb, lf + j * 6 + 0, none⟩) (n := n) (os := os) hyl (hzc 0 _ rfl)
                    have z1 := fun n os => cell_grown (a := ⟨lb, lf + j * 6 + 1, none⟩) (n := n) (os := os) hyl (hzc 1 _ rfl)
                    have z2 := fun n os => cell_grown (a := ⟨lb, lf + j * 6 + 2, none⟩) (n := n) (os := os) hyl (hzc 2 _ rfl)
                    have z3 := fun n os => cell_grown (a := ⟨lb, lf + j * 6 + 3, none⟩) (n := n) (os := os) hyl (hzc 3 _ rfl)
                    have z4 := fun n os => cell_grown (a := ⟨lb, lf + j * 6 + 4, none⟩) (n := n) (os := os) hyl (hzc 4 _ rfl)
                    have z5 := fun n os => cell_grown (a := ⟨lb, lf + j * 6 + 5, none⟩) (n := n) (os := os) hyl (hzc 5 _ rfl)
                    simp only [Nat.add_zero] at z0
                    simp only at z1 z2 z3 z4 z5
                    have hl2 : ∀ W, Calls Try.prog 30 #[.agg #[.int .u64 ys, .int .i64 yf], .agg #[.int .u64 zs, .int .i64 zf]] W fun e w' => e = .returned (.bool false) ∧ Grw W w' := fun W => by
                      have := hls ys yf zs zf W
                      rw [show lessB ys yf zs zf = false from hz3] at this
                      exact this
                    clear hzc hz1 hz2 hz3
                    refine wp_region_quiet_grown (by assumption) (by kernel_rfl) ?_
                    repeat (first | go_big_quiet_skip | quiet_step (first
                      | (go_at_call 17; exact Calls.grown_of (hsm _ _))
                      | (go_at_call 31; exact Calls.grown_of (ho _ _ _ _ _ _ _ _ _))
                      | (go_at_call 30; first | (with_reducible exact Calls.grown_of (hl1 _)) | (with_reducible exact Calls.grown_of (hl2 _)))))
                    refine wpQuiet_nil ?_
                    intro _ hw'
                    obtain ⟨⟨nq, osq⟩, hw''⟩ := hw'
                    subst hw''
                    have HB10 := Lib.hid (HBX.out.trans ((Grw.below (w := wz) ⟨nq, osq, rfl⟩).mono HBX.out.size))
                    clear hjz hW hsm ho hls x0 x1 x2 x3 x4 x5 y0 y1 y2 y3 y4 y5 b0 b1 z0 z1 z2 z3 z4 z5
                    go_wp2
                    go_roundw
                    case rel => exact ⟨i + 1, by omega, by go_num, HB10⟩
                    case measure => simp [intOf]; omega
            · obtain rfl : i = sn := by omega
              go_wp2
              go_ret
              exact ⟨rfl, HB5.out.trans (HB.out.mono HB5.out.size)⟩
theorem walk_HoldAbove {w : World} (ao : Option Addr) (len cap : Nat) (l : List Ha) (hl : Lst encA 9 w ao len l ∧ ∀ m ∈ l, m.ok w) (kn kp : Int) (wn : (Lit.int .u64 kn).wf = true) (wp : (Lit.int .i64 kp).wf = true) :
    Calls Try.prog 6 #[.slice ao len cap, .agg #[.int .u64 kn, .int .i64 kp]] w fun e w' => e = .returned (.bool true) ∧ Below w.heap.size w w' :=
  above_core ao len cap l kn kp w hl.1 hl.2
end Go.Proofs.Ytafenlacacghoaa
