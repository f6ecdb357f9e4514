/- The document's order: Trim. -/
import Derived.Test.YtfocjcdfpnbkjaaZRoTake
set_option linter.unusedVariables false
set_option maxRecDepth 100000
set_option linter.unusedSimpArgs false
namespace Go.Proofs.Ytfocjcdfpnbkjaa
open Go.RowKit Go.Sort

/-- Amid Trim, or another call with one order and one answer. -/
structure TmSt (w V : World) (e0 : Nat) (r : Ro) : Prop where
  below : Below e0 w V
  e : RoB V e0 r
  z : RoB V (e0 + 1) ro0
  sz : e0 + 2 ≤ V.heap.size
section
variable {w V V' : World} {e0 : Nat} {r : Ro}
theorem TmSt.later (h : TmSt w V e0 r) (hb : Below V.heap.size V V') : TmSt w V' e0 r :=
  ⟨h.below.trans (hb.mono (by have := h.sz; omega)), h.e.below hb, h.z.below hb, Nat.le_trans h.sz hb.size⟩
theorem TmSt.cells (h : TmSt w V e0 r) (o : Nat) (vs : List Value) (r' : Ro) (hr : RoB (V.setCells e0 o vs) e0 r') : TmSt w (V.setCells e0 o vs) e0 r' :=
  ⟨h.below.grown (grownCells12 e0 vs o V) (by have := h.sz; omega) (fun k hk => by cases hk; exact Nat.le_refl _), hr, (World.heap_setCells_other V e0 o vs h.z.lt (by omega)).trans h.z, by rw [size_setCells12]; exact h.sz⟩
theorem TmSt.first (w : World) (r : Ro) : TmSt w ((w.alloc (.cells r.cs.toArray 41)).alloc (.cells ro0.cs.toArray 41)) w.heap.size r := by
  have G1 := (Grw.refl w).alloc (.cells r.cs.toArray 41)
  have G2 := G1.alloc (.cells ro0.cs.toArray 41)
  have hs1 : (w.alloc (.cells r.cs.toArray 41)).heap.size = w.heap.size + 1 := by simp
  refine ⟨G2.below, (RoB.new w r).below ((Grw.refl _).alloc _).below, ?_, by simp⟩
  have := RoB.new (w.alloc (.cells r.cs.toArray 41)) ro0
  rw [hs1] at this
  exact this
end
def trimR (r : Ro) (L : List Mg) (p : Int) (upto : Nat) : Ro := if 0 ≤ p ∧ p < 64 then { r with lo := dropLo r.lo L p (min upto (r.dn p.toNat)) } else r
theorem trimR_rows (r : Ro) (L : List Mg) (p : Int) (upto : Nat) : (trimR r L p upto).hs = r.hs ∧ (trimR r L p upto).zs = r.zs := by unfold trimR; split <;> exact ⟨rfl, rfl⟩
set_option maxHeartbeats 4000000 in
theorem ro_trim (r : Ro) (L : List Mg) (T : List Td) (w : World) (hV : RoV w r L T) (p : Int) (upto : Nat) (hu : upto < 4294967296) (hd : ∀ k, k < 64 → r.dn k < 4294967296) :
    Calls Try.prog 71 #[.agg r.cs.toArray, .int .i64 p, .int .u32 (upto : Int)] w fun e w' => e = .returned (.agg (trimR r L p upto).cs.toArray) ∧ Below w.heap.size w w' := by
  have FST2 := Lib.hid (TmSt.first w r)
  have hz := ro_zero
  have HV := Lib.hid hV
  clear hV
  by_cases hp : 0 ≤ p ∧ p < 64
  · obtain ⟨k, rfl⟩ := Int.eq_ofNat_of_zero_le hp.1
    have hk : k < 64 := by omega
    have hk' : (k : Int) < 64 := hp.2
    have HR : Hid (trimR r L (k : Int) upto = { r with lo := dropLo r.lo L (k : Int) (min upto (r.dn k)) }) := Lib.hid (by unfold trimR; rw [if_pos hp, Int.toNat_natCast])
    rw [HR.out]
    obtain ⟨d, hd0⟩ : ∃ d, d = r.dn k := ⟨_, rfl⟩
    have hdb := hd k hk
    rw [← hd0] at hdb
    obtain ⟨mn, hmn⟩ : ∃ mn, mn = min upto d := ⟨_, rfl⟩
    rw [← hd0, ← hmn]
    have PD := fun W hb => rh_drop r.hs r.lo L (k : Int) mn (by omega) W (Lst.below HV.out.hold.lst hb) HV.out.few
    have HMN := Lib.hid hmn
    have HPD := Lib.hid PD
    have HD0 := Lib.hid hd0
    clear hp hd PD hd0
    go_enter Try.func71, Try.ntmps71
    go_upto_region 1 with fail
    generalize (w.alloc (.cells r.cs.toArray 41)).alloc (.cells ro0.cs.toArray 41) = W at *
    generalize he0 : w.heap.size = e0 at *
    have HE0 := Lib.hid he0
    clear he0
    have cd := FST2.out.e.dn k hk
    rw [← HD0.out] at cd
    have PX := HPD.out W FST2.out.below
    unfold RDrop at PX
    clear HPD
    by_cases hlt : d < upto
    · have hlt' : (d : Int) < (upto : Int) := by omega
      have e1 : mn = d := by omega
      subst e1
      clear hmn HMN
      go_wp2_with (first | (refine load_hold rfl (.tmp 24) rfl e0 r rfl FST2.out.e ?_) | fail)
      with_reducible refine PX.mono ?_
      rintro e w4 ⟨rfl, hB⟩
      have S4 := Lib.hid (FST2.out.later hB)
      have S5 := Lib.hid (S4.out.cells 2 (rhC r.hs (dropLo r.lo L (k : Int) mn)) _ (S4.out.e.setH r.hs (dropLo r.lo L (k : Int) mn)))
      clear PX hB FST2 cd
      go_upto_region 6 with (first | (refine store_hold rfl (.tmp 29) (.tmp 28) rfl e0 r r.hs (dropLo r.lo L (k : Int) mn) rfl rfl S4.out.e ?_) | fail)
      generalize w4.setCells e0 2 (rhC r.hs (dropLo r.lo L (k : Int) mn)) = w5 at *
      clear S4
      go_wp2_with (first | (refine load_ro rfl (.tmp 3) rfl e0 _ rfl S5.out.e ?_) | (refine store_ro rfl (.tmp 6) (.tmp 30) rfl (e0 + 1) _ rfl rfl S5.out.z ?_))
      (try simp only [Exit.inBlock, Exit.then])
      exact bodyPost_ret (v := .agg _) (results_ro (p := 6) rfl _ _ (e0 + 1) rfl (S5.out.z.row _)) rfl ⟨rfl, by rw [HE0.out]; exact belowRow10 S5.out.below _ (by omega) _⟩
    · have hlt' : ¬ (d : Int) < (upto : Int) := by omega
      have e1 : mn = upto := by omega
      subst e1
      clear hmn HMN
      go_wp2_with (first | (refine load_hold rfl (.tmp 24) rfl e0 r rfl FST2.out.e ?_) | fail)
      with_reducible refine PX.mono ?_
      rintro e w4 ⟨rfl, hB⟩
      have S4 := Lib.hid (FST2.out.later hB)
      have S5 := Lib.hid (S4.out.cells 2 (rhC r.hs (dropLo r.lo L (k : Int) mn)) _ (S4.out.e.setH r.hs (dropLo r.lo L (k : Int) mn)))
      clear PX hB FST2 cd
      go_upto_region 6 with (first | (refine store_hold rfl (.tmp 29) (.tmp 28) rfl e0 r r.hs (dropLo r.lo L (k : Int) mn) rfl rfl S4.out.e ?_) | fail)
      generalize w4.setCells e0 2 (rhC r.hs (dropLo r.lo L (k : Int) mn)) = w5 at *
      clear S4
      go_wp2_with (first | (refine load_ro rfl (.tmp 3) rfl e0 _ rfl S5.out.e ?_) | (refine store_ro rfl (.tmp 6) (.tmp 30) rfl (e0 + 1) _ rfl rfl S5.out.z ?_))
      (try simp only [Exit.inBlock, Exit.then])
      exact bodyPost_ret (v := .agg _) (results_ro (p := 6) rfl _ _ (e0 + 1) rfl (S5.out.z.row _)) rfl ⟨rfl, by rw [HE0.out]; exact belowRow10 S5.out.below _ (by omega) _⟩
  · have HR : Hid (trimR r L p upto = r) := Lib.hid (by unfold trimR; rw [if_neg hp])
    rw [HR.out]
    by_cases h0 : p < 0
    · have d0 : decide (p < 0) = true := by simpa using h0
      clear hp h0
      go_enter Try.func71, Try.ntmps71
      go_upto_region 1 with fail
      generalize (w.alloc (.cells r.cs.toArray 41)).alloc (.cells ro0.cs.toArray 41) = W at *
      generalize he0 : w.heap.size = e0 at *
      have HE0 := Lib.hid he0
      clear he0
      go_wp2_with (first | (refine load_ro rfl (.tmp 3) rfl e0 _ rfl FST2.out.e ?_) | (refine store_ro rfl (.tmp 6) (.tmp 13) rfl (e0 + 1) _ rfl rfl FST2.out.z ?_))
      (try simp only [Exit.inBlock, Exit.then])
      exact bodyPost_ret (v := .agg _) (results_ro (p := 6) rfl _ _ (e0 + 1) rfl (FST2.out.z.row _)) rfl ⟨rfl, by rw [HE0.out]; exact belowRow10 FST2.out.below _ (by omega) _⟩
    · have d0 : decide (p < 0) = false := by simpa using h0
      have d1 : decide ((63 : Int) < p) = true := by simp; omega
      clear hp h0
      go_enter Try.func71, Try.ntmps71
      go_upto_region 1 with fail
      generalize (w.alloc (.cells r.cs.toArray 41)).alloc (.cells ro0.cs.toArray 41) = W at *
      generalize he0 : w.heap.size = e0 at *
      have HE0 := Lib.hid he0
      clear he0
      go_wp2_with (first | (refine load_ro rfl (.tmp 3) rfl e0 _ rfl FST2.out.e ?_) | (refine store_ro rfl (.tmp 6) (.tmp 13) rfl (e0 + 1) _ rfl rfl FST2.out.z ?_))
      (try simp only [Exit.inBlock, Exit.then])
      exact bodyPost_ret (v := .agg _) (results_ro (p := 6) rfl _ _ (e0 + 1) rfl (FST2.out.z.row _)) rfl ⟨rfl, by rw [HE0.out]; exact belowRow10 FST2.out.below _ (by omega) _⟩
end Go.Proofs.Ytfocjcdfpnbkjaa

/- An order, a message and a truth as results. -/
set_option linter.unusedVariables false
set_option linter.unusedSimpArgs false
namespace Go.Proofs.Ytfocjcdfpnbkjaa
open Go.RowKit Go.Sort

theorem run_mgv {w : World} {b : Nat} {m : Mg} (hg : MgB w b m) : (loadVar 47 ⟨b, 0, none⟩).run Try.prog w = .ok (valG m) w :=
  run_loadVar_row (P := Try.prog) w b 47 47 (encG m).toArray (0, 0) _ hg Try.underlying47 rfl msg_size
theorem results_ro3 {fn : Func} {p q u : Tmp} (h : fn.results = #[.cell p 41, .cell q 47, .tmp u]) (tmps : Array Value) (w : World) (b c : Nat) {r : Ro} {m : Mg} (hp : tmps.getD p undef = .pointer (some ⟨b, 0, none⟩)) (hq : tmps.getD q undef = .pointer (some ⟨c, 0, none⟩)) (hg : RoB w b r) (hm : MgB w c m) :
    (results fn tmps).run Try.prog w = .ok (.tuple #[.agg r.cs.toArray, valG m, tmps.getD u undef]) w := by
  have hp' : tmps[p]?.getD undef = .pointer (some ⟨b, 0, none⟩) := by simpa using hp
  have hq' : tmps[q]?.getD undef = .pointer (some ⟨c, 0, none⟩) := by simpa using hq
  simp only [results, h]
  simp [Sem.run_bind, Result.andThen, asAddr, hp', hq', run_ro hg, run_mgv hm]
end Go.Proofs.Ytfocjcdfpnbkjaa
