/- The document's Drop. -/
import Derived.Test.YtafenlacacghoaaRhKit
set_option linter.unusedVariables false
set_option linter.unusedSimpArgs false
namespace Go.Proofs.Ytafenlacacghoaa
open Go.RowKit Go.Sort

/-- The marks behind a drop. -/
def dropLo (lo : Nat → Nat) (L : List Mg) (p : Int) (upto : Nat) : Nat → Nat := if 0 ≤ p ∧ p < 64 then updF lo p.toNat (max (lo p.toNat) (min upto (cntA L p))) else lo
/-- What the document's Drop answers. -/
def RDrop (w : World) (s : Sl) (lo : Nat → Nat) (e : Ending) (w' : World) : Prop := e = .returned (.agg (rhC s lo).toArray) ∧ Below w.heap.size w w'
theorem rhb_new2 (w : World) (s : Sl) (lo : Nat → Nat) : RhB ((w.alloc (.cells (rhC s lo).toArray 34)).alloc (.cells (rhC slNil (fun _ => 0)).toArray 34)) w.heap.size s lo ∧
    RhB ((w.alloc (.cells (rhC s lo).toArray 34)).alloc (.cells (rhC slNil (fun _ => 0)).toArray 34)) (w.heap.size + 1) slNil (fun _ => 0) ∧
    Grw w ((w.alloc (.cells (rhC s lo).toArray 34)).alloc (.cells (rhC slNil (fun _ => 0)).toArray 34)) := by
  have hs1 : (w.alloc (.cells (rhC s lo).toArray 34)).heap.size = w.heap.size + 1 := by simp
  refine ⟨(RhB.new w s lo).below ((Grw.refl _).alloc _).below, ?_, ((Grw.refl w).alloc _).alloc _⟩
  have := RhB.new (w.alloc (.cells (rhC s lo).toArray 34)) slNil (fun _ => 0)
  rw [hs1] at this
  exact this
theorem RhB.row {w : World} {b : Nat} {s : Sl} {lo : Nat → Nat} (h : RhB w b s lo) (t : Sl) (lo' : Nat → Nat) : RhB (w.setRow b (rhC t lo').toArray) b t lo' := setRow_heap _ _ _ _ _ _ h
theorem RhB.put {w : World} {b : Nat} {s : Sl} {lo : Nat → Nat} (h : RhB w b s lo) (p n : Nat) (hp : p < 64) : RhB (w.setCell ⟨b, 1 + p, none⟩ (.int .u32 (n : Int))) b s (updF lo p n) := by
  have := Own.set h (1 + p) (.int .u32 (n : Int))
  rwa [rhC_set _ _ _ _ hp] at this
set_option maxHeartbeats 8000000 in
set_option maxRecDepth 100000 in
theorem rh_drop (s : Sl) (lo : Nat → Nat) (L : List Mg) (p : Int) (upto : Nat) (hu : upto < 4294967296) (w : World) (hl : Lst encG 6 w s.a s.n L) (hn : s.n ≤ 1000) :
    Calls Try.prog 11 #[.agg (rhC s lo).toArray, .int .i64 p, .int .u32 (upto : Int)] w (RDrop w s (dropLo lo L p upto)) := by
  have hz := rh_zero
  obtain ⟨H3, H6, G⟩ := rhb_new2 w s lo
  have PC := rh_count s lo L p ((w.alloc (.cells (rhC s lo).toArray 34)).alloc (.cells (rhC slNil (fun _ => 0)).toArray 34)) (Lst.below hl G.below) hn
  have hcb : cntA L p ≤ 1000 := by have := cntA_le L p; have := hl.size; omega
  have HD := Lib.hid (show dropLo lo L p upto = if 0 ≤ p ∧ p < 64 then updF lo p.toNat (max (lo p.toNat) (min upto (cntA L p))) else lo from rfl)
  have HB := Lib.hid G.below
  clear hl hn G
  generalize cntA L p = n at *
  have H3h := Lib.hid H3
  have H6h := Lib.hid H6
  clear H3 H6
  have H3 := H3h
  have H6 := H6h
  clear H3h H6h
  by_cases hp : 0 ≤ p ∧ p < 64
  · rw [HD.out, if_pos hp]
    obtain ⟨k, rfl⟩ := Int.eq_ofNat_of_zero_le hp.1
    have hk : k < 64 := by omega
    have hkz : (k : Int) < 64 := by omega
    have cl := H3.out.cl k hk
    rw [Int.toNat_natCast]
    clear hp HD
    by_cases hca : n < upto
    · by_cases hpu : lo k < n
      · have hm : max (lo k) (min upto n) = n := by omega
        rw [hm]
        have hcap : (n : Int) < (upto : Int) := by omega
        have hput : (lo k : Int) < (n : Int) := by omega
        clear hm hca hpu
        have clk := cl
        go_enter Try.func11, Try.ntmps11
        go_upto_region 1 with fail
        generalize hW : (w.alloc (.cells (rhC s lo).toArray 34)).alloc (.cells (rhC slNil (fun _ => 0)).toArray 34) = W at *
        clear hW
        obtain ⟨rb, hrb⟩ : ∃ rb, rb = w.heap.size + 1 := ⟨_, rfl⟩
        rw [← hrb] at H6
        try rw [← hrb]
        generalize hhb : w.heap.size = hb at *
        have HHB := Lib.hid hhb
        have hne : rb ≠ hb := by omega
        have hrl : hb ≤ rb := by omega
        clear hhb hrb
        go_upto_region 4 with (first | (refine load_rh rfl (.tmp 3) rfl hb s lo rfl H3.out ?_) | (go_at_call 19; refine PC.mono ?_; rintro e W2 ⟨rfl, G2⟩))
        have H3b := Lib.hid (H3.out.below G2.below)
        have H6b := Lib.hid (H6.out.below G2.below)
        have HBb := Lib.hid (HB.out.trans (G2.below.mono (by have := HB.out.size; have := HHB.out; omega)))
        have clb := cell_later G2.below cl
        have flb := H3b.out.free (1 + k)
        clear PC G2 H3 H6 HB cl
        have H3c : Hid (RhB (W2.setCell ⟨hb, 1 + k, none⟩ (.int .u32 (n : Int))) hb s (updF lo k n)) := Lib.hid (H3b.out.put k n hk)
        have H6c : Hid (RhB (W2.setCell ⟨hb, 1 + k, none⟩ (.int .u32 (n : Int))) rb slNil (fun _ => 0)) := Lib.hid (Own.set_other H6b.out hb (1 + k) _ hne)
        have HBc : Hid (Below hb w (W2.setCell ⟨hb, 1 + k, none⟩ (.int .u32 (n : Int)))) := Lib.hid (HBb.out.setCell (Nat.le_refl hb) _)
        go_upto_region 8 with fail
        generalize W2.setCell ⟨hb, 1 + k, none⟩ (.int .u32 (n : Int)) = W3 at *
        go_wp2_with (first | (refine load_rh rfl (.tmp 3) rfl hb s (updF lo k n) rfl H3c.out ?_) | (refine store_rh rfl (.tmp 6) (.tmp 32) rfl rb s (updF lo k n) rfl rfl H6c.out ?_))
        (try simp only [Exit.inBlock, Exit.then])
        exact bodyPost_ret (v := .agg (rhC s (updF lo k n)).toArray) (results_rh (p := 6) rfl _ _ rb rfl (H6c.out.row s (updF lo k n))) rfl ⟨rfl, by rw [HHB.out]; exact belowRow10 HBc.out _ hrl _⟩
      · have hm : max (lo k) (min upto n) = lo k := by omega
        rw [hm]
        rw [updF_self]
        have hcap : (n : Int) < (upto : Int) := by omega
        have hput : ¬ ((lo k : Int) < (n : Int)) := by omega
        clear hm hca hpu
        generalize lo k = lk at *
        go_enter Try.func11, Try.ntmps11
        go_upto_region 1 with fail
        generalize hW : (w.alloc (.cells (rhC s lo).toArray 34)).alloc (.cells (rhC slNil (fun _ => 0)).toArray 34) = W at *
        clear hW
        obtain ⟨rb, hrb⟩ : ∃ rb, rb = w.heap.size + 1 := ⟨_, rfl⟩
        rw [← hrb] at H6
        try rw [← hrb]
        generalize hhb : w.heap.size = hb at *
        have HHB := Lib.hid hhb
        have hne : rb ≠ hb := by omega
        have hrl : hb ≤ rb := by omega
        clear hhb hrb
        go_upto_region 4 with (first | (refine load_rh rfl (.tmp 3) rfl hb s lo rfl H3.out ?_) | (go_at_call 19; refine PC.mono ?_; rintro e W2 ⟨rfl, G2⟩))
        have H3b := Lib.hid (H3.out.below G2.below)
        have H6b := Lib.hid (H6.out.below G2.below)
        have HBb := Lib.hid (HB.out.trans (G2.below.mono (by have := HB.out.size; have := HHB.out; omega)))
        have clb := cell_later G2.below cl
        have flb := H3b.out.free (1 + k)
        clear PC G2 H3 H6 HB cl
        go_wp2_with (first | (refine load_rh rfl (.tmp 3) rfl hb s lo rfl H3b.out ?_) | (refine store_rh rfl (.tmp 6) (.tmp 32) rfl rb s lo rfl rfl H6b.out ?_))
        (try simp only [Exit.inBlock, Exit.then])
        exact bodyPost_ret (v := .agg (rhC s lo).toArray) (results_rh (p := 6) rfl _ _ rb rfl (H6b.out.row s lo)) rfl ⟨rfl, by rw [HHB.out]; exact belowRow10 HBb.out _ hrl _⟩
    · by_cases hpu : lo k < upto
      · have hm : max (lo k) (min upto n) = upto := by omega
        rw [hm]
        have hcap : ¬ ((n : Int) < (upto : Int)) := by omega
        have hput : (lo k : Int) < (upto : Int) := by omega
        clear hm hca hpu
        have clk := cl
        go_enter Try.func11, Try.ntmps11
        go_upto_region 1 with fail
        generalize hW : (w.alloc (.cells (rhC s lo).toArray 34)).alloc (.cells (rhC slNil (fun _ => 0)).toArray 34) = W at *
        clear hW
        obtain ⟨rb, hrb⟩ : ∃ rb, rb = w.heap.size + 1 := ⟨_, rfl⟩
        rw [← hrb] at H6
        try rw [← hrb]
        generalize hhb : w.heap.size = hb at *
        have HHB := Lib.hid hhb
        have hne : rb ≠ hb := by omega
        have hrl : hb ≤ rb := by omega
        clear hhb hrb
        go_upto_region 4 with (first | (refine load_rh rfl (.tmp 3) rfl hb s lo rfl H3.out ?_) | (go_at_call 19; refine PC.mono ?_; rintro e W2 ⟨rfl, G2⟩))
        have H3b := Lib.hid (H3.out.below G2.below)
        have H6b := Lib.hid (H6.out.below G2.below)
        have HBb := Lib.hid (HB.out.trans (G2.below.mono (by have := HB.out.size; have := HHB.out; omega)))
        have clb := cell_later G2.below cl
        have flb := H3b.out.free (1 + k)
        clear PC G2 H3 H6 HB cl
        have H3c : Hid (RhB (W2.setCell ⟨hb, 1 + k, none⟩ (.int .u32 (upto : Int))) hb s (updF lo k upto)) := Lib.hid (H3b.out.put k upto hk)
        have H6c : Hid (RhB (W2.setCell ⟨hb, 1 + k, none⟩ (.int .u32 (upto : Int))) rb slNil (fun _ => 0)) := Lib.hid (Own.set_other H6b.out hb (1 + k) _ hne)
        have HBc : Hid (Below hb w (W2.setCell ⟨hb, 1 + k, none⟩ (.int .u32 (upto : Int)))) := Lib.hid (HBb.out.setCell (Nat.le_refl hb) _)
        go_upto_region 8 with fail
        generalize W2.setCell ⟨hb, 1 + k, none⟩ (.int .u32 (upto : Int)) = W3 at *
        go_wp2_with (first | (refine load_rh rfl (.tmp 3) rfl hb s (updF lo k upto) rfl H3c.out ?_) | (refine store_rh rfl (.tmp 6) (.tmp 32) rfl rb s (updF lo k upto) rfl rfl H6c.out ?_))
        (try simp only [Exit.inBlock, Exit.then])
        exact bodyPost_ret (v := .agg (rhC s (updF lo k upto)).toArray) (results_rh (p := 6) rfl _ _ rb rfl (H6c.out.row s (updF lo k upto))) rfl ⟨rfl, by rw [HHB.out]; exact belowRow10 HBc.out _ hrl _⟩
      · have hm : max (lo k) (min upto n) = lo k := by omega
        rw [hm]
        rw [updF_self]
        have hcap : ¬ ((n : Int) < (upto : Int)) := by omega
        have hput : ¬ ((lo k : Int) < (upto : Int)) := by omega
        clear hm hca hpu
        generalize lo k = lk at *
        go_enter Try.func11, Try.ntmps11
        go_upto_region 1 with fail
        generalize hW : (w.alloc (.cells (rhC s lo).toArray 34)).alloc (.cells (rhC slNil (fun _ => 0)).toArray 34) = W at *
        clear hW
        obtain ⟨rb, hrb⟩ : ∃ rb, rb = w.heap.size + 1 := ⟨_, rfl⟩
        rw [← hrb] at H6
        try rw [← hrb]
        generalize hhb : w.heap.size = hb at *
        have HHB := Lib.hid hhb
        have hne : rb ≠ hb := by omega
        have hrl : hb ≤ rb := by omega
        clear hhb hrb
        go_upto_region 4 with (first | (refine load_rh rfl (.tmp 3) rfl hb s lo rfl H3.out ?_) | (go_at_call 19; refine PC.mono ?_; rintro e W2 ⟨rfl, G2⟩))
        have H3b := Lib.hid (H3.out.below G2.below)
        have H6b := Lib.hid (H6.out.below G2.below)
        have HBb := Lib.hid (HB.out.trans (G2.below.mono (by have := HB.out.size; have := HHB.out; omega)))
        have clb := cell_later G2.below cl
        have flb := H3b.out.free (1 + k)
        clear PC G2 H3 H6 HB cl
        go_wp2_with (first | (refine load_rh rfl (.tmp 3) rfl hb s lo rfl H3b.out ?_) | (refine store_rh rfl (.tmp 6) (.tmp 32) rfl rb s lo rfl rfl H6b.out ?_))
        (try simp only [Exit.inBlock, Exit.then])
        exact bodyPost_ret (v := .agg (rhC s lo).toArray) (results_rh (p := 6) rfl _ _ rb rfl (H6b.out.row s lo)) rfl ⟨rfl, by rw [HHB.out]; exact belowRow10 HBb.out _ hrl _⟩
  · rw [HD.out, if_neg hp]
    clear HD
    by_cases h0 : p < 0
    · have hd : decide (p < 0) = true := by simpa using h0
      clear PC
      go_enter Try.func11, Try.ntmps11
      go_upto_region 1 with fail
      generalize hW : (w.alloc (.cells (rhC s lo).toArray 34)).alloc (.cells (rhC slNil (fun _ => 0)).toArray 34) = W at *
      clear hW
      obtain ⟨rb, hrb⟩ : ∃ rb, rb = w.heap.size + 1 := ⟨_, rfl⟩
      rw [← hrb] at H6
      try rw [← hrb]
      generalize hhb : w.heap.size = hb at *
      have HHB := Lib.hid hhb
      have hne : rb ≠ hb := by omega
      have hrl : hb ≤ rb := by omega
      clear hhb hrb
      go_wp2_with (first | (refine load_rh rfl (.tmp 3) rfl hb s lo rfl H3.out ?_) | (refine store_rh rfl (.tmp 6) (.tmp 14) rfl rb s lo rfl rfl H6.out ?_))
      (try simp only [Exit.inBlock, Exit.then])
      exact bodyPost_ret (v := .agg (rhC s lo).toArray) (results_rh (p := 6) rfl _ _ rb rfl (H6.out.row s lo)) rfl ⟨rfl, by rw [HHB.out]; exact belowRow10 HB.out _ hrl _⟩
    · have hd : decide (p < 0) = false := by simpa using h0
      have h64 : 63 < p := by omega
      clear PC
      go_enter Try.func11, Try.ntmps11
      go_upto_region 1 with fail
      generalize hW : (w.alloc (.cells (rhC s lo).toArray 34)).alloc (.cells (rhC slNil (fun _ => 0)).toArray 34) = W at *
      clear hW
      obtain ⟨rb, hrb⟩ : ∃ rb, rb = w.heap.size + 1 := ⟨_, rfl⟩
      rw [← hrb] at H6
      try rw [← hrb]
      generalize hhb : w.heap.size = hb at *
      have HHB := Lib.hid hhb
      have hne : rb ≠ hb := by omega
      have hrl : hb ≤ rb := by omega
      clear hhb hrb
      go_wp2_with (first | (refine load_rh rfl (.tmp 3) rfl hb s lo rfl H3.out ?_) | (refine store_rh rfl (.tmp 6) (.tmp 14) rfl rb s lo rfl rfl H6.out ?_))
      (try simp only [Exit.inBlock, Exit.then])
      exact bodyPost_ret (v := .agg (rhC s lo).toArray) (results_rh (p := 6) rfl _ _ rb rfl (H6.out.row s lo)) rfl ⟨rfl, by rw [HHB.out]; exact belowRow10 HB.out _ hrl _⟩
end Go.Proofs.Ytafenlacacghoaa
