/- The document's hold in memory: a block of 65 cells; Count, Get, Drop. -/
import Derived.Test.YtfocjcdfpnbkjaaZOrdOpens
set_option linter.unusedVariables false
set_option linter.unusedSimpArgs false
namespace Go.Proofs.Ytfocjcdfpnbkjaa
open Go.RowKit Go.Sort

/-- The cells of the document's hold: all that was put, and the marks. -/
def rhC (s : Sl) (lo : Nat → Nat) : List Value := s.v :: rowF vU lo
theorem rhC_length (s : Sl) (lo : Nat → Nat) : (rhC s lo).length = 65 := by unfold rhC; rw [List.length_cons, rowF_length]
theorem rhC_lo (s : Sl) (lo : Nat → Nat) (p : Nat) (hp : p < 64) : (rhC s lo)[1 + p]? = some (.int .u32 (lo p : Int)) := by
  unfold rhC; rw [show 1 + p = p + 1 by omega, List.getElem?_cons_succ, rowF_at _ _ _ hp]; rfl
theorem rhC_set (s : Sl) (lo : Nat → Nat) (p n : Nat) (hp : p < 64) : (rhC s lo).toArray.setIfInBounds (1 + p) (.int .u32 (n : Int)) = (rhC s (updF lo p n)).toArray := by
  rw [List.setIfInBounds_toArray]; congr 1
  unfold rhC
  rw [show 1 + p = p + 1 by omega, List.set_cons_succ]
  congr 1
  exact rowF_set vU lo p n hp
theorem rhC_set0 (s t : Sl) (lo : Nat → Nat) : (rhC s lo).toArray.setIfInBounds 0 t.v = (rhC t lo).toArray := by
  rw [List.setIfInBounds_toArray]; rfl
theorem rhC_one (s : Sl) (lo : Nat → Nat) : (rhC s lo).toArray.all (·.oneCell') = true := by simp [rhC, rowF, vU, Sl.v, Value.oneCell']
theorem rh_size : (Try.prog.info? 33).map (·.size) = some 65 := by kernel_rfl
theorem rh_zero (w : World) : (zeroValue 33).run Try.prog w = .ok (.agg (rhC slNil (fun _ => 0)).toArray) w := by kernel_rfl
/-- Its block. -/
def RhB (w : World) (b : Nat) (s : Sl) (lo : Nat → Nat) : Prop := Own w b 33 (rhC s lo).toArray
section
variable {w : World} {b : Nat} {s : Sl} {lo : Nat → Nat}
theorem RhB.own (h : RhB w b s lo) : Own w b 33 (rhC s lo).toArray := h
theorem RhB.lt (h : RhB w b s lo) : b < w.heap.size := h.own.lt
theorem RhB.new (w : World) (s : Sl) (lo : Nat → Nat) : RhB (w.alloc (.cells (rhC s lo).toArray 33)) w.heap.size s lo := Own.new w _ _
theorem RhB.below {w' : World} (h : RhB w b s lo) (hb : Below w.heap.size w w') : RhB w' b s lo := (hb.block b h.lt).trans h
theorem RhB.c0 (h : RhB w b s lo) : w.cell? ⟨b, 0, none⟩ = some (.slice s.a s.n s.c) := h.own.at_ 0 _ rfl
theorem RhB.cl (h : RhB w b s lo) (p : Nat) (hp : p < 64) : w.cell? ⟨b, 1 + p, none⟩ = some (.int .u32 (lo p : Int)) := h.own.at_ _ _ (by rw [List.getElem?_toArray]; exact rhC_lo _ _ _ hp)
theorem RhB.free (h : RhB w b s lo) (j : Nat) : w.frozen? ⟨b, j, none⟩ = false := h.own.free j
end
theorem store_rh {ops : Array Oper} {rest : List Oper} {o : Oper} {A : Act} {w : World} {Q : Exit → Act → World → Prop} (hgd : o.guard = none) (x y : Operand) (ho : o.op = .store 33 x y)
    (b : Nat) (s : Sl) (lo : Nat → Nat) (hx : A.eval x = .pointer (some ⟨b, 0, none⟩)) (hy : A.eval y = .agg (rhC s lo).toArray) {s0 : Sl} {lo0 : Nat → Nat} (hg : RhB w b s0 lo0)
    (h : wpList Try.prog ops Q rest (A.put o.dst undef) (w.setRow b (rhC s lo).toArray)) : wpList Try.prog ops Q (o :: rest) A w :=
  wpList_store_row hgd 33 x y ho b _ hx hy 33 _ hg (by rw [List.size_toArray, rhC_length]; exact rh_size) (by rw [List.size_toArray, List.size_toArray, rhC_length, rhC_length]) (rhC_one s lo) h
theorem load_rh {ops : Array Oper} {rest : List Oper} {o : Oper} {A : Act} {w : World} {Q : Exit → Act → World → Prop} (hgd : o.guard = none) (x : Operand) (ho : o.op = .load 33 x)
    (b : Nat) (s : Sl) (lo : Nat → Nat) (hx : A.eval x = .pointer (some ⟨b, 0, none⟩)) (hg : RhB w b s lo) (h : wpList Try.prog ops Q rest (A.put o.dst (.agg (rhC s lo).toArray)) w) : wpList Try.prog ops Q (o :: rest) A w :=
  wpList_load_row hgd 33 x ho b hx 33 _ _ _ hg Try.underlying33 rfl (by rw [List.size_toArray, rhC_length]; exact rh_size) h
theorem results_rh {fn : Func} {p : Tmp} (h : fn.results = #[.cell p 33]) (tmps : Array Value) (w : World) (b : Nat) {s : Sl} {lo : Nat → Nat} (hp : tmps.getD p undef = .pointer (some ⟨b, 0, none⟩)) (hg : RhB w b s lo) :
    (results fn tmps).run Try.prog w = .ok (.agg (rhC s lo).toArray) w :=
  results_cell_row h tmps w b 33 _ (0, 0) _ hp hg Try.underlying33 rfl (by rw [List.size_toArray, rhC_length]; exact rh_size)

/-- How many of these are p's. -/
def cntA (L : List Mg) (p : Int) : Nat := (L.filter fun m => m.f == p).length
theorem cntA_le (L : List Mg) (p : Int) : cntA L p ≤ L.length := List.length_filter_le _ _
set_option maxHeartbeats 4000000 in
theorem rh_count (s : Sl) (lo : Nat → Nat) (L : List Mg) (p : Int) (w : World) (hl : Lst encG 6 w s.a s.n L) (hn : s.n ≤ 1000) :
    Calls Try.prog 138 #[.agg (rhC s lo).toArray, .int .i64 p] w fun e w' => e = .returned (.int .u32 (cntA L p : Nat)) ∧ Grw w w' := by
  have c0 := (RhB.new w s lo).c0
  have HG := Lib.hid ((Grw.refl w).alloc (.cells (rhC s lo).toArray 33))
  have HL := Lib.hid (Lst.below hl HG.out.below)
  have hwl : w.heap.size < (w.alloc (.cells (rhC s lo).toArray 33)).heap.size := by simp
  obtain ⟨sa, sn, sc⟩ := s
  simp only at c0 hl hn HL
  generalize (rhC ⟨sa, sn, sc⟩ lo).toArray = C at *
  clear hl
  go_enter Try.func138, Try.ntmps138
  go_upto_region 1 with fail
  generalize w.alloc (.cells C 33) = W at *
  generalize w.heap.size = hb at *
  go_wp2
  go_loopw [5, 6] (fun nv si wr => ∃ k : Nat, k ≤ sn ∧ si = .int .i64 k ∧ nv = .int .u32 (cntA (L.take k) p : Nat) ∧ wr = W) (fun _ si _ => sn - (intOf si).toNat)
  case atStart => exact ⟨0, Nat.zero_le _, rfl, rfl, rfl⟩
  case round =>
    obtain ⟨k, hk, rfl, rfl, rfl⟩ := hrel
    by_cases hlt : k < sn
    · obtain ⟨b, o, x, rfl, hx, hb1, hc⟩ := HL.out.atG hlt
      have hkl := (List.getElem?_eq_some_iff.1 hx).1
      have HT := Lib.hid (show L.take (k + 1) = L.take k ++ [x] by rw [List.take_succ_eq_append_getElem hkl, (List.getElem?_eq_some_iff.1 hx).2])
      have d0 := hc 0 _ rfl
      rw [Nat.add_zero] at d0
      have hcb := cntA_le (L.take k) p
      rw [List.length_take] at hcb
      obtain ⟨n0, hn0⟩ : ∃ n0, n0 = cntA (L.take k) p := ⟨_, rfl⟩
      rw [← hn0] at hcb ⊢
      have hnb : n0 ≤ 1000 := by omega
      have HN0 := Lib.hid hn0
      obtain ⟨f, hf⟩ : ∃ f, f = x.f := ⟨_, rfl⟩
      rw [← hf] at d0
      have HF := Lib.hid hf
      clear hcb hn0 hf hc hx hkl
      by_cases he : f = p
      · have he2 : (f == p) = true := by simpa using he
        have HE : Hid (cntA (L.take (k + 1)) p = n0 + 1) := Lib.hid (by
          rw [HT.out, HN0.out]
          unfold cntA
          rw [List.filter_append, List.filter_cons_of_pos (by rw [← HF.out]; exact he2), List.filter_nil, List.length_append]; rfl)
        clear he
        go_wp2
        go_roundw
        case rel => exact ⟨k + 1, by omega, by go_num, by rw [HE.out]; rfl, trivial⟩
        case measure => simp [intOf]; omega
      · have he2 : (f == p) = false := by simpa using he
        have HE : Hid (cntA (L.take (k + 1)) p = n0) := Lib.hid (by
          rw [HT.out, HN0.out]
          unfold cntA
          rw [List.filter_append, List.filter_cons_of_neg (by rw [← HF.out, he2]; simp), List.filter_nil, List.append_nil])
        clear he
        go_wp2
        go_roundw
        case rel => exact ⟨k + 1, by omega, by go_num, by rw [HE.out], trivial⟩
        case measure => simp [intOf]; omega
    · have hE : Hid (cntA (L.take k) p = cntA L p) := Lib.hid (by rw [List.take_of_length_le (by rw [HL.out.size]; omega)])
      rw [hE.out]
      obtain ⟨n1, hn1⟩ : ∃ n1, n1 = cntA L p := ⟨_, rfl⟩
      rw [← hn1]
      have HN1 := Lib.hid hn1
      clear hn1
      go_wp2
      go_ret
      exact ⟨by rw [← HN1.out]; rfl, HG.out⟩
end Go.Proofs.Ytfocjcdfpnbkjaa

/- The document's Drop. -/
set_option linter.unusedVariables false
set_option linter.unusedSimpArgs false
namespace Go.Proofs.Ytfocjcdfpnbkjaa
open Go.RowKit Go.Sort

/-- The marks behind a drop. -/
def dropLo (lo : Nat → Nat) (L : List Mg) (p : Int) (upto : Nat) : Nat → Nat := if 0 ≤ p ∧ p < 64 then updF lo p.toNat (max (lo p.toNat) (min upto (cntA L p))) else lo
/-- What the document's Drop answers. -/
def RDrop (w : World) (s : Sl) (lo : Nat → Nat) (e : Ending) (w' : World) : Prop := e = .returned (.agg (rhC s lo).toArray) ∧ Below w.heap.size w w'
theorem rhb_new2 (w : World) (s : Sl) (lo : Nat → Nat) : RhB ((w.alloc (.cells (rhC s lo).toArray 33)).alloc (.cells (rhC slNil (fun _ => 0)).toArray 33)) w.heap.size s lo ∧
    RhB ((w.alloc (.cells (rhC s lo).toArray 33)).alloc (.cells (rhC slNil (fun _ => 0)).toArray 33)) (w.heap.size + 1) slNil (fun _ => 0) ∧
    Grw w ((w.alloc (.cells (rhC s lo).toArray 33)).alloc (.cells (rhC slNil (fun _ => 0)).toArray 33)) := by
  have hs1 : (w.alloc (.cells (rhC s lo).toArray 33)).heap.size = w.heap.size + 1 := by simp
  refine ⟨(RhB.new w s lo).below ((Grw.refl _).alloc _).below, ?_, ((Grw.refl w).alloc _).alloc _⟩
  have := RhB.new (w.alloc (.cells (rhC s lo).toArray 33)) slNil (fun _ => 0)
  rw [hs1] at this
  exact this
theorem RhB.row {w : World} {b : Nat} {s : Sl} {lo : Nat → Nat} (h : RhB w b s lo) (t : Sl) (lo' : Nat → Nat) : RhB (w.setRow b (rhC t lo').toArray) b t lo' := setRow_heap _ _ _ _ _ _ h
theorem RhB.put {w : World} {b : Nat} {s : Sl} {lo : Nat → Nat} (h : RhB w b s lo) (p n : Nat) (hp : p < 64) : RhB (w.setCell ⟨b, 1 + p, none⟩ (.int .u32 (n : Int))) b s (updF lo p n) := by
  have := Own.set h (1 + p) (.int .u32 (n : Int))
  rwa [rhC_set _ _ _ _ hp] at this
set_option maxHeartbeats 8000000 in
set_option maxRecDepth 100000 in
theorem rh_drop (s : Sl) (lo : Nat → Nat) (L : List Mg) (p : Int) (upto : Nat) (hu : upto < 4294967296) (w : World) (hl : Lst encG 6 w s.a s.n L) (hn : s.n ≤ 1000) :
    Calls Try.prog 113 #[.agg (rhC s lo).toArray, .int .i64 p, .int .u32 (upto : Int)] w (RDrop w s (dropLo lo L p upto)) := by
  have hz := rh_zero
  obtain ⟨H3, H6, G⟩ := rhb_new2 w s lo
  have PC := rh_count s lo L p ((w.alloc (.cells (rhC s lo).toArray 33)).alloc (.cells (rhC slNil (fun _ => 0)).toArray 33)) (Lst.below hl G.below) hn
  have hcb : cntA L p ≤ 1000 := by have := cntA_le L p; have := hl.size; omega
  have HD := Lib.hid (show dropLo lo L p upto = if 0 ≤ p ∧ p < 64 then updF lo p.toNat (max (lo p.toNat) (min upto (cntA L p))) else lo from rfl)
  have HB := Lib.hid G.below
  clear hl hn G
  generalize cntA L p = n at *
  have H3h := Lib.hid H3
  have H6h := Lib.hid H6
  clear H3 H6
  have H3 := H3h
  have H6 := H6h
  clear H3h H6h
  by_cases hp : 0 ≤ p ∧ p < 64
  · rw [HD.out, if_pos hp]
    obtain ⟨k, rfl⟩ := Int.eq_ofNat_of_zero_le hp.1
    have hk : k < 64 := by omega
    have hkz : (k : Int) < 64 := by omega
    have cl := H3.out.cl k hk
    rw [Int.toNat_natCast]
    clear hp HD
    by_cases hca : n < upto
    · by_cases hpu : lo k < n
      · have hm : max (lo k) (min upto n) = n := by omega
        rw [hm]
        have hcap : (n : Int) < (upto : Int) := by omega
        have hput : (lo k : Int) < (n : Int) := by omega
        clear hm hca hpu
        have clk := cl
        go_enter Try.func113, Try.ntmps113
        go_upto_region 1 with fail
        generalize hW : (w.alloc (.cells (rhC s lo).toArray 33)).alloc (.cells (rhC slNil (fun _ => 0)).toArray 33) = W at *
        clear hW
        obtain ⟨rb, hrb⟩ : ∃ rb, rb = w.heap.size + 1 := ⟨_, rfl⟩
        rw [← hrb] at H6
        try rw [← hrb]
        generalize hhb : w.heap.size = hb at *
        have HHB := Lib.hid hhb
        have hne : rb ≠ hb := by omega
        have hrl : hb ≤ rb := by omega
        clear hhb hrb
        go_upto_region 4 with (first | (refine load_rh rfl (.tmp 3) rfl hb s lo rfl H3.out ?_) | (go_at_call 138; refine PC.mono ?_; rintro e W2 ⟨rfl, G2⟩))
        have H3b := Lib.hid (H3.out.below G2.below)
        have H6b := Lib.hid (H6.out.below G2.below)
        have HBb := Lib.hid (HB.out.trans (G2.below.mono (by have := HB.out.size; have := HHB.out; omega)))
        have clb := cell_later G2.below cl
        have flb := H3b.out.free (1 + k)
        clear PC G2 H3 H6 HB cl
        have H3c : Hid (RhB (W2.setCell ⟨hb, 1 + k, none⟩ (.int .u32 (n : Int))) hb s (updF lo k n)) := Lib.hid (H3b.out.put k n hk)
        have H6c : Hid (RhB (W2.setCell ⟨hb, 1 + k, none⟩ (.int .u32 (n : Int))) rb slNil (fun _ => 0)) := Lib.hid (Own.set_other H6b.out hb (1 + k) _ hne)
        have HBc : Hid (Below hb w (W2.setCell ⟨hb, 1 + k, none⟩ (.int .u32 (n : Int)))) := Lib.hid (HBb.out.setCell (Nat.le_refl hb) _)
        go_upto_region 8 with fail
        generalize W2.setCell ⟨hb, 1 + k, none⟩ (.int .u32 (n : Int)) = W3 at *
        go_wp2_with (first | (refine load_rh rfl (.tmp 3) rfl hb s (updF lo k n) rfl H3c.out ?_) | (refine store_rh rfl (.tmp 6) (.tmp 32) rfl rb s (updF lo k n) rfl rfl H6c.out ?_))
        (try simp only [Exit.inBlock, Exit.then])
        exact bodyPost_ret (v := .agg (rhC s (updF lo k n)).toArray) (results_rh (p := 6) rfl _ _ rb rfl (H6c.out.row s (updF lo k n))) rfl ⟨rfl, by rw [HHB.out]; exact belowRow10 HBc.out _ hrl _⟩
      · have hm : max (lo k) (min upto n) = lo k := by omega
        rw [hm]
        rw [updF_self]
        have hcap : (n : Int) < (upto : Int) := by omega
        have hput : ¬ ((lo k : Int) < (n : Int)) := by omega
        clear hm hca hpu
        generalize lo k = lk at *
        go_enter Try.func113, Try.ntmps113
        go_upto_region 1 with fail
        generalize hW : (w.alloc (.cells (rhC s lo).toArray 33)).alloc (.cells (rhC slNil (fun _ => 0)).toArray 33) = W at *
        clear hW
        obtain ⟨rb, hrb⟩ : ∃ rb, rb = w.heap.size + 1 := ⟨_, rfl⟩
        rw [← hrb] at H6
        try rw [← hrb]
        generalize hhb : w.heap.size = hb at *
        have HHB := Lib.hid hhb
        have hne : rb ≠ hb := by omega
        have hrl : hb ≤ rb := by omega
        clear hhb hrb
        go_upto_region 4 with (first | (refine load_rh rfl (.tmp 3) rfl hb s lo rfl H3.out ?_) | (go_at_call 138; refine PC.mono ?_; rintro e W2 ⟨rfl, G2⟩))
        have H3b := Lib.hid (H3.out.below G2.below)
        have H6b := Lib.hid (H6.out.below G2.below)
        have HBb := Lib.hid (HB.out.trans (G2.below.mono (by have := HB.out.size; have := HHB.out; omega)))
        have clb := cell_later G2.below cl
        have flb := H3b.out.free (1 + k)
        clear PC G2 H3 H6 HB cl
        go_wp2_with (first | (refine load_rh rfl (.tmp 3) rfl hb s lo rfl H3b.out ?_) | (refine store_rh rfl (.tmp 6) (.tmp 32) rfl rb s lo rfl rfl H6b.out ?_))
        (try simp only [Exit.inBlock, Exit.then])
        exact bodyPost_ret (v := .agg (rhC s lo).toArray) (results_rh (p := 6) rfl _ _ rb rfl (H6b.out.row s lo)) rfl ⟨rfl, by rw [HHB.out]; exact belowRow10 HBb.out _ hrl _⟩
    · by_cases hpu : lo k < upto
      · have hm : max (lo k) (min upto n) = upto := by omega
        rw [hm]
        have hcap : ¬ ((n : Int) < (upto : Int)) := by omega
        have hput : (lo k : Int) < (upto : Int) := by omega
        clear hm hca hpu
        have clk := cl
        go_enter Try.func113, Try.ntmps113
        go_upto_region 1 with fail
        generalize hW : (w.alloc (.cells (rhC s lo).toArray 33)).alloc (.cells (rhC slNil (fun _ => 0)).toArray 33) = W at *
        clear hW
        obtain ⟨rb, hrb⟩ : ∃ rb, rb = w.heap.size + 1 := ⟨_, rfl⟩
        rw [← hrb] at H6
        try rw [← hrb]
        generalize hhb : w.heap.size = hb at *
        have HHB := Lib.hid hhb
        have hne : rb ≠ hb := by omega
        have hrl : hb ≤ rb := by omega
        clear hhb hrb
        go_upto_region 4 with (first | (refine load_rh rfl (.tmp 3) rfl hb s lo rfl H3.out ?_) | (go_at_call 138; refine PC.mono ?_; rintro e W2 ⟨rfl, G2⟩))
        have H3b := Lib.hid (H3.out.below G2.below)
        have H6b := Lib.hid (H6.out.below G2.below)
        have HBb := Lib.hid (HB.out.trans (G2.below.mono (by have := HB.out.size; have := HHB.out; omega)))
        have clb := cell_later G2.below cl
        have flb := H3b.out.free (1 + k)
        clear PC G2 H3 H6 HB cl
        have H3c : Hid (RhB (W2.setCell ⟨hb, 1 + k, none⟩ (.int .u32 (upto : Int))) hb s (updF lo k upto)) := Lib.hid (H3b.out.put k upto hk)
        have H6c : Hid (RhB (W2.setCell ⟨hb, 1 + k, none⟩ (.int .u32 (upto : Int))) rb slNil (fun _ => 0)) := Lib.hid (Own.set_other H6b.out hb (1 + k) _ hne)
        have HBc : Hid (Below hb w (W2.setCell ⟨hb, 1 + k, none⟩ (.int .u32 (upto : Int)))) := Lib.hid (HBb.out.setCell (Nat.le_refl hb) _)
        go_upto_region 8 with fail
        generalize W2.setCell ⟨hb, 1 + k, none⟩ (.int .u32 (upto : Int)) = W3 at *
        go_wp2_with (first | (refine load_rh rfl (.tmp 3) rfl hb s (updF lo k upto) rfl H3c.out ?_) | (refine store_rh rfl (.tmp 6) (.tmp 32) rfl rb s (updF lo k upto) rfl rfl H6c.out ?_))
        (try simp only [Exit.inBlock, Exit.then])
        exact bodyPost_ret (v := .agg (rhC s (updF lo k upto)).toArray) (results_rh (p := 6) rfl _ _ rb rfl (H6c.out.row s (updF lo k upto))) rfl ⟨rfl, by rw [HHB.out]; exact belowRow10 HBc.out _ hrl _⟩
      · have hm : max (lo k) (min upto n) = lo k := by omega
        rw [hm]
        rw [updF_self]
        have hcap : ¬ ((n : Int) < (upto : Int)) := by omega
        have hput : ¬ ((lo k : Int) < (upto : Int)) := by omega
        clear hm hca hpu
        generalize lo k = lk at *
        go_enter Try.func113, Try.ntmps113
        go_upto_region 1 with fail
        generalize hW : (w.alloc (.cells (rhC s lo).toArray 33)).alloc (.cells (rhC slNil (fun _ => 0)).toArray 33) = W at *
        clear hW
        obtain ⟨rb, hrb⟩ : ∃ rb, rb = w.heap.size + 1 := ⟨_, rfl⟩
        rw [← hrb] at H6
        try rw [← hrb]
        generalize hhb : w.heap.size = hb at *
        have HHB := Lib.hid hhb
        have hne : rb ≠ hb := by omega
        have hrl : hb ≤ rb := by omega
        clear hhb hrb
        go_upto_region 4 with (first | (refine load_rh rfl (.tmp 3) rfl hb s lo rfl H3.out ?_) | (go_at_call 138; refine PC.mono ?_; rintro e W2 ⟨rfl, G2⟩))
        have H3b := Lib.hid (H3.out.below G2.below)
        have H6b := Lib.hid (H6.out.below G2.below)
        have HBb := Lib.hid (HB.out.trans (G2.below.mono (by have := HB.out.size; have := HHB.out; omega)))
        have clb := cell_later G2.below cl
        have flb := H3b.out.free (1 + k)
        clear PC G2 H3 H6 HB cl
        go_wp2_with (first | (refine load_rh rfl (.tmp 3) rfl hb s lo rfl H3b.out ?_) | (refine store_rh rfl (.tmp 6) (.tmp 32) rfl rb s lo rfl rfl H6b.out ?_))
        (try simp only [Exit.inBlock, Exit.then])
        exact bodyPost_ret (v := .agg (rhC s lo).toArray) (results_rh (p := 6) rfl _ _ rb rfl (H6b.out.row s lo)) rfl ⟨rfl, by rw [HHB.out]; exact belowRow10 HBb.out _ hrl _⟩
  · rw [HD.out, if_neg hp]
    clear HD
    by_cases h0 : p < 0
    · have hd : decide (p < 0) = true := by simpa using h0
      clear PC
      go_enter Try.func113, Try.ntmps113
      go_upto_region 1 with fail
      generalize hW : (w.alloc (.cells (rhC s lo).toArray 33)).alloc (.cells (rhC slNil (fun _ => 0)).toArray 33) = W at *
      clear hW
      obtain ⟨rb, hrb⟩ : ∃ rb, rb = w.heap.size + 1 := ⟨_, rfl⟩
      rw [← hrb] at H6
      try rw [← hrb]
      generalize hhb : w.heap.size = hb at *
      have HHB := Lib.hid hhb
      have hne : rb ≠ hb := by omega
      have hrl : hb ≤ rb := by omega
      clear hhb hrb
      go_wp2_with (first | (refine load_rh rfl (.tmp 3) rfl hb s lo rfl H3.out ?_) | (refine store_rh rfl (.tmp 6) (.tmp 14) rfl rb s lo rfl rfl H6.out ?_))
      (try simp only [Exit.inBlock, Exit.then])
      exact bodyPost_ret (v := .agg (rhC s lo).toArray) (results_rh (p := 6) rfl _ _ rb rfl (H6.out.row s lo)) rfl ⟨rfl, by rw [HHB.out]; exact belowRow10 HB.out _ hrl _⟩
    · have hd : decide (p < 0) = false := by simpa using h0
      have h64 : 63 < p := by omega
      clear PC
      go_enter Try.func113, Try.ntmps113
      go_upto_region 1 with fail
      generalize hW : (w.alloc (.cells (rhC s lo).toArray 33)).alloc (.cells (rhC slNil (fun _ => 0)).toArray 33) = W at *
      clear hW
      obtain ⟨rb, hrb⟩ : ∃ rb, rb = w.heap.size + 1 := ⟨_, rfl⟩
      rw [← hrb] at H6
      try rw [← hrb]
      generalize hhb : w.heap.size = hb at *
      have HHB := Lib.hid hhb
      have hne : rb ≠ hb := by omega
      have hrl : hb ≤ rb := by omega
      clear hhb hrb
      go_wp2_with (first | (refine load_rh rfl (.tmp 3) rfl hb s lo rfl H3.out ?_) | (refine store_rh rfl (.tmp 6) (.tmp 14) rfl rb s lo rfl rfl H6.out ?_))
      (try simp only [Exit.inBlock, Exit.then])
      exact bodyPost_ret (v := .agg (rhC s lo).toArray) (results_rh (p := 6) rfl _ _ rb rfl (H6.out.row s lo)) rfl ⟨rfl, by rw [HHB.out]; exact belowRow10 HB.out _ hrl _⟩
end Go.Proofs.Ytfocjcdfpnbkjaa

/- The document's Get. -/
set_option linter.unusedVariables false
set_option linter.unusedSimpArgs false
namespace Go.Proofs.Ytfocjcdfpnbkjaa
open Go.RowKit Go.Sort

theorem find_at {α : Type} {l : List α} {pr : α → Bool} {k : Nat} {x : α} (hx : l[k]? = some x) (hp : pr x = true) (hn : ∀ m ∈ l.take k, pr m = false) : l.find? pr = some x := by
  obtain ⟨hlt, e⟩ := List.getElem?_eq_some_iff.1 hx
  have h : l = l.take k ++ x :: l.drop (k + 1) := by
    conv => lhs; rw [← List.take_append_drop k l, List.drop_eq_getElem_cons hlt, e]
  rw [h, List.find?_append, List.find?_eq_none.2 (fun m hm => by rw [hn m hm]; simp)]
  simp [hp]
/-- Which message the document's Get looks for. -/
def isA (lo : Nat → Nat) (p : Int) (seq : Nat) (m : Mg) : Bool := m.f == p && (m.q == (seq : Int) && decide (onP 0 lo p < seq))
def findA (L : List Mg) (lo : Nat → Nat) (p : Int) (seq : Nat) : Option Mg := L.find? (isA lo p seq)
/-- What the document's Get answers. -/
inductive RGet (w : World) : Option Mg → Ending → World → Prop
  | no (w' : World) (h : Below w.heap.size w w') : RGet w none (.returned (.tuple #[valG zeroG, .bool false])) w'
  | yes (m : Mg) (w' : World) (h : Below w.heap.size w w') : RGet w (some m) (.returned (.tuple #[valG m, .bool true])) w'
set_option maxHeartbeats 8000000 in
set_option maxRecDepth 100000 in
theorem rh_get (s : Sl) (lo : Nat → Nat) (L : List Mg) (p : Int) (seq : Nat) (hq : seq < 4294967296) (w : World) (hl : Lst encG 6 w s.a s.n L) (hn : s.n ≤ 1000) (hf : ∀ m ∈ L, 0 ≤ m.f ∧ m.f < 64) :
    Calls Try.prog 110 #[.agg (rhC s lo).toArray, .int .i64 p, .int .u32 (seq : Int)] w (RGet w (findA L lo p seq)) := by
  have B1 := RhB.new w s lo
  have G1 := (Grw.refl w).alloc (.cells (rhC s lo).toArray 33)
  have G2 := G1.alloc (.cells #[.int .i64 0, .int .u32 0, .int .u64 0, .int .i64 0, .slice none 0 0, .string { data := #[] }] 47)
  have B2 := B1.below (((Grw.refl _).alloc (.cells #[.int .i64 0, .int .u32 0, .int .u64 0, .int .i64 0, .slice none 0 0, .string { data := #[] }] 47)).below)
  have hs1 : (w.alloc (.cells (rhC s lo).toArray 33)).heap.size = w.heap.size + 1 := by simp
  have M2 : MgB ((w.alloc (.cells (rhC s lo).toArray 33)).alloc (.cells #[.int .i64 0, .int .u32 0, .int .u64 0, .int .i64 0, .slice none 0 0, .string { data := #[] }] 47)) (w.heap.size + 1) zeroG := by
    have := MgB.new (w.alloc (.cells (rhC s lo).toArray 33)) zeroG
    rw [hs1] at this
    exact this
  have c0 := B2.c0
  have HCL := Lib.hid (fun (k : Nat) (hk : k < 64) => B2.cl k hk)
  have HM := Lib.hid M2
  have HG := Lib.hid G2.below
  have HL := Lib.hid (Lst.below hl G2.below)
  have HF := Lib.hid hf
  obtain ⟨sa, sn, sc⟩ := s
  simp only at c0 hl hn HL
  generalize (rhC ⟨sa, sn, sc⟩ lo).toArray = C at *
  clear hl hf B1 B2 G1 G2 M2 hs1
  go_enter Try.func110, Try.ntmps110
  go_upto_region 1 with fail
  generalize (w.alloc (.cells C 33)).alloc (.cells #[.int .i64 0, .int .u32 0, .int .u64 0, .int .i64 0, .slice none 0 0, .string { data := #[] }] 47) = W at *
  obtain ⟨rb, hrb⟩ : ∃ rb, rb = w.heap.size + 1 := ⟨_, rfl⟩
  rw [← hrb] at HM
  try rw [← hrb]
  have HRB : Hid (w.heap.size ≤ rb) := Lib.hid (by omega)
  clear hrb
  generalize hhb : w.heap.size = hb at *
  have HHB := Lib.hid hhb
  clear hhb
  go_wp2
  go_loopw [8] (fun si wr => ∃ k : Nat, k ≤ sn ∧ si = .int .i64 k ∧ wr = W ∧ Hid (∀ m ∈ L.take k, isA lo p seq m = false)) (fun si _ => sn - (intOf si).toNat)
  case atStart => exact ⟨0, Nat.zero_le _, rfl, rfl, Lib.hid fun m hm => by simp at hm⟩
  case round =>
    obtain ⟨k, hk, rfl, rfl, HNF⟩ := hrel
    by_cases hlt : k < sn
    · obtain ⟨b, o, x, rfl, hx, hb1, hc⟩ := HL.out.atG hlt
      have hkl := (List.getElem?_eq_some_iff.1 hx).1
      have HT := Lib.hid (show L.take (k + 1) = L.take k ++ [x] by rw [List.take_succ_eq_append_getElem hkl, (List.getElem?_eq_some_iff.1 hx).2])
      have HX := Lib.hid hx
      have hfx := HF.out x (List.mem_of_getElem? hx)
      have d0 := hc 0 _ rfl
      have d1 := hc 1 _ rfl
      have d2 := hc 2 _ rfl
      have d3 := hc 3 _ rfl
      have d4 := hc 4 _ rfl
      have d5 := hc 5 _ rfl
      rw [Nat.add_zero] at d0
      have HNX : Hid (isA lo p seq x = false → ∀ m ∈ L.take (k + 1), isA lo p seq m = false) := Lib.hid fun h m hm => by
        rw [HT.out] at hm
        rcases List.mem_append.1 hm with e | e
        · exact HNF.out m e
        · rw [List.mem_singleton.1 e]; exact h
      have HYX : Hid (isA lo p seq x = true → findA L lo p seq = some x) := Lib.hid fun h => find_at HX.out h HNF.out
      clear hc hx hkl HT HX HNF
      obtain ⟨f, q, sx, v, a, dl, dc, deps, text⟩ := x
      simp only at d0 d1 d2 d3 d4 d5 hfx
      by_cases he : f = p
      · subst he
        obtain ⟨j, rfl⟩ := Int.eq_ofNat_of_zero_le hfx.1
        have hj : j < 64 := by omega
        have hjz : (j : Int) < 64 := by omega
        by_cases hqe : q = (seq : Int)
        · subst hqe
          have e1 := HCL.out j hj
          have hon : onP 0 lo (j : Int) = lo j := onP_yes _ _ _ hj
          by_cases hs : lo j < seq
          · have HE := Lib.hid (HYX.out (by unfold isA; rw [hon]; simp [hs]))
            have hsz : (lo j : Int) < (seq : Int) := by omega
            generalize lo j = lj at *
            clear HYX HNX hon hs
            go_wp2_with (refine store_mg rfl (.tmp 6) (.tmp 46) rfl rb ⟨(j : Int), (seq : Int), sx, v, a, dl, dc, deps, text⟩ rfl rfl HM.out ?_)
            (try simp only [Exit.inBlock, Exit.then])
            rw [HE.out]
            have hhb := HHB.out
            subst hhb
            exact bodyPost_ret (v := .tuple #[valG ⟨(j : Int), (seq : Int), sx, v, a, dl, dc, deps, text⟩, .bool true]) (results_mg2 (p := 6) (u := 7) rfl _ _ rb rfl (HM.out.row _)) rfl (.yes _ _ (belowRow10 HG.out _ HRB.out _))
          · have HE := Lib.hid (HNX.out (by unfold isA; rw [hon]; simp [hs]))
            have hsz : ¬ (lo j : Int) < (seq : Int) := by omega
            generalize lo j = lj at *
            clear HYX HNX hon hs
            go_wp2
            go_roundw
            case rel => exact ⟨k + 1, by omega, by go_num, trivial, HE⟩
            case measure => simp [intOf]; omega
        · have HE := Lib.hid (HNX.out (by unfold isA; simp [hqe]))
          have hq2 : (q == (seq : Int)) = false := by simpa using hqe
          clear HYX HNX hqe
          go_wp2
          go_roundw
          case rel => exact ⟨k + 1, by omega, by go_num, trivial, HE⟩
          case measure => simp [intOf]; omega
      · have HE := Lib.hid (HNX.out (by unfold isA; simp [he]))
        have he2 : (f == p) = false := by simpa using he
        clear HYX HNX he hfx
        go_wp2
        go_roundw
        case rel => exact ⟨k + 1, by omega, by go_num, trivial, HE⟩
        case measure => simp [intOf]; omega
    · have hE : findA L lo p seq = none := List.find?_eq_none.2 fun m hm => by
        have := HNF.out m (by rw [List.take_of_length_le (by rw [HL.out.size]; omega)]; exact hm)
        rw [this]; simp
      have HE := Lib.hid hE
      clear hE HNF
      go_wp2_with (refine store_mg rfl (.tmp 6) (.tmp 47) rfl rb zeroG rfl rfl HM.out ?_)
      (try simp only [Exit.inBlock, Exit.then])
      rw [HE.out]
      have hhb := HHB.out
      subst hhb
      exact bodyPost_ret (v := .tuple #[valG zeroG, .bool false]) (results_mg2 (p := 6) (u := 7) rfl _ _ rb rfl (HM.out.row zeroG)) rfl (.no _ (belowRow10 HG.out _ HRB.out _))
end Go.Proofs.Ytfocjcdfpnbkjaa
