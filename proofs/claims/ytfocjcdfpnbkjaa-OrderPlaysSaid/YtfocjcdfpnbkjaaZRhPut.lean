/- The document's Put. (Written by wip/gen_rhput.py.) -/
import Derived.Test.YtfocjcdfpnbkjaaZRhKits
import Derived.Test.YtfocjcdfpnbkjaaZSMaps
import Derived.Test.YtfocjcdfpnbkjaaZBel
import Derived.Deep.RegionHeld3
set_option linter.unusedVariables false
set_option linter.unusedSimpArgs false
namespace Go.Proofs.Ytfocjcdfpnbkjaa
open Go.RowKit Go.Sort

def rcode (L : List Mg) (m : Mg) : Int := if 0 ≤ m.f ∧ m.f < 64 then (if m.q = (cntA L m.f : Int) + 1 then 0 else 13) else 1
def rputL (L : List Mg) (m : Mg) : List Mg := if 0 ≤ m.f ∧ m.f < 64 then (if m.q = (cntA L m.f : Int) + 1 then L ++ [m] else L) else L
/-- What the document's Put answers. -/
def RPut (w : World) (s : Sl) (lo : Nat → Nat) (L : List Mg) (m : Mg) (e : Ending) (w' : World) : Prop :=
  ∃ t : Sl, e = .returned (.tuple #[.agg (rhC t lo).toArray, .int .i64 (rcode L m)]) ∧ SlotAt w' t (rputL L m) ∧ Below w.heap.size w w' ∧ (t = s ∨ ∀ x, t.a = some x → w.heap.size ≤ x.block)
def RPutAs (w : World) (s : Sl) (lo : Nat → Nat) (c : Int) (Z : List Mg) (e : Ending) (w' : World) : Prop :=
  ∃ t : Sl, e = .returned (.tuple #[.agg (rhC t lo).toArray, .int .i64 c]) ∧ SlotAt w' t Z ∧ Below w.heap.size w w' ∧ (t = s ∨ ∀ x, t.a = some x → w.heap.size ≤ x.block)
theorem results_rh2 {fn : Func} {p u : Tmp} (h : fn.results = #[.cell p 33, .tmp u]) (tmps : Array Value) (w : World) (b : Nat) {s : Sl} {lo : Nat → Nat} (hp : tmps.getD p undef = .pointer (some ⟨b, 0, none⟩)) (hg : RhB w b s lo) :
    (results fn tmps).run Try.prog w = .ok (.tuple #[.agg (rhC s lo).toArray, tmps.getD u undef]) w := by
  rw [results_cell_tmp h, hp]
  have hl := run_loadVar_row (P := Try.prog) w b 33 33 (rhC s lo).toArray (0, 0) _ hg Try.underlying33 rfl (by rw [List.size_toArray, rhC_length]; exact rh_size)
  simp [asAddr, hl, Result.andThen]
theorem run_rh {w : World} {b : Nat} {s : Sl} {lo : Nat → Nat} (hg : RhB w b s lo) : (loadVar 33 ⟨b, 0, none⟩).run Try.prog w = .ok (.agg (rhC s lo).toArray) w :=
  run_loadVar_row (P := Try.prog) w b 33 33 (rhC s lo).toArray (0, 0) _ hg Try.underlying33 rfl (by rw [List.size_toArray, rhC_length]; exact rh_size)
/-- The document's hold, loaded whole in a region that draws. -/
theorem quiet_load_rh {ops : Array Oper} {C : World → Prop} {Q : Act → Prop} {o : Oper} {rest : List Oper} {a : Act} (hw : Region.wanted o (yielded ops a.tmps) = true) (x : Operand) (ho : o.op = .load 33 x)
    (g : Nat) (s : Sl) (lo : Nat → Nat) (hx : a.eval x = .pointer (some ⟨g, 0, none⟩)) (hC : ∀ w, C w → RhB w g s lo)
    (h : wpQuiet Try.prog ops C Q rest (a.put o.dst (.agg (rhC s lo).toArray))) : wpQuiet Try.prog ops C Q (o :: rest) a :=
  wpQuiet_step fun K hK => by
  rw [if_pos hw]
  exact ⟨_, fun w hw' => by
    unfold Oper.quietAt execOp
    simp only [ho, hx, Instr.loadAt, Instr.sureAddr, Sem.run_bind, Sem.run_pure, Result.andThen_ok, run_rh (hC w hw')]
    exact ⟨rfl, rfl⟩, hK _ h⟩
theorem RhB.form {w : World} {g : Nat} {s : Sl} {lo : Nat → Nat} (h : RhB w g s lo) : ∀ w', (∃ p : BelBy, w' = grow (atD w p.n) p.os) → RhB w' g s lo := fun w' ⟨p, hp⟩ => by
  rw [hp]; exact h.below (below_of_form w p.n p.os)
theorem RhB.grown {w w' : World} {g : Nat} {s : Sl} {lo : Nat → Nat} {o : Option Nat} (h : RhB w g s lo) (hb : w.grownBy w' o) (ho : ∀ k, o = some k → g ≠ k) : RhB w' g s lo := (hb.block g h.lt (fun e => ho g e.symm rfl)).trans h
theorem mgb_grown {w w' : World} {g : Nat} {m : Mg} {o : Option Nat} (h : MgB w g m) (hb : w.grownBy w' o) (ho : ∀ k, o = some k → g ≠ k) : MgB w' g m := (hb.block g h.lt (fun e => ho g e.symm rfl)).trans h
/-- Amid Put. -/
structure PutSt (w V : World) (e0 : Nat) (s : Sl) (lo : Nat → Nat) (m : Mg) : Prop where
  below : Below e0 w V
  e : RhB V e0 s lo
  m : MgB V (e0 + 1) m
  r : RhB V (e0 + 2) slNil (fun _ => 0)
  z : e0 + 3 ≤ V.heap.size
theorem PutSt.later {w V V' : World} {e0 : Nat} {s : Sl} {lo : Nat → Nat} {m : Mg} (h : PutSt w V e0 s lo m) (hb : Below V.heap.size V V') : PutSt w V' e0 s lo m :=
  ⟨h.below.trans (hb.mono (by have := h.z; omega)), h.e.below hb, MgB.later h.m hb, h.r.below hb, Nat.le_trans h.z hb.size⟩
theorem PutSt.grown {w V V' : World} {e0 : Nat} {s : Sl} {lo : Nat → Nat} {m : Mg} {o : Option Nat} (h : PutSt w V e0 s lo m) (hg : V.grownBy V' o) (ho : ∀ k, o = some k → e0 + 3 ≤ k) : PutSt w V' e0 s lo m :=
  ⟨h.below.grown hg (by have := h.z; omega) (fun k hk => by have := ho k hk; omega), h.e.grown hg (fun k hk => by have := ho k hk; omega), mgb_grown h.m hg (fun k hk => by have := ho k hk; omega), h.r.grown hg (fun k hk => by have := ho k hk; omega), Nat.le_trans h.z hg.size⟩
theorem rput_final {w V : World} {e0 : Nat} {s : Sl} {lo : Nat → Nat} {m : Mg} {L : List Mg} (h : PutSt w V e0 s lo m) (he : e0 = w.heap.size) (hlen : L.length = s.n) (v : Value)
    (row : V.ownsRow (e0 + 3) 47 6 v (0 + s.n + 1) ([] ++ flat encG L ++ flat encG [m])) :
    ∃ t : Sl, v = .slice t.a t.n t.c ∧ RhB (V.setCell ⟨e0, 0, none⟩ v) e0 t lo ∧ RhB (V.setCell ⟨e0, 0, none⟩ v) (e0 + 2) slNil (fun _ => 0) ∧
      SlotAt ((V.setCell ⟨e0, 0, none⟩ v).setRow (e0 + 2) (rhC t lo).toArray) t (L ++ [m]) ∧ Below w.heap.size w ((V.setCell ⟨e0, 0, none⟩ v).setRow (e0 + 2) (rhC t lo).toArray) ∧ (t = s ∨ ∀ x, t.a = some x → w.heap.size ≤ x.block) := by
  have row2 := own_eq row (show 0 + s.n + 1 = s.n + 1 by omega) (show [] ++ flat encG L ++ flat encG [m] = flat encG (L ++ [m]) by rw [List.nil_append, ← flat_append])
  rcases own_cases row2 with ⟨_, h0⟩ | ⟨g, cap, rfl, hcap, hmax⟩
  · omega
  have hg := own_behind row2 g rfl
  have hr := MRow.of_own row2 (by rw [List.length_append, hlen]; rfl)
  have l1 : Below e0 w (V.setCell ⟨e0, 0, none⟩ (.slice (some ⟨g, 0, none⟩) (s.n + 1) cap)) := h.below.setCell (Nat.le_refl _) _
  have e1 : RhB (V.setCell ⟨e0, 0, none⟩ (.slice (some ⟨g, 0, none⟩) (s.n + 1) cap)) e0 ⟨some ⟨g, 0, none⟩, s.n + 1, cap⟩ lo := by
    have := Own.set h.e.own 0 (.slice (some ⟨g, 0, none⟩) (s.n + 1) cap)
    exact this
  have r1 : RhB (V.setCell ⟨e0, 0, none⟩ (.slice (some ⟨g, 0, none⟩) (s.n + 1) cap)) (e0 + 2) slNil (fun _ => 0) := Own.set_other h.r _ _ _ (by omega)
  refine ⟨⟨some ⟨g, 0, none⟩, s.n + 1, cap⟩, rfl, e1, r1, .inr ⟨g, 0, rfl, hr.kept ?_⟩, by rw [← he]; exact belowRow10 l1 _ (by omega) _, .inr fun x hx => by cases hx; show w.heap.size ≤ g; omega⟩
  exact (setRow_other _ _ _ _ (by omega)).trans (heap_setCell_other V _ g _ (by show g ≠ e0; omega))

theorem rput_first (w : World) (s : Sl) (lo : Nat → Nat) (m : Mg) : PutSt w (((w.alloc (.cells (rhC s lo).toArray 33)).alloc (.cells (encG m).toArray 47)).alloc (.cells (rhC slNil (fun _ => 0)).toArray 33)) w.heap.size s lo m := by
  have G1 := (Grw.refl w).alloc (.cells (rhC s lo).toArray 33)
  have G2 := G1.alloc (.cells (encG m).toArray 47)
  have G3 := G2.alloc (.cells (rhC slNil (fun _ => 0)).toArray 33)
  have hs1 : (w.alloc (.cells (rhC s lo).toArray 33)).heap.size = w.heap.size + 1 := by simp
  have hs2 : ((w.alloc (.cells (rhC s lo).toArray 33)).alloc (.cells (encG m).toArray 47)).heap.size = w.heap.size + 2 := by simp
  refine ⟨G3.below, ((RhB.new w s lo).below ((Grw.refl _).alloc _).below).below ((Grw.refl _).alloc _).below, ?_, ?_, by simp⟩
  · have := MgB.later (MgB.new (w.alloc (.cells (rhC s lo).toArray 33)) m) ((Grw.refl _).alloc (.cells (rhC slNil (fun _ => 0)).toArray 33)).below
    rw [hs1] at this
    exact this
  · have := RhB.new ((w.alloc (.cells (rhC s lo).toArray 33)).alloc (.cells (encG m).toArray 47)) slNil (fun _ => 0)
    rw [hs2] at this
    exact this
set_option maxHeartbeats 8000000 in
set_option maxRecDepth 100000 in
theorem rput_order (s : Sl) (lo : Nat → Nat) (L : List Mg) (w : World) (hl : SlotAt w s L) (hn : s.n ≤ 1000) (k : Nat) (hk : k < 64) (n : Nat) (hnw : n < 4294967296) (hn1 : n ≠ cntA L (k : Int) + 1) (sx v : Int) (a : Option Addr) (dl dc : Nat) (deps : List Int) (text : ByteArray) :
    Calls Try.prog 109 #[.agg (rhC s lo).toArray, .agg #[.int .i64 (k : Int), .int .u32 (n : Int), .int .u64 sx, .int .i64 v, .slice a dl dc, .string text]] w (RPutAs w s lo 13 L) := by
  have FST := rput_first w s lo ⟨(k : Int), (n : Int), sx, v, a, dl, dc, deps, text⟩
  have hcb : cntA L (k : Int) ≤ 1000 := by have := cntA_le L (k : Int); have := hl.len; omega
  have HLEN := Lib.hid hl.len
  have HN := Lib.hid hn
  have HCAP := Lib.hid hl.cap0
  have KL := Lib.hid (show ∀ w', Below w.heap.size w w' → Lst encG 6 w' s.a s.n L from fun w' hb => Lst.below hl.lst hb)
  have KC : Hid (∀ W, Below w.heap.size w W → Calls Try.prog 138 #[.agg (rhC s lo).toArray, .int .i64 (k : Int)] W fun e w' => e = .returned (.int .u32 (cntA L (k : Int) : Nat)) ∧ Grw W w') := Lib.hid fun W hb => rh_count s lo L (k : Int) W (Lst.below hl.lst hb) hn
  generalize cntA L (k : Int) = c at *
  have hnz : ¬ (n : Int) = (c : Int) + 1 := by omega
  have HS := Lib.hid (show ∀ w', Below w.heap.size w w' → SlotAt w' s L from fun w' hb => hl.below hb)
  have hcw : c ≤ 1000 := hcb
  clear hl hn hn1 hcb
  have d0 : decide ((k : Int) < 0) = false := by simp
  have d1 : decide ((63 : Int) < (k : Int)) = false := by simp; omega
  simp only [encG, List.size_toArray] at FST
  obtain ⟨f, hf⟩ : ∃ f, f = (k : Int) := ⟨_, rfl⟩
  rw [← hf] at d0 d1 FST KC ⊢
  obtain ⟨q, hq⟩ : ∃ q, q = (n : Int) := ⟨_, rfl⟩
  rw [← hq] at FST hnz ⊢
  have w1 : IntKind.u64.wrap q = q := by rw [hq]; exact IntWalk.u64_in _ (by omega)
  have w2 : IntKind.u64.wrap (c : Int) = (c : Int) := IntWalk.u64_in _ (by omega)
  have w3 : IntKind.u64.wrap q = q := w1
  have w4 : IntKind.u64.wrap ((c : Int) + 1) = (c : Int) + 1 := IntWalk.u64_in _ (by omega)
  have hnq : ¬ q = (c : Int) + 1 := fun e => hnz (hq ▸ e)
  have HF := Lib.hid hf
  have HQ := Lib.hid hq
  have HNZ := Lib.hid hnz
  have hz := rh_zero
  have mixed : Try.prog.follows .mixedOrders = true := by kernel_rfl
  clear hf hq hnz
  have FST2 := Lib.hid FST
  clear FST
  go_enter Try.func109, Try.ntmps109
  go_upto_region 1 with fail
  generalize (((w.alloc (.cells (rhC s lo).toArray 33)).alloc (.cells #[.int .i64 f, .int .u32 q, .int .u64 sx, .int .i64 v, .slice a dl dc, .string text] 47)).alloc (.cells (rhC slNil (fun _ => 0)).toArray 33)) = W at *
  generalize he0 : w.heap.size = e0 at *
  have HE0 := Lib.hid he0
  clear he0
  have E3 := Lib.hid FST2.out.e
  have c10 := FST2.out.m.own.at_ 0 _ rfl
  have c11 := FST2.out.m.own.at_ 1 _ rfl
  have h1lt := FST2.out.m.lt
  have x0 := fun nn os => cell_form h1lt c10 nn os
  have x1 := fun nn os => cell_form h1lt c11 nn os
  have EF := Lib.hid (FST2.out.e.form)
  have KC2 : Hid (∀ nn os, Calls Try.prog 138 #[.agg (rhC s lo).toArray, .int .i64 f] (grow (atD W nn) os) fun e w' => e = .returned (.int .u32 (c : Nat)) ∧ Grw (grow (atD W nn) os) w') := Lib.hid fun nn os => KC.out _ (by
    have hb := FST2.out.below
    exact hb.trans ((below_of_form W nn os).mono (by have := FST2.out.z; omega)))
  simp only at x0 x1 c10 c11
  go_upto_region 3 with fail
  refine wp_region_quiet_below (by kernel_rfl) (by kernel_rfl) ?_
  repeat (first | (refine quiet_load_rh (by rfl) (.tmp 2) rfl e0 s lo rfl EF.out ?_) | quiet_step ((go_at_call 138; exact calls_grw (KC2.out _ _))))
  refine wpQuiet_nil ?_
  intro _ hw'
  obtain ⟨⟨nq, osq⟩, hw''⟩ := hw'
  subst hw''
  have A5 := Lib.hid (FST2.out.later (below_of_form W nq osq))
  clear x0 x1 EF KC2 FST2 E3 c10 c11 h1lt KC
  generalize (grow (atD W nq) osq) = W5 at *
  go_wp2_with (first | (refine load_rh rfl (.tmp 2) rfl e0 s lo rfl A5.out.e ?_) | (refine store_rh rfl (.tmp 4) (.tmp 25) rfl (e0 + 2) s lo rfl rfl A5.out.r ?_))
  (try simp only [Exit.inBlock, Exit.then])
  exact bodyPost_ret (v := .tuple #[.agg (rhC s lo).toArray, .int .i64 13]) (results_rh2 (p := 4) (u := 5) rfl _ _ (e0 + 2) rfl (A5.out.r.row s lo)) rfl ⟨s, rfl, HS.out _ (belowRow10 A5.out.below _ (by omega) _), by rw [HE0.out]; exact belowRow10 A5.out.below _ (by omega) _, .inl rfl⟩
set_option maxHeartbeats 8000000 in
set_option maxRecDepth 100000 in
theorem rput_range (s : Sl) (lo : Nat → Nat) (L : List Mg) (w : World) (hl : SlotAt w s L) (f q sx v : Int) (hf : ¬ (0 ≤ f ∧ f < 64)) (a : Option Addr) (dl dc : Nat) (deps : List Int) (text : ByteArray) :
    Calls Try.prog 109 #[.agg (rhC s lo).toArray, .agg #[.int .i64 f, .int .u32 q, .int .u64 sx, .int .i64 v, .slice a dl dc, .string text]] w (RPutAs w s lo 1 L) := by
  have FST := rput_first w s lo ⟨f, q, sx, v, a, dl, dc, deps, text⟩
  have HS := Lib.hid (show ∀ w', Below w.heap.size w w' → SlotAt w' s L from fun w' hb => hl.below hb)
  have hz := rh_zero
  clear hl
  simp only [encG, List.size_toArray] at FST
  have FST2 := Lib.hid FST
  clear FST
  by_cases h0 : f < 0
  · have d0 : decide (f < 0) = true := by simpa using h0
    clear hf h0
    go_enter Try.func109, Try.ntmps109
    go_upto_region 1 with fail
    generalize (((w.alloc (.cells (rhC s lo).toArray 33)).alloc (.cells #[.int .i64 f, .int .u32 q, .int .u64 sx, .int .i64 v, .slice a dl dc, .string text] 47)).alloc (.cells (rhC slNil (fun _ => 0)).toArray 33)) = W at *
    generalize he0 : w.heap.size = e0 at *
    have HE0 := Lib.hid he0
    clear he0
    have c10 := FST2.out.m.own.at_ 0 _ rfl
    simp only at c10
    go_wp2_with (first | (refine load_rh rfl (.tmp 2) rfl e0 s lo rfl FST2.out.e ?_) | (refine store_rh rfl (.tmp 4) (.tmp 14) rfl (e0 + 2) s lo rfl rfl FST2.out.r ?_))
    (try simp only [Exit.inBlock, Exit.then])
    exact bodyPost_ret (v := .tuple #[.agg (rhC s lo).toArray, .int .i64 1]) (results_rh2 (p := 4) (u := 5) rfl _ _ (e0 + 2) rfl (FST2.out.r.row s lo)) rfl ⟨s, rfl, HS.out _ (belowRow10 FST2.out.below _ (by omega) _), by rw [HE0.out]; exact belowRow10 FST2.out.below _ (by omega) _, .inl rfl⟩
  · have d0 : decide (f < 0) = false := by simpa using h0
    have d1 : decide ((63 : Int) < f) = true := by simp; omega
    clear hf h0
    go_enter Try.func109, Try.ntmps109
    go_upto_region 1 with fail
    generalize (((w.alloc (.cells (rhC s lo).toArray 33)).alloc (.cells #[.int .i64 f, .int .u32 q, .int .u64 sx, .int .i64 v, .slice a dl dc, .string text] 47)).alloc (.cells (rhC slNil (fun _ => 0)).toArray 33)) = W at *
    generalize he0 : w.heap.size = e0 at *
    have HE0 := Lib.hid he0
    clear he0
    have c10 := FST2.out.m.own.at_ 0 _ rfl
    simp only at c10
    go_wp2_with (first | (refine load_rh rfl (.tmp 2) rfl e0 s lo rfl FST2.out.e ?_) | (refine store_rh rfl (.tmp 4) (.tmp 14) rfl (e0 + 2) s lo rfl rfl FST2.out.r ?_))
    (try simp only [Exit.inBlock, Exit.then])
    exact bodyPost_ret (v := .tuple #[.agg (rhC s lo).toArray, .int .i64 1]) (results_rh2 (p := 4) (u := 5) rfl _ _ (e0 + 2) rfl (FST2.out.r.row s lo)) rfl ⟨s, rfl, HS.out _ (belowRow10 FST2.out.below _ (by omega) _), by rw [HE0.out]; exact belowRow10 FST2.out.below _ (by omega) _, .inl rfl⟩
set_option maxHeartbeats 8000000 in
set_option maxRecDepth 100000 in
theorem rput_ok (s : Sl) (lo : Nat → Nat) (L : List Mg) (w : World) (hl : SlotAt w s L) (hn : s.n ≤ 1000) (k : Nat) (hk : k < 64) (n : Nat) (hn1 : n = cntA L (k : Int) + 1) (sx v : Int) (a : Option Addr) (dl dc : Nat) (deps : List Int) (text : ByteArray) :
    Calls Try.prog 109 #[.agg (rhC s lo).toArray, .agg #[.int .i64 (k : Int), .int .u32 (n : Int), .int .u64 sx, .int .i64 v, .slice a dl dc, .string text]] w (RPutAs w s lo 0 (L ++ [⟨(k : Int), (n : Int), sx, v, a, dl, dc, deps, text⟩])) := by
  have FST := rput_first w s lo ⟨(k : Int), (n : Int), sx, v, a, dl, dc, deps, text⟩
  have hcb : cntA L (k : Int) ≤ 1000 := by have := cntA_le L (k : Int); have := hl.len; omega
  have HLEN := Lib.hid hl.len
  have HN := Lib.hid hn
  have HCAP := Lib.hid hl.cap0
  have KL := Lib.hid (show ∀ w', Below w.heap.size w w' → Lst encG 6 w' s.a s.n L from fun w' hb => Lst.below hl.lst hb)
  have KC : Hid (∀ W, Below w.heap.size w W → Calls Try.prog 138 #[.agg (rhC s lo).toArray, .int .i64 (k : Int)] W fun e w' => e = .returned (.int .u32 (cntA L (k : Int) : Nat)) ∧ Grw W w') := Lib.hid fun W hb => rh_count s lo L (k : Int) W (Lst.below hl.lst hb) hn
  generalize cntA L (k : Int) = c at *
  have HNC : Hid ((n : Int) = (c : Int) + 1) := Lib.hid (by omega)
  have hnz : ((c : Int) + 1) = (n : Int) := by omega
  have hnw : n < 4294967296 := by omega
  have hcw : c ≤ 1000 := hcb
  clear hl hn hn1 hcb
  have d0 : decide ((k : Int) < 0) = false := by simp
  have d1 : decide ((63 : Int) < (k : Int)) = false := by simp; omega
  simp only [encG, List.size_toArray] at FST
  obtain ⟨f, hf⟩ : ∃ f, f = (k : Int) := ⟨_, rfl⟩
  rw [← hf] at d0 d1 FST KC ⊢
  obtain ⟨q, hq⟩ : ∃ q, q = (n : Int) := ⟨_, rfl⟩
  rw [← hq] at FST hnz ⊢
  have w1 : IntKind.u64.wrap q = q := by rw [hq]; exact IntWalk.u64_in _ (by omega)
  have w2 : IntKind.u64.wrap (c : Int) = (c : Int) := IntWalk.u64_in _ (by omega)
  have w3 : IntKind.u64.wrap q = q := w1
  have w4 : IntKind.u64.wrap ((c : Int) + 1) = q := by rw [hnz]; exact w1
  have HF := Lib.hid hf
  have HQ := Lib.hid hq
  have HNZ := Lib.hid hnz
  have hz := rh_zero
  have mixed : Try.prog.follows .mixedOrders = true := by kernel_rfl
  clear hf hq hnz
  have FST2 := Lib.hid FST
  clear FST
  go_enter Try.func109, Try.ntmps109
  go_upto_region 1 with fail
  generalize (((w.alloc (.cells (rhC s lo).toArray 33)).alloc (.cells #[.int .i64 f, .int .u32 q, .int .u64 sx, .int .i64 v, .slice a dl dc, .string text] 47)).alloc (.cells (rhC slNil (fun _ => 0)).toArray 33)) = W at *
  generalize he0 : w.heap.size = e0 at *
  have HE0 := Lib.hid he0
  clear he0
  have E3 := Lib.hid FST2.out.e
  have c10 := FST2.out.m.own.at_ 0 _ rfl
  have c11 := FST2.out.m.own.at_ 1 _ rfl
  have h1lt := FST2.out.m.lt
  have x0 := fun nn os => cell_form h1lt c10 nn os
  have x1 := fun nn os => cell_form h1lt c11 nn os
  have EF := Lib.hid (FST2.out.e.form)
  have KC2 : Hid (∀ nn os, Calls Try.prog 138 #[.agg (rhC s lo).toArray, .int .i64 f] (grow (atD W nn) os) fun e w' => e = .returned (.int .u32 (c : Nat)) ∧ Grw (grow (atD W nn) os) w') := Lib.hid fun nn os => KC.out _ (by
    have hb := FST2.out.below
    exact hb.trans ((below_of_form W nn os).mono (by have := FST2.out.z; omega)))
  simp only at x0 x1 c10 c11
  go_upto_region 3 with fail
  refine wp_region_quiet_below (by kernel_rfl) (by kernel_rfl) ?_
  repeat (first | (refine quiet_load_rh (by rfl) (.tmp 2) rfl e0 s lo rfl EF.out ?_) | quiet_step ((go_at_call 138; exact calls_grw (KC2.out _ _))))
  refine wpQuiet_nil ?_
  intro _ hw'
  obtain ⟨⟨nq, osq⟩, hw''⟩ := hw'
  subst hw''
  have A5 := Lib.hid (FST2.out.later (below_of_form W nq osq))
  clear x0 x1 EF KC2 FST2 E3 c10 c11 h1lt KC
  generalize (grow (atD W nq) osq) = W5 at *
  go_upto_region 5 with fail
  · skip
    have A6 : PutSt w W5.drew e0 s lo ⟨f, q, sx, v, a, dl, dc, deps, text⟩ := ⟨⟨A5.out.below.os, A5.out.below.tape, A5.out.below.output, A5.out.below.size, A5.out.below.block⟩, A5.out.e, A5.out.m, A5.out.r, A5.out.z⟩
    have KS := Lib.hid (show ∀ w' : World, MgB w' (e0 + 1) ⟨f, q, sx, v, a, dl, dc, deps, text⟩ → w'.rangeAt (e0 + 1) 0 (encG ⟨f, q, sx, v, a, dl, dc, deps, text⟩) from fun w' h j v hj => by rw [Nat.zero_add]; exact h.own.at_ j v (by show (encG _).toArray[j]? = some v; rw [List.getElem?_toArray]; exact hj))
    clear A5
    refine wp_region_held_drew (S := fun w' => MgB w' (e0 + 1) ⟨f, q, sx, v, a, dl, dc, deps, text⟩) (by kernel_rfl) A6.m (fun hHeld => ?_)
    generalize W5.drew = W6 at *
    refine stake (i := 1) (v := .pointer (some ⟨e0, 0, none⟩)) 27 rfl (by kernel_rfl) (by kernel_rfl) (by kernel_rfl) (by kernel_rfl) (fun _ _ _ h => h) (.inl ⟨by kernel_rfl, fun w' hS => by (go_simp)⟩) hHeld ?_
    (try simp only [Act.put, List.setIfInBounds_toArray, List.set_cons_zero, List.set_cons_succ])
    refine stake (i := 4) (v := .agg #[.int .i64 f, .int .u32 q, .int .u64 sx, .int .i64 v, .slice a dl dc, .string text]) 30 rfl (by kernel_rfl) (by kernel_rfl) (by kernel_rfl) (by kernel_rfl) (fun _ _ _ h => h) (yieldsIf_load_mid (by kernel_rfl) 47 (.tmp 3) rfl (e0 + 1) 0 (by kernel_rfl) (encG ⟨f, q, sx, v, a, dl, dc, deps, text⟩) _ (fun w' hS => KS.out w' hS) Try.underlying47 rfl msg_size) hHeld ?_
    (try simp only [Act.put, List.setIfInBounds_toArray, List.set_cons_zero, List.set_cons_succ])
    refine wpAnyH_ready (rs := [0, 2, 5]) (by kernel_rfl) (by simp) (AllReadyH.cons rfl (fun K hK => ?_) (AllReadyH.cons rfl (fun K hK => ?_) (AllReadyH.cons rfl (fun K hK => ?_) AllReadyH.nil)))
    · clear hHeld
      rw [if_pos (by kernel_rfl)]
      go_simp
      have A0n := A6.later ((Grw.refl W6).alloc (.cells #[] 47)).below
      have ROW := own_base (World.ownsRow_made (e := 47) (size := 6) W6 #[] 0 (Nat.le_refl _) (Nat.zero_le _) (by simp)) A6.z
      clear A6
      generalize (W6.alloc (.cells #[] 47)) = U0 at *
      generalize W6.heap.size = nb at *
      refine hK.out _ _ A0n.m (fun hHeld => ?_)
      clear hK K
      (try simp only [Act.put, List.setIfInBounds_toArray, List.set_cons_zero, List.set_cons_succ])
      refine wpAnyH_ready (rs := [2, 5]) (by kernel_rfl) (by simp) (AllReadyH.cons rfl (fun K hK => ?_) (AllReadyH.cons rfl (fun K hK => ?_) AllReadyH.nil))
      · clear hHeld
        rw [if_pos (by kernel_rfl)]
        have c0 := A0n.e.c0
        go_simp
        clear c0
        refine hK.out _ _ A0n.m (fun hHeld => ?_)
        clear hK K
        (try simp only [Act.put, List.setIfInBounds_toArray, List.set_cons_zero, List.set_cons_succ])
        refine wpAnyH_ready (rs := [3, 5]) (by kernel_rfl) (by simp) (AllReadyH.cons rfl (fun K hK => ?_) (AllReadyH.cons rfl (fun K hK => ?_) AllReadyH.nil))
        · clear hHeld
          rw [if_pos (by kernel_rfl)]
          refine wp_append_mg U0 (.tmp 26) (.tmp 28) rfl (e0 + 3) (.slice (some ⟨nb, 0, none⟩) 0 0) 0 [] rfl ROW s.a s.n s.c L rfl HCAP.out (KL.out U0 A0n.below) (by have := HN.out; omega) A0n.z ?_
          intro va U2 ROWA G
          have A2n := A0n.grown G (own_behind ROW)
          clear A0n G ROW
          refine hK.out _ _ A2n.m (fun hHeld => ?_)
          clear hK K
          (try simp only [Act.put, List.setIfInBounds_toArray, List.set_cons_zero, List.set_cons_succ])
          refine wpAnyH_ready (rs := [5]) (by kernel_rfl) (by simp) (AllReadyH.cons rfl (fun K hK => ?_) AllReadyH.nil)
          clear hHeld
          rw [if_pos (by kernel_rfl)]
          go_simp
          have A3n := A2n.later ((Grw.refl U2).alloc (.cells #[.int .i64 f, .int .u32 q, .int .u64 sx, .int .i64 v, .slice a dl dc, .string text] 47)).below
          have X : MgB (U2.alloc (.cells #[.int .i64 f, .int .u32 q, .int .u64 sx, .int .i64 v, .slice a dl dc, .string text] 47)) U2.heap.size ⟨f, q, sx, v, a, dl, dc, deps, text⟩ := MgB.new U2 ⟨f, q, sx, v, a, dl, dc, deps, text⟩
          have ROWA := own_grw ROWA ((Grw.refl U2).alloc (.cells #[.int .i64 f, .int .u32 q, .int .u64 sx, .int .i64 v, .slice a dl dc, .string text] 47))
          clear A2n
          have hxl : U2.heap.size < (U2.alloc (.cells #[.int .i64 f, .int .u32 q, .int .u64 sx, .int .i64 v, .slice a dl dc, .string text] 47)).heap.size := by simp
          generalize (U2.alloc (.cells #[.int .i64 f, .int .u32 q, .int .u64 sx, .int .i64 v, .slice a dl dc, .string text] 47)) = U3 at *
          generalize U2.heap.size = xb at *
          refine hK.out _ _ A3n.m (fun hHeld => ?_)
          clear hK K
          (try simp only [Act.put, List.setIfInBounds_toArray, List.set_cons_zero, List.set_cons_succ])
          refine wpAnyH_ready (rs := [6]) (by kernel_rfl) (by simp) (AllReadyH.cons rfl (fun K hK => ?_) AllReadyH.nil)
          clear hHeld
          rw [if_pos (by kernel_rfl)]
          refine wp_append_mg U3 (.tmp 29) (.tmp 31) rfl (e0 + 3) va (0 + s.n) _ rfl ROWA (some ⟨xb, 0, none⟩) 1 1 [⟨f, q, sx, v, a, dl, dc, deps, text⟩] rfl (fun e => by cases e) (lst_one X) (by have := HN.out; omega) A3n.z ?_
          intro vz U4 ROWZ G
          have A4n := A3n.grown G (own_behind ROWA)
          clear A3n G ROWA X
          refine hK.out _ _ A4n.m (fun hHeld => ?_)
          clear hK K
          (try simp only [Act.put, List.setIfInBounds_toArray, List.set_cons_zero, List.set_cons_succ])
          refine stake (i := 7) (v := .pointer (some ⟨e0, 0, none⟩)) 33 rfl (by kernel_rfl) (by kernel_rfl) (by kernel_rfl) (by kernel_rfl) (fun _ _ _ h => h) (.inl ⟨by kernel_rfl, fun w' hS => by (go_simp)⟩) hHeld ?_
          (try simp only [Act.put, List.setIfInBounds_toArray, List.set_cons_zero, List.set_cons_succ])
          refine wpAnyH_ready (rs := [8]) (by kernel_rfl) (by simp) (AllReadyH.cons rfl (fun K hK => ?_) AllReadyH.nil)
          clear hHeld
          rw [if_pos (by kernel_rfl)]
          have c0 := A4n.e.c0
          have f0 := A4n.e.free 0
          have s9 : MgB (U4.setCell ⟨e0, 0, none⟩ vz) (e0 + 1) ⟨f, q, sx, v, a, dl, dc, deps, text⟩ := Own.set_other A4n.m _ _ _ (by omega)
          have FIN := rput_final A4n HE0.out.symm HLEN.out vz ROWZ
          obtain ⟨t, rfl, E9, R9, HP9⟩ := FIN
          have HP9 := Lib.hid HP9
          have E9 := Lib.hid E9
          have R9 := Lib.hid R9
          go_simp
          refine hK.out _ _ s9 (fun hHeld => ?_)
          clear hK K hHeld s9 c0 f0 A4n ROWZ
          (try simp only [Act.put, List.setIfInBounds_toArray, List.set_cons_zero, List.set_cons_succ])
          refine wpAnyH_done (by kernel_rfl) ?_ _
          generalize (U4.setCell ⟨e0, 0, none⟩ (.slice t.a t.n t.c)) = W9 at *
          go_wp2_with (first | (refine load_rh rfl (.tmp 2) rfl e0 t lo rfl E9.out ?_) | (refine store_rh rfl (.tmp 4) (.tmp 34) rfl (e0 + 2) t lo rfl rfl R9.out ?_))
          (try simp only [Exit.inBlock, Exit.then])
          exact bodyPost_ret (v := .tuple #[.agg (rhC t lo).toArray, .int .i64 0]) (results_rh2 (p := 4) (u := 5) rfl _ _ (e0 + 2) rfl (R9.out.row t lo)) rfl ⟨t, rfl, HP9.out⟩
        · clear hHeld
          rw [if_pos (by kernel_rfl)]
          go_simp
          have A2n := A0n.later ((Grw.refl U0).alloc (.cells #[.int .i64 f, .int .u32 q, .int .u64 sx, .int .i64 v, .slice a dl dc, .string text] 47)).below
          have X : MgB (U0.alloc (.cells #[.int .i64 f, .int .u32 q, .int .u64 sx, .int .i64 v, .slice a dl dc, .string text] 47)) U0.heap.size ⟨f, q, sx, v, a, dl, dc, deps, text⟩ := MgB.new U0 ⟨f, q, sx, v, a, dl, dc, deps, text⟩
          have hxn : U0.heap.size ≠ nb := by have := own_lt ROW; omega
          have ROW := own_grw ROW ((Grw.refl U0).alloc (.cells #[.int .i64 f, .int .u32 q, .int .u64 sx, .int .i64 v, .slice a dl dc, .string text] 47))
          clear A0n
          have hxl : U0.heap.size < (U0.alloc (.cells #[.int .i64 f, .int .u32 q, .int .u64 sx, .int .i64 v, .slice a dl dc, .string text] 47)).heap.size := by simp
          generalize (U0.alloc (.cells #[.int .i64 f, .int .u32 q, .int .u64 sx, .int .i64 v, .slice a dl dc, .string text] 47)) = U2 at *
          generalize U0.heap.size = xb at *
          refine hK.out _ _ A2n.m (fun hHeld => ?_)
          clear hK K
          (try simp only [Act.put, List.setIfInBounds_toArray, List.set_cons_zero, List.set_cons_succ])
          refine wpAnyH_ready (rs := [3]) (by kernel_rfl) (by simp) (AllReadyH.cons rfl (fun K hK => ?_) AllReadyH.nil)
          clear hHeld
          rw [if_pos (by kernel_rfl)]
          refine wp_append_mg U2 (.tmp 26) (.tmp 28) rfl (e0 + 3) (.slice (some ⟨nb, 0, none⟩) 0 0) 0 [] rfl ROW s.a s.n s.c L rfl HCAP.out (KL.out U2 A2n.below) (by have := HN.out; omega) A2n.z ?_
          intro va U3 ROWA G
          have A3n := A2n.grown G (own_behind ROW)
          have X := mgb_grown X G (fun k hk => by cases hk; exact hxn)
          clear A2n G ROW
          refine hK.out _ _ A3n.m (fun hHeld => ?_)
          clear hK K
          (try simp only [Act.put, List.setIfInBounds_toArray, List.set_cons_zero, List.set_cons_succ])
          refine wpAnyH_ready (rs := [6]) (by kernel_rfl) (by simp) (AllReadyH.cons rfl (fun K hK => ?_) AllReadyH.nil)
          clear hHeld
          rw [if_pos (by kernel_rfl)]
          refine wp_append_mg U3 (.tmp 29) (.tmp 31) rfl (e0 + 3) va (0 + s.n) _ rfl ROWA (some ⟨xb, 0, none⟩) 1 1 [⟨f, q, sx, v, a, dl, dc, deps, text⟩] rfl (fun e => by cases e) (lst_one X) (by have := HN.out; omega) A3n.z ?_
          intro vz U4 ROWZ G
          have A4n := A3n.grown G (own_behind ROWA)
          clear A3n G ROWA X
          refine hK.out _ _ A4n.m (fun hHeld => ?_)
          clear hK K
          (try simp only [Act.put, List.setIfInBounds_toArray, List.set_cons_zero, List.set_cons_succ])
          refine stake (i := 7) (v := .pointer (some ⟨e0, 0, none⟩)) 33 rfl (by kernel_rfl) (by kernel_rfl) (by kernel_rfl) (by kernel_rfl) (fun _ _ _ h => h) (.inl ⟨by kernel_rfl, fun w' hS => by (go_simp)⟩) hHeld ?_
          (try simp only [Act.put, List.setIfInBounds_toArray, List.set_cons_zero, List.set_cons_succ])
          refine wpAnyH_ready (rs := [8]) (by kernel_rfl) (by simp) (AllReadyH.cons rfl (fun K hK => ?_) AllReadyH.nil)
          clear hHeld
          rw [if_pos (by kernel_rfl)]
          have c0 := A4n.e.c0
          have f0 := A4n.e.free 0
          have s9 : MgB (U4.setCell ⟨e0, 0, none⟩ vz) (e0 + 1) ⟨f, q, sx, v, a, dl, dc, deps, text⟩ := Own.set_other A4n.m _ _ _ (by omega)
          have FIN := rput_final A4n HE0.out.symm HLEN.out vz ROWZ
          obtain ⟨t, rfl, E9, R9, HP9⟩ := FIN
          have HP9 := Lib.hid HP9
          have E9 := Lib.hid E9
          have R9 := Lib.hid R9
          go_simp
          refine hK.out _ _ s9 (fun hHeld => ?_)
          clear hK K hHeld s9 c0 f0 A4n ROWZ
          (try simp only [Act.put, List.setIfInBounds_toArray, List.set_cons_zero, List.set_cons_succ])
          refine wpAnyH_done (by kernel_rfl) ?_ _
          generalize (U4.setCell ⟨e0, 0, none⟩ (.slice t.a t.n t.c)) = W9 at *
          go_wp2_with (first | (refine load_rh rfl (.tmp 2) rfl e0 t lo rfl E9.out ?_) | (refine store_rh rfl (.tmp 4) (.tmp 34) rfl (e0 + 2) t lo rfl rfl R9.out ?_))
          (try simp only [Exit.inBlock, Exit.then])
          exact bodyPost_ret (v := .tuple #[.agg (rhC t lo).toArray, .int .i64 0]) (results_rh2 (p := 4) (u := 5) rfl _ _ (e0 + 2) rfl (R9.out.row t lo)) rfl ⟨t, rfl, HP9.out⟩
      · clear hHeld
        rw [if_pos (by kernel_rfl)]
        go_simp
        have A1n := A0n.later ((Grw.refl U0).alloc (.cells #[.int .i64 f, .int .u32 q, .int .u64 sx, .int .i64 v, .slice a dl dc, .string text] 47)).below
        have X : MgB (U0.alloc (.cells #[.int .i64 f, .int .u32 q, .int .u64 sx, .int .i64 v, .slice a dl dc, .string text] 47)) U0.heap.size ⟨f, q, sx, v, a, dl, dc, deps, text⟩ := MgB.new U0 ⟨f, q, sx, v, a, dl, dc, deps, text⟩
        have hxn : U0.heap.size ≠ nb := by have := own_lt ROW; omega
        have ROW := own_grw ROW ((Grw.refl U0).alloc (.cells #[.int .i64 f, .int .u32 q, .int .u64 sx, .int .i64 v, .slice a dl dc, .string text] 47))
        clear A0n
        have hxl : U0.heap.size < (U0.alloc (.cells #[.int .i64 f, .int .u32 q, .int .u64 sx, .int .i64 v, .slice a dl dc, .string text] 47)).heap.size := by simp
        generalize (U0.alloc (.cells #[.int .i64 f, .int .u32 q, .int .u64 sx, .int .i64 v, .slice a dl dc, .string text] 47)) = U1 at *
        generalize U0.heap.size = xb at *
        refine hK.out _ _ A1n.m (fun hHeld => ?_)
        clear hK K
        (try simp only [Act.put, List.setIfInBounds_toArray, List.set_cons_zero, List.set_cons_succ])
        refine wpAnyH_ready (rs := [2]) (by kernel_rfl) (by simp) (AllReadyH.cons rfl (fun K hK => ?_) AllReadyH.nil)
        clear hHeld
        rw [if_pos (by kernel_rfl)]
        have c0 := A1n.e.c0
        go_simp
        clear c0
        refine hK.out _ _ A1n.m (fun hHeld => ?_)
        clear hK K
        (try simp only [Act.put, List.setIfInBounds_toArray, List.set_cons_zero, List.set_cons_succ])
        refine wpAnyH_ready (rs := [3]) (by kernel_rfl) (by simp) (AllReadyH.cons rfl (fun K hK => ?_) AllReadyH.nil)
        clear hHeld
        rw [if_pos (by kernel_rfl)]
        refine wp_append_mg U1 (.tmp 26) (.tmp 28) rfl (e0 + 3) (.slice (some ⟨nb, 0, none⟩) 0 0) 0 [] rfl ROW s.a s.n s.c L rfl HCAP.out (KL.out U1 A1n.below) (by have := HN.out; omega) A1n.z ?_
        intro va U3 ROWA G
        have A3n := A1n.grown G (own_behind ROW)
        have X := mgb_grown X G (fun k hk => by cases hk; exact hxn)
        clear A1n G ROW
        refine hK.out _ _ A3n.m (fun hHeld => ?_)
        clear hK K
        (try simp only [Act.put, List.setIfInBounds_toArray, List.set_cons_zero, List.set_cons_succ])
        refine wpAnyH_ready (rs := [6]) (by kernel_rfl) (by simp) (AllReadyH.cons rfl (fun K hK => ?_) AllReadyH.nil)
        clear hHeld
        rw [if_pos (by kernel_rfl)]
        refine wp_append_mg U3 (.tmp 29) (.tmp 31) rfl (e0 + 3) va (0 + s.n) _ rfl ROWA (some ⟨xb, 0, none⟩) 1 1 [⟨f, q, sx, v, a, dl, dc, deps, text⟩] rfl (fun e => by cases e) (lst_one X) (by have := HN.out; omega) A3n.z ?_
        intro vz U4 ROWZ G
        have A4n := A3n.grown G (own_behind ROWA)
        clear A3n G ROWA X
        refine hK.out _ _ A4n.m (fun hHeld => ?_)
        clear hK K
        (try simp only [Act.put, List.setIfInBounds_toArray, List.set_cons_zero, List.set_cons_succ])
        refine stake (i := 7) (v := .pointer (some ⟨e0, 0, none⟩)) 33 rfl (by kernel_rfl) (by kernel_rfl) (by kernel_rfl) (by kernel_rfl) (fun _ _ _ h => h) (.inl ⟨by kernel_rfl, fun w' hS => by (go_simp)⟩) hHeld ?_
        (try simp only [Act.put, List.setIfInBounds_toArray, List.set_cons_zero, List.set_cons_succ])
        refine wpAnyH_ready (rs := [8]) (by kernel_rfl) (by simp) (AllReadyH.cons rfl (fun K hK => ?_) AllReadyH.nil)
        clear hHeld
        rw [if_pos (by kernel_rfl)]
        have c0 := A4n.e.c0
        have f0 := A4n.e.free 0
        have s9 : MgB (U4.setCell ⟨e0, 0, none⟩ vz) (e0 + 1) ⟨f, q, sx, v, a, dl, dc, deps, text⟩ := Own.set_other A4n.m _ _ _ (by omega)
        have FIN := rput_final A4n HE0.out.symm HLEN.out vz ROWZ
        obtain ⟨t, rfl, E9, R9, HP9⟩ := FIN
        have HP9 := Lib.hid HP9
        have E9 := Lib.hid E9
        have R9 := Lib.hid R9
        go_simp
        refine hK.out _ _ s9 (fun hHeld => ?_)
        clear hK K hHeld s9 c0 f0 A4n ROWZ
        (try simp only [Act.put, List.setIfInBounds_toArray, List.set_cons_zero, List.set_cons_succ])
        refine wpAnyH_done (by kernel_rfl) ?_ _
        generalize (U4.setCell ⟨e0, 0, none⟩ (.slice t.a t.n t.c)) = W9 at *
        go_wp2_with (first | (refine load_rh rfl (.tmp 2) rfl e0 t lo rfl E9.out ?_) | (refine store_rh rfl (.tmp 4) (.tmp 34) rfl (e0 + 2) t lo rfl rfl R9.out ?_))
        (try simp only [Exit.inBlock, Exit.then])
        exact bodyPost_ret (v := .tuple #[.agg (rhC t lo).toArray, .int .i64 0]) (results_rh2 (p := 4) (u := 5) rfl _ _ (e0 + 2) rfl (R9.out.row t lo)) rfl ⟨t, rfl, HP9.out⟩
    · clear hHeld
      rw [if_pos (by kernel_rfl)]
      have c0 := A6.e.c0
      go_simp
      clear c0
      refine hK.out _ _ A6.m (fun hHeld => ?_)
      clear hK K
      (try simp only [Act.put, List.setIfInBounds_toArray, List.set_cons_zero, List.set_cons_succ])
      refine wpAnyH_ready (rs := [0, 5]) (by kernel_rfl) (by simp) (AllReadyH.cons rfl (fun K hK => ?_) (AllReadyH.cons rfl (fun K hK => ?_) AllReadyH.nil))
      · clear hHeld
        rw [if_pos (by kernel_rfl)]
        go_simp
        have A1n := A6.later ((Grw.refl W6).alloc (.cells #[] 47)).below
        have ROW := own_base (World.ownsRow_made (e := 47) (size := 6) W6 #[] 0 (Nat.le_refl _) (Nat.zero_le _) (by simp)) A6.z
        clear A6
        generalize (W6.alloc (.cells #[] 47)) = U1 at *
        generalize W6.heap.size = nb at *
        refine hK.out _ _ A1n.m (fun hHeld => ?_)
        clear hK K
        (try simp only [Act.put, List.setIfInBounds_toArray, List.set_cons_zero, List.set_cons_succ])
        refine wpAnyH_ready (rs := [3, 5]) (by kernel_rfl) (by simp) (AllReadyH.cons rfl (fun K hK => ?_) (AllReadyH.cons rfl (fun K hK => ?_) AllReadyH.nil))
        · clear hHeld
          rw [if_pos (by kernel_rfl)]
          refine wp_append_mg U1 (.tmp 26) (.tmp 28) rfl (e0 + 3) (.slice (some ⟨nb, 0, none⟩) 0 0) 0 [] rfl ROW s.a s.n s.c L rfl HCAP.out (KL.out U1 A1n.below) (by have := HN.out; omega) A1n.z ?_
          intro va U2 ROWA G
          have A2n := A1n.grown G (own_behind ROW)
          clear A1n G ROW
          refine hK.out _ _ A2n.m (fun hHeld => ?_)
          clear hK K
          (try simp only [Act.put, List.setIfInBounds_toArray, List.set_cons_zero, List.set_cons_succ])
          refine wpAnyH_ready (rs := [5]) (by kernel_rfl) (by simp) (AllReadyH.cons rfl (fun K hK => ?_) AllReadyH.nil)
          clear hHeld
          rw [if_pos (by kernel_rfl)]
          go_simp
          have A3n := A2n.later ((Grw.refl U2).alloc (.cells #[.int .i64 f, .int .u32 q, .int .u64 sx, .int .i64 v, .slice a dl dc, .string text] 47)).below
          have X : MgB (U2.alloc (.cells #[.int .i64 f, .int .u32 q, .int .u64 sx, .int .i64 v, .slice a dl dc, .string text] 47)) U2.heap.size ⟨f, q, sx, v, a, dl, dc, deps, text⟩ := MgB.new U2 ⟨f, q, sx, v, a, dl, dc, deps, text⟩
          have ROWA := own_grw ROWA ((Grw.refl U2).alloc (.cells #[.int .i64 f, .int .u32 q, .int .u64 sx, .int .i64 v, .slice a dl dc, .string text] 47))
          clear A2n
          have hxl : U2.heap.size < (U2.alloc (.cells #[.int .i64 f, .int .u32 q, .int .u64 sx, .int .i64 v, .slice a dl dc, .string text] 47)).heap.size := by simp
          generalize (U2.alloc (.cells #[.int .i64 f, .int .u32 q, .int .u64 sx, .int .i64 v, .slice a dl dc, .string text] 47)) = U3 at *
          generalize U2.heap.size = xb at *
          refine hK.out _ _ A3n.m (fun hHeld => ?_)
          clear hK K
          (try simp only [Act.put, List.setIfInBounds_toArray, List.set_cons_zero, List.set_cons_succ])
          refine wpAnyH_ready (rs := [6]) (by kernel_rfl) (by simp) (AllReadyH.cons rfl (fun K hK => ?_) AllReadyH.nil)
          clear hHeld
          rw [if_pos (by kernel_rfl)]
          refine wp_append_mg U3 (.tmp 29) (.tmp 31) rfl (e0 + 3) va (0 + s.n) _ rfl ROWA (some ⟨xb, 0, none⟩) 1 1 [⟨f, q, sx, v, a, dl, dc, deps, text⟩] rfl (fun e => by cases e) (lst_one X) (by have := HN.out; omega) A3n.z ?_
          intro vz U4 ROWZ G
          have A4n := A3n.grown G (own_behind ROWA)
          clear A3n G ROWA X
          refine hK.out _ _ A4n.m (fun hHeld => ?_)
          clear hK K
          (try simp only [Act.put, List.setIfInBounds_toArray, List.set_cons_zero, List.set_cons_succ])
          refine stake (i := 7) (v := .pointer (some ⟨e0, 0, none⟩)) 33 rfl (by kernel_rfl) (by kernel_rfl) (by kernel_rfl) (by kernel_rfl) (fun _ _ _ h => h) (.inl ⟨by kernel_rfl, fun w' hS => by (go_simp)⟩) hHeld ?_
          (try simp only [Act.put, List.setIfInBounds_toArray, List.set_cons_zero, List.set_cons_succ])
          refine wpAnyH_ready (rs := [8]) (by kernel_rfl) (by simp) (AllReadyH.cons rfl (fun K hK => ?_) AllReadyH.nil)
          clear hHeld
          rw [if_pos (by kernel_rfl)]
          have c0 := A4n.e.c0
          have f0 := A4n.e.free 0
          have s9 : MgB (U4.setCell ⟨e0, 0, none⟩ vz) (e0 + 1) ⟨f, q, sx, v, a, dl, dc, deps, text⟩ := Own.set_other A4n.m _ _ _ (by omega)
          have FIN := rput_final A4n HE0.out.symm HLEN.out vz ROWZ
          obtain ⟨t, rfl, E9, R9, HP9⟩ := FIN
          have HP9 := Lib.hid HP9
          have E9 := Lib.hid E9
          have R9 := Lib.hid R9
          go_simp
          refine hK.out _ _ s9 (fun hHeld => ?_)
          clear hK K hHeld s9 c0 f0 A4n ROWZ
          (try simp only [Act.put, List.setIfInBounds_toArray, List.set_cons_zero, List.set_cons_succ])
          refine wpAnyH_done (by kernel_rfl) ?_ _
          generalize (U4.setCell ⟨e0, 0, none⟩ (.slice t.a t.n t.c)) = W9 at *
          go_wp2_with (first | (refine load_rh rfl (.tmp 2) rfl e0 t lo rfl E9.out ?_) | (refine store_rh rfl (.tmp 4) (.tmp 34) rfl (e0 + 2) t lo rfl rfl R9.out ?_))
          (try simp only [Exit.inBlock, Exit.then])
          exact bodyPost_ret (v := .tuple #[.agg (rhC t lo).toArray, .int .i64 0]) (results_rh2 (p := 4) (u := 5) rfl _ _ (e0 + 2) rfl (R9.out.row t lo)) rfl ⟨t, rfl, HP9.out⟩
        · clear hHeld
          rw [if_pos (by kernel_rfl)]
          go_simp
          have A2n := A1n.later ((Grw.refl U1).alloc (.cells #[.int .i64 f, .int .u32 q, .int .u64 sx, .int .i64 v, .slice a dl dc, .string text] 47)).below
          have X : MgB (U1.alloc (.cells #[.int .i64 f, .int .u32 q, .int .u64 sx, .int .i64 v, .slice a dl dc, .string text] 47)) U1.heap.size ⟨f, q, sx, v, a, dl, dc, deps, text⟩ := MgB.new U1 ⟨f, q, sx, v, a, dl, dc, deps, text⟩
          have hxn : U1.heap.size ≠ nb := by have := own_lt ROW; omega
          have ROW := own_grw ROW ((Grw.refl U1).alloc (.cells #[.int .i64 f, .int .u32 q, .int .u64 sx, .int .i64 v, .slice a dl dc, .string text] 47))
          clear A1n
          have hxl : U1.heap.size < (U1.alloc (.cells #[.int .i64 f, .int .u32 q, .int .u64 sx, .int .i64 v, .slice a dl dc, .string text] 47)).heap.size := by simp
          generalize (U1.alloc (.cells #[.int .i64 f, .int .u32 q, .int .u64 sx, .int .i64 v, .slice a dl dc, .string text] 47)) = U2 at *
          generalize U1.heap.size = xb at *
          refine hK.out _ _ A2n.m (fun hHeld => ?_)
          clear hK K
          (try simp only [Act.put, List.setIfInBounds_toArray, List.set_cons_zero, List.set_cons_succ])
          refine wpAnyH_ready (rs := [3]) (by kernel_rfl) (by simp) (AllReadyH.cons rfl (fun K hK => ?_) AllReadyH.nil)
          clear hHeld
          rw [if_pos (by kernel_rfl)]
          refine wp_append_mg U2 (.tmp 26) (.tmp 28) rfl (e0 + 3) (.slice (some ⟨nb, 0, none⟩) 0 0) 0 [] rfl ROW s.a s.n s.c L rfl HCAP.out (KL.out U2 A2n.below) (by have := HN.out; omega) A2n.z ?_
          intro va U3 ROWA G
          have A3n := A2n.grown G (own_behind ROW)
          have X := mgb_grown X G (fun k hk => by cases hk; exact hxn)
          clear A2n G ROW
          refine hK.out _ _ A3n.m (fun hHeld => ?_)
          clear hK K
          (try simp only [Act.put, List.setIfInBounds_toArray, List.set_cons_zero, List.set_cons_succ])
          refine wpAnyH_ready (rs := [6]) (by kernel_rfl) (by simp) (AllReadyH.cons rfl (fun K hK => ?_) AllReadyH.nil)
          clear hHeld
          rw [if_pos (by kernel_rfl)]
          refine wp_append_mg U3 (.tmp 29) (.tmp 31) rfl (e0 + 3) va (0 + s.n) _ rfl ROWA (some ⟨xb, 0, none⟩) 1 1 [⟨f, q, sx, v, a, dl, dc, deps, text⟩] rfl (fun e => by cases e) (lst_one X) (by have := HN.out; omega) A3n.z ?_
          intro vz U4 ROWZ G
          have A4n := A3n.grown G (own_behind ROWA)
          clear A3n G ROWA X
          refine hK.out _ _ A4n.m (fun hHeld => ?_)
          clear hK K
          (try simp only [Act.put, List.setIfInBounds_toArray, List.set_cons_zero, List.set_cons_succ])
          refine stake (i := 7) (v := .pointer (some ⟨e0, 0, none⟩)) 33 rfl (by kernel_rfl) (by kernel_rfl) (by kernel_rfl) (by kernel_rfl) (fun _ _ _ h => h) (.inl ⟨by kernel_rfl, fun w' hS => by (go_simp)⟩) hHeld ?_
          (try simp only [Act.put, List.setIfInBounds_toArray, List.set_cons_zero, List.set_cons_succ])
          refine wpAnyH_ready (rs := [8]) (by kernel_rfl) (by simp) (AllReadyH.cons rfl (fun K hK => ?_) AllReadyH.nil)
          clear hHeld
          rw [if_pos (by kernel_rfl)]
          have c0 := A4n.e.c0
          have f0 := A4n.e.free 0
          have s9 : MgB (U4.setCell ⟨e0, 0, none⟩ vz) (e0 + 1) ⟨f, q, sx, v, a, dl, dc, deps, text⟩ := Own.set_other A4n.m _ _ _ (by omega)
          have FIN := rput_final A4n HE0.out.symm HLEN.out vz ROWZ
          obtain ⟨t, rfl, E9, R9, HP9⟩ := FIN
          have HP9 := Lib.hid HP9
          have E9 := Lib.hid E9
          have R9 := Lib.hid R9
          go_simp
          refine hK.out _ _ s9 (fun hHeld => ?_)
          clear hK K hHeld s9 c0 f0 A4n ROWZ
          (try simp only [Act.put, List.setIfInBounds_toArray, List.set_cons_zero, List.set_cons_succ])
          refine wpAnyH_done (by kernel_rfl) ?_ _
          generalize (U4.setCell ⟨e0, 0, none⟩ (.slice t.a t.n t.c)) = W9 at *
          go_wp2_with (first | (refine load_rh rfl (.tmp 2) rfl e0 t lo rfl E9.out ?_) | (refine store_rh rfl (.tmp 4) (.tmp 34) rfl (e0 + 2) t lo rfl rfl R9.out ?_))
          (try simp only [Exit.inBlock, Exit.then])
          exact bodyPost_ret (v := .tuple #[.agg (rhC t lo).toArray, .int .i64 0]) (results_rh2 (p := 4) (u := 5) rfl _ _ (e0 + 2) rfl (R9.out.row t lo)) rfl ⟨t, rfl, HP9.out⟩
      · clear hHeld
        rw [if_pos (by kernel_rfl)]
        go_simp
        have A1n := A6.later ((Grw.refl W6).alloc (.cells #[.int .i64 f, .int .u32 q, .int .u64 sx, .int .i64 v, .slice a dl dc, .string text] 47)).below
        have X : MgB (W6.alloc (.cells #[.int .i64 f, .int .u32 q, .int .u64 sx, .int .i64 v, .slice a dl dc, .string text] 47)) W6.heap.size ⟨f, q, sx, v, a, dl, dc, deps, text⟩ := MgB.new W6 ⟨f, q, sx, v, a, dl, dc, deps, text⟩
        clear A6
        have hxl : W6.heap.size < (W6.alloc (.cells #[.int .i64 f, .int .u32 q, .int .u64 sx, .int .i64 v, .slice a dl dc, .string text] 47)).heap.size := by simp
        generalize (W6.alloc (.cells #[.int .i64 f, .int .u32 q, .int .u64 sx, .int .i64 v, .slice a dl dc, .string text] 47)) = U1 at *
        generalize W6.heap.size = xb at *
        refine hK.out _ _ A1n.m (fun hHeld => ?_)
        clear hK K
        (try simp only [Act.put, List.setIfInBounds_toArray, List.set_cons_zero, List.set_cons_succ])
        refine wpAnyH_ready (rs := [0]) (by kernel_rfl) (by simp) (AllReadyH.cons rfl (fun K hK => ?_) AllReadyH.nil)
        clear hHeld
        rw [if_pos (by kernel_rfl)]
        go_simp
        have A2n := A1n.later ((Grw.refl U1).alloc (.cells #[] 47)).below
        have ROW := own_base (World.ownsRow_made (e := 47) (size := 6) U1 #[] 0 (Nat.le_refl _) (Nat.zero_le _) (by simp)) A1n.z
        have X := MgB.later X ((Grw.refl U1).alloc (.cells #[] 47)).below
        have hxn : xb ≠ U1.heap.size := by omega
        clear A1n
        generalize (U1.alloc (.cells #[] 47)) = U2 at *
        generalize U1.heap.size = nb at *
        refine hK.out _ _ A2n.m (fun hHeld => ?_)
        clear hK K
        (try simp only [Act.put, List.setIfInBounds_toArray, List.set_cons_zero, List.set_cons_succ])
        refine wpAnyH_ready (rs := [3]) (by kernel_rfl) (by simp) (AllReadyH.cons rfl (fun K hK => ?_) AllReadyH.nil)
        clear hHeld
        rw [if_pos (by kernel_rfl)]
        refine wp_append_mg U2 (.tmp 26) (.tmp 28) rfl (e0 + 3) (.slice (some ⟨nb, 0, none⟩) 0 0) 0 [] rfl ROW s.a s.n s.c L rfl HCAP.out (KL.out U2 A2n.below) (by have := HN.out; omega) A2n.z ?_
        intro va U3 ROWA G
        have A3n := A2n.grown G (own_behind ROW)
        have X := mgb_grown X G (fun k hk => by cases hk; exact hxn)
        clear A2n G ROW
        refine hK.out _ _ A3n.m (fun hHeld => ?_)
        clear hK K
        (try simp only [Act.put, List.setIfInBounds_toArray, List.set_cons_zero, List.set_cons_succ])
        refine wpAnyH_ready (rs := [6]) (by kernel_rfl) (by simp) (AllReadyH.cons rfl (fun K hK => ?_) AllReadyH.nil)
        clear hHeld
        rw [if_pos (by kernel_rfl)]
        refine wp_append_mg U3 (.tmp 29) (.tmp 31) rfl (e0 + 3) va (0 + s.n) _ rfl ROWA (some ⟨xb, 0, none⟩) 1 1 [⟨f, q, sx, v, a, dl, dc, deps, text⟩] rfl (fun e => by cases e) (lst_one X) (by have := HN.out; omega) A3n.z ?_
        intro vz U4 ROWZ G
        have A4n := A3n.grown G (own_behind ROWA)
        clear A3n G ROWA X
        refine hK.out _ _ A4n.m (fun hHeld => ?_)
        clear hK K
        (try simp only [Act.put, List.setIfInBounds_toArray, List.set_cons_zero, List.set_cons_succ])
        refine stake (i := 7) (v := .pointer (some ⟨e0, 0, none⟩)) 33 rfl (by kernel_rfl) (by kernel_rfl) (by kernel_rfl) (by kernel_rfl) (fun _ _ _ h => h) (.inl ⟨by kernel_rfl, fun w' hS => by (go_simp)⟩) hHeld ?_
        (try simp only [Act.put, List.setIfInBounds_toArray, List.set_cons_zero, List.set_cons_succ])
        refine wpAnyH_ready (rs := [8]) (by kernel_rfl) (by simp) (AllReadyH.cons rfl (fun K hK => ?_) AllReadyH.nil)
        clear hHeld
        rw [if_pos (by kernel_rfl)]
        have c0 := A4n.e.c0
        have f0 := A4n.e.free 0
        have s9 : MgB (U4.setCell ⟨e0, 0, none⟩ vz) (e0 + 1) ⟨f, q, sx, v, a, dl, dc, deps, text⟩ := Own.set_other A4n.m _ _ _ (by omega)
        have FIN := rput_final A4n HE0.out.symm HLEN.out vz ROWZ
        obtain ⟨t, rfl, E9, R9, HP9⟩ := FIN
        have HP9 := Lib.hid HP9
        have E9 := Lib.hid E9
        have R9 := Lib.hid R9
        go_simp
        refine hK.out _ _ s9 (fun hHeld => ?_)
        clear hK K hHeld s9 c0 f0 A4n ROWZ
        (try simp only [Act.put, List.setIfInBounds_toArray, List.set_cons_zero, List.set_cons_succ])
        refine wpAnyH_done (by kernel_rfl) ?_ _
        generalize (U4.setCell ⟨e0, 0, none⟩ (.slice t.a t.n t.c)) = W9 at *
        go_wp2_with (first | (refine load_rh rfl (.tmp 2) rfl e0 t lo rfl E9.out ?_) | (refine store_rh rfl (.tmp 4) (.tmp 34) rfl (e0 + 2) t lo rfl rfl R9.out ?_))
        (try simp only [Exit.inBlock, Exit.then])
        exact bodyPost_ret (v := .tuple #[.agg (rhC t lo).toArray, .int .i64 0]) (results_rh2 (p := 4) (u := 5) rfl _ _ (e0 + 2) rfl (R9.out.row t lo)) rfl ⟨t, rfl, HP9.out⟩
    · clear hHeld
      rw [if_pos (by kernel_rfl)]
      go_simp
      have A0n := A6.later ((Grw.refl W6).alloc (.cells #[.int .i64 f, .int .u32 q, .int .u64 sx, .int .i64 v, .slice a dl dc, .string text] 47)).below
      have X : MgB (W6.alloc (.cells #[.int .i64 f, .int .u32 q, .int .u64 sx, .int .i64 v, .slice a dl dc, .string text] 47)) W6.heap.size ⟨f, q, sx, v, a, dl, dc, deps, text⟩ := MgB.new W6 ⟨f, q, sx, v, a, dl, dc, deps, text⟩
      clear A6
      have hxl : W6.heap.size < (W6.alloc (.cells #[.int .i64 f, .int .u32 q, .int .u64 sx, .int .i64 v, .slice a dl dc, .string text] 47)).heap.size := by simp
      generalize (W6.alloc (.cells #[.int .i64 f, .int .u32 q, .int .u64 sx, .int .i64 v, .slice a dl dc, .string text] 47)) = U0 at *
      generalize W6.heap.size = xb at *
      refine hK.out _ _ A0n.m (fun hHeld => ?_)
      clear hK K
      (try simp only [Act.put, List.setIfInBounds_toArray, List.set_cons_zero, List.set_cons_succ])
      refine wpAnyH_ready (rs := [0, 2]) (by kernel_rfl) (by simp) (AllReadyH.cons rfl (fun K hK => ?_) (AllReadyH.cons rfl (fun K hK => ?_) AllReadyH.nil))
      · clear hHeld
        rw [if_pos (by kernel_rfl)]
        go_simp
        have A1n := A0n.later ((Grw.refl U0).alloc (.cells #[] 47)).below
        have ROW := own_base (World.ownsRow_made (e := 47) (size := 6) U0 #[] 0 (Nat.le_refl _) (Nat.zero_le _) (by simp)) A0n.z
        have X := MgB.later X ((Grw.refl U0).alloc (.cells #[] 47)).below
        have hxn : xb ≠ U0.heap.size := by omega
        clear A0n
        generalize (U0.alloc (.cells #[] 47)) = U1 at *
        generalize U0.heap.size = nb at *
        refine hK.out _ _ A1n.m (fun hHeld => ?_)
        clear hK K
        (try simp only [Act.put, List.setIfInBounds_toArray, List.set_cons_zero, List.set_cons_succ])
        refine wpAnyH_ready (rs := [2]) (by kernel_rfl) (by simp) (AllReadyH.cons rfl (fun K hK => ?_) AllReadyH.nil)
        clear hHeld
        rw [if_pos (by kernel_rfl)]
        have c0 := A1n.e.c0
        go_simp
        clear c0
        refine hK.out _ _ A1n.m (fun hHeld => ?_)
        clear hK K
        (try simp only [Act.put, List.setIfInBounds_toArray, List.set_cons_zero, List.set_cons_succ])
        refine wpAnyH_ready (rs := [3]) (by kernel_rfl) (by simp) (AllReadyH.cons rfl (fun K hK => ?_) AllReadyH.nil)
        clear hHeld
        rw [if_pos (by kernel_rfl)]
        refine wp_append_mg U1 (.tmp 26) (.tmp 28) rfl (e0 + 3) (.slice (some ⟨nb, 0, none⟩) 0 0) 0 [] rfl ROW s.a s.n s.c L rfl HCAP.out (KL.out U1 A1n.below) (by have := HN.out; omega) A1n.z ?_
        intro va U3 ROWA G
        have A3n := A1n.grown G (own_behind ROW)
        have X := mgb_grown X G (fun k hk => by cases hk; exact hxn)
        clear A1n G ROW
        refine hK.out _ _ A3n.m (fun hHeld => ?_)
        clear hK K
        (try simp only [Act.put, List.setIfInBounds_toArray, List.set_cons_zero, List.set_cons_succ])
        refine wpAnyH_ready (rs := [6]) (by kernel_rfl) (by simp) (AllReadyH.cons rfl (fun K hK => ?_) AllReadyH.nil)
        clear hHeld
        rw [if_pos (by kernel_rfl)]
        refine wp_append_mg U3 (.tmp 29) (.tmp 31) rfl (e0 + 3) va (0 + s.n) _ rfl ROWA (some ⟨xb, 0, none⟩) 1 1 [⟨f, q, sx, v, a, dl, dc, deps, text⟩] rfl (fun e => by cases e) (lst_one X) (by have := HN.out; omega) A3n.z ?_
        intro vz U4 ROWZ G
        have A4n := A3n.grown G (own_behind ROWA)
        clear A3n G ROWA X
        refine hK.out _ _ A4n.m (fun hHeld => ?_)
        clear hK K
        (try simp only [Act.put, List.setIfInBounds_toArray, List.set_cons_zero, List.set_cons_succ])
        refine stake (i := 7) (v := .pointer (some ⟨e0, 0, none⟩)) 33 rfl (by kernel_rfl) (by kernel_rfl) (by kernel_rfl) (by kernel_rfl) (fun _ _ _ h => h) (.inl ⟨by kernel_rfl, fun w' hS => by (go_simp)⟩) hHeld ?_
        (try simp only [Act.put, List.setIfInBounds_toArray, List.set_cons_zero, List.set_cons_succ])
        refine wpAnyH_ready (rs := [8]) (by kernel_rfl) (by simp) (AllReadyH.cons rfl (fun K hK => ?_) AllReadyH.nil)
        clear hHeld
        rw [if_pos (by kernel_rfl)]
        have c0 := A4n.e.c0
        have f0 := A4n.e.free 0
        have s9 : MgB (U4.setCell ⟨e0, 0, none⟩ vz) (e0 + 1) ⟨f, q, sx, v, a, dl, dc, deps, text⟩ := Own.set_other A4n.m _ _ _ (by omega)
        have FIN := rput_final A4n HE0.out.symm HLEN.out vz ROWZ
        obtain ⟨t, rfl, E9, R9, HP9⟩ := FIN
        have HP9 := Lib.hid HP9
        have E9 := Lib.hid E9
        have R9 := Lib.hid R9
        go_simp
        refine hK.out _ _ s9 (fun hHeld => ?_)
        clear hK K hHeld s9 c0 f0 A4n ROWZ
        (try simp only [Act.put, List.setIfInBounds_toArray, List.set_cons_zero, List.set_cons_succ])
        refine wpAnyH_done (by kernel_rfl) ?_ _
        generalize (U4.setCell ⟨e0, 0, none⟩ (.slice t.a t.n t.c)) = W9 at *
        go_wp2_with (first | (refine load_rh rfl (.tmp 2) rfl e0 t lo rfl E9.out ?_) | (refine store_rh rfl (.tmp 4) (.tmp 34) rfl (e0 + 2) t lo rfl rfl R9.out ?_))
        (try simp only [Exit.inBlock, Exit.then])
        exact bodyPost_ret (v := .tuple #[.agg (rhC t lo).toArray, .int .i64 0]) (results_rh2 (p := 4) (u := 5) rfl _ _ (e0 + 2) rfl (R9.out.row t lo)) rfl ⟨t, rfl, HP9.out⟩
      · clear hHeld
        rw [if_pos (by kernel_rfl)]
        have c0 := A0n.e.c0
        go_simp
        clear c0
        refine hK.out _ _ A0n.m (fun hHeld => ?_)
        clear hK K
        (try simp only [Act.put, List.setIfInBounds_toArray, List.set_cons_zero, List.set_cons_succ])
        refine wpAnyH_ready (rs := [0]) (by kernel_rfl) (by simp) (AllReadyH.cons rfl (fun K hK => ?_) AllReadyH.nil)
        clear hHeld
        rw [if_pos (by kernel_rfl)]
        go_simp
        have A2n := A0n.later ((Grw.refl U0).alloc (.cells #[] 47)).below
        have ROW := own_base (World.ownsRow_made (e := 47) (size := 6) U0 #[] 0 (Nat.le_refl _) (Nat.zero_le _) (by simp)) A0n.z
        have X := MgB.later X ((Grw.refl U0).alloc (.cells #[] 47)).below
        have hxn : xb ≠ U0.heap.size := by omega
        clear A0n
        generalize (U0.alloc (.cells #[] 47)) = U2 at *
        generalize U0.heap.size = nb at *
        refine hK.out _ _ A2n.m (fun hHeld => ?_)
        clear hK K
        (try simp only [Act.put, List.setIfInBounds_toArray, List.set_cons_zero, List.set_cons_succ])
        refine wpAnyH_ready (rs := [3]) (by kernel_rfl) (by simp) (AllReadyH.cons rfl (fun K hK => ?_) AllReadyH.nil)
        clear hHeld
        rw [if_pos (by kernel_rfl)]
        refine wp_append_mg U2 (.tmp 26) (.tmp 28) rfl (e0 + 3) (.slice (some ⟨nb, 0, none⟩) 0 0) 0 [] rfl ROW s.a s.n s.c L rfl HCAP.out (KL.out U2 A2n.below) (by have := HN.out; omega) A2n.z ?_
        intro va U3 ROWA G
        have A3n := A2n.grown G (own_behind ROW)
        have X := mgb_grown X G (fun k hk => by cases hk; exact hxn)
        clear A2n G ROW
        refine hK.out _ _ A3n.m (fun hHeld => ?_)
        clear hK K
        (try simp only [Act.put, List.setIfInBounds_toArray, List.set_cons_zero, List.set_cons_succ])
        refine wpAnyH_ready (rs := [6]) (by kernel_rfl) (by simp) (AllReadyH.cons rfl (fun K hK => ?_) AllReadyH.nil)
        clear hHeld
        rw [if_pos (by kernel_rfl)]
        refine wp_append_mg U3 (.tmp 29) (.tmp 31) rfl (e0 + 3) va (0 + s.n) _ rfl ROWA (some ⟨xb, 0, none⟩) 1 1 [⟨f, q, sx, v, a, dl, dc, deps, text⟩] rfl (fun e => by cases e) (lst_one X) (by have := HN.out; omega) A3n.z ?_
        intro vz U4 ROWZ G
        have A4n := A3n.grown G (own_behind ROWA)
        clear A3n G ROWA X
        refine hK.out _ _ A4n.m (fun hHeld => ?_)
        clear hK K
        (try simp only [Act.put, List.setIfInBounds_toArray, List.set_cons_zero, List.set_cons_succ])
        refine stake (i := 7) (v := .pointer (some ⟨e0, 0, none⟩)) 33 rfl (by kernel_rfl) (by kernel_rfl) (by kernel_rfl) (by kernel_rfl) (fun _ _ _ h => h) (.inl ⟨by kernel_rfl, fun w' hS => by (go_simp)⟩) hHeld ?_
        (try simp only [Act.put, List.setIfInBounds_toArray, List.set_cons_zero, List.set_cons_succ])
        refine wpAnyH_ready (rs := [8]) (by kernel_rfl) (by simp) (AllReadyH.cons rfl (fun K hK => ?_) AllReadyH.nil)
        clear hHeld
        rw [if_pos (by kernel_rfl)]
        have c0 := A4n.e.c0
        have f0 := A4n.e.free 0
        have s9 : MgB (U4.setCell ⟨e0, 0, none⟩ vz) (e0 + 1) ⟨f, q, sx, v, a, dl, dc, deps, text⟩ := Own.set_other A4n.m _ _ _ (by omega)
        have FIN := rput_final A4n HE0.out.symm HLEN.out vz ROWZ
        obtain ⟨t, rfl, E9, R9, HP9⟩ := FIN
        have HP9 := Lib.hid HP9
        have E9 := Lib.hid E9
        have R9 := Lib.hid R9
        go_simp
        refine hK.out _ _ s9 (fun hHeld => ?_)
        clear hK K hHeld s9 c0 f0 A4n ROWZ
        (try simp only [Act.put, List.setIfInBounds_toArray, List.set_cons_zero, List.set_cons_succ])
        refine wpAnyH_done (by kernel_rfl) ?_ _
        generalize (U4.setCell ⟨e0, 0, none⟩ (.slice t.a t.n t.c)) = W9 at *
        go_wp2_with (first | (refine load_rh rfl (.tmp 2) rfl e0 t lo rfl E9.out ?_) | (refine store_rh rfl (.tmp 4) (.tmp 34) rfl (e0 + 2) t lo rfl rfl R9.out ?_))
        (try simp only [Exit.inBlock, Exit.then])
        exact bodyPost_ret (v := .tuple #[.agg (rhC t lo).toArray, .int .i64 0]) (results_rh2 (p := 4) (u := 5) rfl _ _ (e0 + 2) rfl (R9.out.row t lo)) rfl ⟨t, rfl, HP9.out⟩
theorem rh_put (s : Sl) (lo : Nat → Nat) (L : List Mg) (w : World) (hl : SlotAt w s L) (hn : s.n ≤ 1000) (m : Mg) (q0 : 0 ≤ m.q) (q1 : m.q < 4294967296) :
    Calls Try.prog 109 #[.agg (rhC s lo).toArray, valG m] w (RPut w s lo L m) := by
  obtain ⟨f, q, sx, v, a, dl, dc, deps, text⟩ := m
  simp only at q0 q1
  obtain ⟨n, rfl⟩ := Int.eq_ofNat_of_zero_le q0
  show Calls Try.prog 109 #[.agg (rhC s lo).toArray, .agg #[.int .i64 f, .int .u32 (n : Int), .int .u64 sx, .int .i64 v, .slice a dl dc, .string text]] w _
  by_cases hp : 0 ≤ f ∧ f < 64
  · obtain ⟨k, rfl⟩ := Int.eq_ofNat_of_zero_le hp.1
    by_cases hno : n = cntA L (k : Int) + 1
    · refine (rput_ok s lo L w hl hn k (by omega) n hno sx v a dl dc deps text).mono fun e w' hs => ?_
      obtain ⟨t, h1, h2, h3⟩ := hs
      have e1 : rcode L ⟨(k : Int), (n : Int), sx, v, a, dl, dc, deps, text⟩ = 0 := by unfold rcode; rw [if_pos hp, if_pos (by simp only; omega)]
      have e2 : rputL L ⟨(k : Int), (n : Int), sx, v, a, dl, dc, deps, text⟩ = L ++ [⟨(k : Int), (n : Int), sx, v, a, dl, dc, deps, text⟩] := by unfold rputL; rw [if_pos hp, if_pos (by simp only; omega)]
      exact ⟨t, by rw [e1]; exact h1, by rw [e2]; exact h2, h3⟩
    · refine (rput_order s lo L w hl hn k (by omega) n (by omega) hno sx v a dl dc deps text).mono fun e w' hs => ?_
      obtain ⟨t, h1, h2, h3⟩ := hs
      have e1 : rcode L ⟨(k : Int), (n : Int), sx, v, a, dl, dc, deps, text⟩ = 13 := by unfold rcode; rw [if_pos hp, if_neg (by simp only; omega)]
      have e2 : rputL L ⟨(k : Int), (n : Int), sx, v, a, dl, dc, deps, text⟩ = L := by unfold rputL; rw [if_pos hp, if_neg (by simp only; omega)]
      exact ⟨t, by rw [e1]; exact h1, by rw [e2]; exact h2, h3⟩
  · refine (rput_range s lo L w hl f (n : Int) sx v hp a dl dc deps text).mono fun e w' hs => ?_
    obtain ⟨t, h1, h2, h3⟩ := hs
    have e1 : rcode L ⟨f, (n : Int), sx, v, a, dl, dc, deps, text⟩ = 1 := by unfold rcode; rw [if_neg hp]
    have e2 : rputL L ⟨f, (n : Int), sx, v, a, dl, dc, deps, text⟩ = L := by unfold rputL; rw [if_neg hp]
    exact ⟨t, by rw [e1]; exact h1, by rw [e2]; exact h2, h3⟩
end Go.Proofs.Ytfocjcdfpnbkjaa
