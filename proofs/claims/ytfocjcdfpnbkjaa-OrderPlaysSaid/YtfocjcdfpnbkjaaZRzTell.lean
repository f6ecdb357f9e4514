/- The document's horizon: Tell. (Written by gen_rztell.py.) -/
import Derived.Test.YtfocjcdfpnbkjaaZRzAlls
import Derived.Test.YtfocjcdfpnbkjaaZSMaps
import Derived.Deep.RegionHeld3
import Derived.Deep.MidRow
set_option linter.unusedVariables false
set_option maxRecDepth 100000
set_option linter.unusedSimpArgs false
namespace Go.Proofs.Ytfocjcdfpnbkjaa
open Go.RowKit Go.Sort

def zeroTd : Value := .agg #[.int .i64 0, .int .i64 0, .int .u32 0, .int .u64 0]
theorem infoTd : (Try.prog.info? 130).map (fun i => (i.zero, i.size, i.bytes)) = some (some zeroTd, 4, 32) := by kernel_rfl
theorem td_size : (Try.prog.info? 130).map (·.size) = some 4 := by kernel_rfl
theorem flatD_one {l : List Td} : ∀ u ∈ flat encD l, u.oneCell' = true := by
  intro u hu
  unfold flat at hu
  obtain ⟨c, hc, huc⟩ := List.mem_flatten.1 hu
  obtain ⟨m, _, rfl⟩ := List.mem_map.1 hc
  simp only [encD, List.mem_cons, List.not_mem_nil, or_false] at huc
  rcases huc with rfl | rfl | rfl | rfl <;> rfl
theorem rz_zero (w : World) : (zeroValue 37).run Try.prog w = .ok (.agg (rzC 0 0 slNil).toArray) w := by kernel_rfl
def TdB (w : World) (b : Nat) (t : Td) : Prop := Own w b 130 (encD t).toArray
theorem TdB.own {w : World} {b : Nat} {t : Td} (h : TdB w b t) : Own w b 130 (encD t).toArray := h
theorem TdB.new (w : World) (t : Td) : TdB (w.alloc (.cells (encD t).toArray 130)) w.heap.size t := Own.new w _ _
theorem TdB.lt {w : World} {b : Nat} {t : Td} (h : TdB w b t) : b < w.heap.size := Own.lt h
theorem TdB.later {w w' : World} {b : Nat} {t : Td} (h : TdB w b t) (hb : Below w.heap.size w w') : TdB w' b t := (hb.block b h.lt).trans h
theorem TdB.grown {w w' : World} {g : Nat} {m : Td} {o : Option Nat} (h : TdB w g m) (hb : w.grownBy w' o) (ho : ∀ k, o = some k → g ≠ k) : TdB w' g m := (hb.block g h.lt (fun e => ho g e.symm rfl)).trans h
theorem lst_oneD {w : World} {g : Nat} {m : Td} (h : TdB w g m) : Lst encD 4 w (some ⟨g, 0, none⟩) 1 [m] := by
  refine ⟨rfl, fun _ => ⟨g, 0, rfl, fun i x hx c v hv => ?_⟩⟩
  have hi : i < 1 := (List.getElem?_eq_some_iff.1 hx).1
  obtain rfl : i = 0 := by omega
  cases hx
  rw [show 0 + 0 * 4 + c = c by omega]
  exact Own.at_ h c v (by rw [List.getElem?_toArray]; exact hv)
theorem wp_append_td (w : World) {o : Oper} {a : Act} {K : Act → World → Prop} {Q : Exit → Act → World → Prop} (s x : Operand)
    (ho : o.op = .call { callee := .builtin .append, args := #[s, x], argTypes := #[35, 35] })
    (base : Nat) (v : Value) (n : Nat) (xs : List Value) (hs : a.eval s = v) (hown : w.ownsRow base 130 4 v n xs)
    (ao : Option Addr) (m c : Nat) (l : List Td) (hx : a.eval x = .slice ao m c) (hnil : ao = none → c = 0) (hl : Lst encD 4 w ao m l) (hn : n + m ≤ 200000) (hbase : base ≤ w.heap.size)
    (h : ∀ v' w', w'.ownsRow base 130 4 v' (n + m) (xs ++ flat encD l) → w.grownBy w' v.ownBlock → K (a.put o.dst v') w') : o.wp Try.prog a w K Q := by
  obtain ⟨i0, hi, hz0, hz1, hz2⟩ := info_parts infoTd
  have ht := Try.underlying35
  cases ao with
  | none =>
    have hm : m = 0 := by
      rcases Nat.eq_zero_or_pos m with e | e
      · exact e
      · obtain ⟨b, o', e', _⟩ := hl.src e; cases e'
    subst hm
    have hc := hnil rfl
    subst hc
    have hl0 : l = [] := List.eq_nil_of_length_eq_zero hl.size
    subst hl0
    have hrun := run_append_owned_none (P := Try.prog) (w := w) base 35 o.type 130 i0 4 ht hi v n xs hown
    unfold Oper.wp
    simp [execOp, ho, resolve, invoke, builtin, hs, hx, hrun, Result.andThen]
    exact h v w (by simpa [flat_nil] using hown) (World.grownBy.refl w _)
  | some ad =>
    refine wp_append_own w s x 35 ho base 130 i0 zeroTd 4 32 ht hi hz0 hz1 hz2 rfl (by decide) v n xs hs hown ad m c (flat encD l) hx (by rw [flat_length encD 4 encD_length, hl.size]) (fun j u hu => ?_) flatD_one (by unfold maxLen; omega) (by omega) hbase (fun v' w' h1 h2 _ => h v' w' h1 h2)
    have hj : j < m * 4 := by have := (List.getElem?_eq_some_iff.1 hu).1; rw [flat_length encD 4 encD_length, hl.size] at this; exact this
    obtain ⟨b, o', e', R⟩ := hl.src (by omega)
    cases e'
    rw [add_lit10]
    exact R.flat encD_length j u hu
/-- A row of what was told. -/
structure DRow (w : World) (s : Sl) (T : List Td) : Prop where
  lst : Lst encD 4 w s.a s.n T
  cap0 : s.a = none → s.c = 0
  lt : ∀ x, s.a = some x → x.block < w.heap.size
theorem DRow.below {w w' : World} {s : Sl} {T : List Td} (h : DRow w s T) (hb : Below w.heap.size w w') : DRow w' s T := ⟨Lst.below h.lst hb, h.cap0, fun x hx => Nat.lt_of_lt_of_le (h.lt x hx) hb.size⟩
theorem DRow.kept {w w' : World} {s : Sl} {T : List Td} (h : DRow w s T) (hs : w.heap.size ≤ w'.heap.size) (hb : ∀ x, s.a = some x → w'.heap[x.block]? = w.heap[x.block]?) : DRow w' s T :=
  ⟨⟨h.lst.size, fun h0 => by
    obtain ⟨b, o, e, hr⟩ := h.lst.src h0
    refine ⟨b, o, e, fun i x hx c v hv => ?_⟩
    rw [World.cell?_of_block (a := ⟨b, o + i * 4 + c, none⟩) (hb ⟨b, o, none⟩ e)]
    exact hr i x hx c v hv⟩, h.cap0, fun x hx => Nat.lt_of_lt_of_le (h.lt x hx) hs⟩
theorem RzB.row {w : World} {b clk oth : Nat} {s : Sl} (h : RzB w b clk oth s) (clk' oth' : Nat) (t : Sl) : RzB (w.setRow b (rzC clk' oth' t).toArray) b clk' oth' t := setRow_heap _ _ _ _ _ _ h
theorem rzC_set0 (clk oth clk' : Nat) (s : Sl) : (rzC clk oth s).toArray.setIfInBounds 0 (.int .u64 (clk' : Int)) = (rzC clk' oth s).toArray := by
  rw [List.setIfInBounds_toArray]; rfl
theorem rzC_set65 (clk oth : Nat) (s t : Sl) : (rzC clk oth s).toArray.setIfInBounds 65 t.v = (rzC clk oth t).toArray := by
  rw [List.setIfInBounds_toArray]
  refine congrArg List.toArray ?_
  unfold rzC
  rw [show (65 : Nat) = 64 + 1 from rfl, List.set_cons_succ, List.set_append_right _ _ (by rw [rowF_length]; exact Nat.le_refl _), rowF_length]
  try rfl
/-- Amid Tell. -/
structure TellSt (w V : World) (e0 clk oth : Nat) (s : Sl) (t : Td) : Prop where
  below : Below e0 w V
  e : RzB V e0 clk oth s
  m : TdB V (e0 + 1) t
  r : RzB V (e0 + 2) 0 0 slNil
  z : e0 + 3 ≤ V.heap.size
section
variable {w V V' : World} {e0 clk oth : Nat} {s : Sl} {t : Td}
theorem TellSt.later (h : TellSt w V e0 clk oth s t) (hb : Below V.heap.size V V') : TellSt w V' e0 clk oth s t :=
  ⟨h.below.trans (hb.mono (by have := h.z; omega)), h.e.below hb, h.m.later hb, h.r.below hb, Nat.le_trans h.z hb.size⟩
theorem TellSt.grown {o : Option Nat} (h : TellSt w V e0 clk oth s t) (hg : V.grownBy V' o) (ho : ∀ k, o = some k → e0 + 3 ≤ k) : TellSt w V' e0 clk oth s t :=
  ⟨h.below.grown hg (by have := h.z; omega) (fun k hk => by have := ho k hk; omega), (hg.block e0 h.e.lt (fun e => by have := ho e0 e.symm; omega)).trans h.e, h.m.grown hg (fun k hk => by have := ho k hk; omega), (hg.block _ h.r.lt (fun e => by have := ho _ e.symm; omega)).trans h.r, Nat.le_trans h.z hg.size⟩
theorem TellSt.tick (h : TellSt w V e0 clk oth s t) (c : Nat) : TellSt w (V.setCell ⟨e0, 0, none⟩ (.int .u64 (c : Int))) e0 c oth s t := by
  have ho := h.e.own.set 0 (.int .u64 (c : Int))
  rw [rzC_set0] at ho
  exact ⟨h.below.setCell (Nat.le_refl _) _, ho, Own.set_other h.m _ _ _ (by omega), Own.set_other h.r _ _ _ (by omega), by
    have := (grown_set13 V e0 0 (.int .u64 (c : Int))).size
    have := h.z
    omega⟩
theorem rztell_final {T : List Td} (h : TellSt w V e0 clk oth s t) (he : e0 = w.heap.size) (hlen : T.length = s.n) (v : Value)
    (row : V.ownsRow (e0 + 3) 130 4 v (0 + s.n + 1) ([] ++ flat encD T ++ flat encD [t])) :
    ∃ u : Sl, v = .slice u.a u.n u.c ∧ RzB (V.setCell ⟨e0, 65, none⟩ v) e0 clk oth u ∧ RzB (V.setCell ⟨e0, 65, none⟩ v) (e0 + 2) 0 0 slNil ∧
      DRow ((V.setCell ⟨e0, 65, none⟩ v).setRow (e0 + 2) (rzC clk oth u).toArray) u (T ++ [t]) ∧ Below w.heap.size w ((V.setCell ⟨e0, 65, none⟩ v).setRow (e0 + 2) (rzC clk oth u).toArray) ∧ (u = s ∨ ∀ x, u.a = some x → w.heap.size ≤ x.block) := by
  have row2 := own_eq row (show 0 + s.n + 1 = s.n + 1 by omega) (show [] ++ flat encD T ++ flat encD [t] = flat encD (T ++ [t]) by rw [List.nil_append, ← flat_append])
  rcases own_cases row2 with ⟨_, h0⟩ | ⟨g, cap, rfl, hcap, hmax⟩
  · omega
  have hg := own_behind row2 g rfl
  have hlst := own_lst' encD_length (by rw [List.length_append, hlen]; rfl) row2
  have l1 : Below e0 w (V.setCell ⟨e0, 65, none⟩ (.slice (some ⟨g, 0, none⟩) (s.n + 1) cap)) := h.below.setCell (Nat.le_refl _) _
  have e1 : RzB (V.setCell ⟨e0, 65, none⟩ (.slice (some ⟨g, 0, none⟩) (s.n + 1) cap)) e0 clk oth ⟨some ⟨g, 0, none⟩, s.n + 1, cap⟩ := by
    have := Own.set h.e.own 65 (.slice (some ⟨g, 0, none⟩) (s.n + 1) cap)
    rw [show (Value.slice (some ⟨g, 0, none⟩) (s.n + 1) cap) = (⟨some ⟨g, 0, none⟩, s.n + 1, cap⟩ : Sl).v from rfl, rzC_set65] at this
    exact this
  have r1 : RzB (V.setCell ⟨e0, 65, none⟩ (.slice (some ⟨g, 0, none⟩) (s.n + 1) cap)) (e0 + 2) 0 0 slNil := Own.set_other h.r _ _ _ (by omega)
  have d1 : DRow V ⟨some ⟨g, 0, none⟩, s.n + 1, cap⟩ (T ++ [t]) := ⟨hlst, (fun e => by cases e), fun x hx => by cases hx; exact own_lt row2⟩
  refine ⟨⟨some ⟨g, 0, none⟩, s.n + 1, cap⟩, rfl, e1, r1, d1.kept (by rw [size_setRow]; exact (grown_set13 V e0 65 _).size) fun x hx => ?_, by rw [← he]; exact belowRow10 l1 _ (by omega) _, .inr fun x hx => by cases hx; show w.heap.size ≤ g; omega⟩
  cases hx
  exact (setRow_other _ _ _ _ (by show g ≠ e0 + 2; omega)).trans (heap_setCell_other V _ g _ (by show g ≠ e0; omega))
end
theorem rztell_first (w : World) (clk oth : Nat) (s : Sl) (t : Td) : TellSt w (((w.alloc (.cells (rzC clk oth s).toArray 37)).alloc (.cells (encD t).toArray 130)).alloc (.cells (rzC 0 0 slNil).toArray 37)) w.heap.size clk oth s t := by
  have G1 := (Grw.refl w).alloc (.cells (rzC clk oth s).toArray 37)
  have G2 := G1.alloc (.cells (encD t).toArray 130)
  have G3 := G2.alloc (.cells (rzC 0 0 slNil).toArray 37)
  have hs1 : (w.alloc (.cells (rzC clk oth s).toArray 37)).heap.size = w.heap.size + 1 := by simp
  have hs2 : ((w.alloc (.cells (rzC clk oth s).toArray 37)).alloc (.cells (encD t).toArray 130)).heap.size = w.heap.size + 2 := by simp
  refine ⟨G3.below, ((RzB.new w clk oth s).below ((Grw.refl _).alloc _).below).below ((Grw.refl _).alloc _).below, ?_, ?_, by simp⟩
  · have := TdB.later (TdB.new (w.alloc (.cells (rzC clk oth s).toArray 37)) t) ((Grw.refl _).alloc (.cells (rzC 0 0 slNil).toArray 37)).below
    rw [hs1] at this
    exact this
  · have := RzB.new ((w.alloc (.cells (rzC clk oth s).toArray 37)).alloc (.cells (encD t).toArray 130)) 0 0 slNil
    rw [hs2] at this
    exact this
/-- What Tell answers. -/
def RTell (w : World) (s : Sl) (clk oth : Nat) (T : List Td) (e : Ending) (w' : World) : Prop :=
  ∃ u : Sl, e = .returned (.agg (rzC clk oth u).toArray) ∧ DRow w' u T ∧ Below w.heap.size w w' ∧ (u = s ∨ ∀ x, u.a = some x → w.heap.size ≤ x.block)
def tellClk (clk : Nat) (t : Td) : Nat := if t.kind < 2 then max clk t.st else clk
set_option maxHeartbeats 8000000 in
theorem rztell_no (clk oth : Nat) (s : Sl) (T : List Td) (w : World) (hl : DRow w s T) (kd p : Int) (q st : Nat) (hp : mem oth p = false) :
    Calls Try.prog 67 #[.agg (rzC clk oth s).toArray, .agg #[.int .i64 kd, .int .i64 p, .int .u32 (q : Int), .int .u64 (st : Int)]] w (RTell w s clk oth T) := by
  have FST := rztell_first w clk oth s ⟨kd, p, q, st⟩
  have HS := Lib.hid (show ∀ w', Below w.heap.size w w' → DRow w' s T from fun w' hb => hl.below hb)
  have hz := rz_zero
  clear hl
  simp only [encD] at FST
  have FST2 := Lib.hid FST
  clear FST
  by_cases h0 : p < 0
  · have d0 : decide (p < 0) = true := by simpa using h0
    clear hp h0
    go_enter Try.func67, Try.ntmps67
    go_upto_region 1 with fail
    generalize (((w.alloc (.cells (rzC clk oth s).toArray 37)).alloc (.cells #[.int .i64 kd, .int .i64 p, .int .u32 (q : Int), .int .u64 (st : Int)] 130)).alloc (.cells (rzC 0 0 slNil).toArray 37)) = W at *
    generalize he0 : w.heap.size = e0 at *
    have HE0 := Lib.hid he0
    clear he0
    have c10 : W.cell? ⟨e0 + 1, 1, none⟩ = some (.int .i64 p) := FST2.out.m.own.at_ 1 _ rfl
    go_wp2_with (first | (refine load_rz rfl (.tmp 2) rfl e0 clk oth s rfl FST2.out.e ?_) | (refine store_rz rfl (.tmp 4) (.tmp 21) rfl (e0 + 2) clk oth s rfl rfl FST2.out.r ?_))
    (try simp only [Exit.inBlock, Exit.then])
    exact bodyPost_ret (v := .agg (rzC clk oth s).toArray) (results_rz (p := 4) rfl _ _ (e0 + 2) clk oth rfl (FST2.out.r.row clk oth s)) rfl ⟨s, rfl, HS.out _ (belowRow10 FST2.out.below _ (by omega) _), by rw [HE0.out]; exact belowRow10 FST2.out.below _ (by omega) _, .inl rfl⟩
  have d0 : decide (p < 0) = false := by simpa using h0
  by_cases h1 : 63 < p
  · have d1 : decide ((63 : Int) < p) = true := by simpa using h1
    clear hp h0 h1
    go_enter Try.func67, Try.ntmps67
    go_upto_region 1 with fail
    generalize (((w.alloc (.cells (rzC clk oth s).toArray 37)).alloc (.cells #[.int .i64 kd, .int .i64 p, .int .u32 (q : Int), .int .u64 (st : Int)] 130)).alloc (.cells (rzC 0 0 slNil).toArray 37)) = W at *
    generalize he0 : w.heap.size = e0 at *
    have HE0 := Lib.hid he0
    clear he0
    have c10 : W.cell? ⟨e0 + 1, 1, none⟩ = some (.int .i64 p) := FST2.out.m.own.at_ 1 _ rfl
    go_wp2_with (first | (refine load_rz rfl (.tmp 2) rfl e0 clk oth s rfl FST2.out.e ?_) | (refine store_rz rfl (.tmp 4) (.tmp 21) rfl (e0 + 2) clk oth s rfl rfl FST2.out.r ?_))
    (try simp only [Exit.inBlock, Exit.then])
    exact bodyPost_ret (v := .agg (rzC clk oth s).toArray) (results_rz (p := 4) rfl _ _ (e0 + 2) clk oth rfl (FST2.out.r.row clk oth s)) rfl ⟨s, rfl, HS.out _ (belowRow10 FST2.out.below _ (by omega) _), by rw [HE0.out]; exact belowRow10 FST2.out.below _ (by omega) _, .inl rfl⟩
  have d1 : decide ((63 : Int) < p) = false := by simpa using h1
  obtain ⟨k, rfl⟩ := Int.eq_ofNat_of_zero_le (show 0 ≤ p by omega)
  have hk : k < 64 := by omega
  have hk' : (k : Int) < 64 := by omega
  rw [mem_nat _ _ hk] at hp
  clear h0 h1
  go_enter Try.func67, Try.ntmps67
  go_upto_region 1 with fail
  generalize (((w.alloc (.cells (rzC clk oth s).toArray 37)).alloc (.cells #[.int .i64 kd, .int .i64 (k : Int), .int .u32 (q : Int), .int .u64 (st : Int)] 130)).alloc (.cells (rzC 0 0 slNil).toArray 37)) = W at *
  generalize he0 : w.heap.size = e0 at *
  have HE0 := Lib.hid he0
  clear he0
  have c10 : W.cell? ⟨e0 + 1, 1, none⟩ = some (.int .i64 (k : Int)) := FST2.out.m.own.at_ 1 _ rfl
  have cp := FST2.out.e.cp k hk
  rw [hp] at cp
  go_wp2_with (first | (refine load_rz rfl (.tmp 2) rfl e0 clk oth s rfl FST2.out.e ?_) | (refine store_rz rfl (.tmp 4) (.tmp 21) rfl (e0 + 2) clk oth s rfl rfl FST2.out.r ?_))
  (try simp only [Exit.inBlock, Exit.then])
  exact bodyPost_ret (v := .agg (rzC clk oth s).toArray) (results_rz (p := 4) rfl _ _ (e0 + 2) clk oth rfl (FST2.out.r.row clk oth s)) rfl ⟨s, rfl, HS.out _ (belowRow10 FST2.out.below _ (by omega) _), by rw [HE0.out]; exact belowRow10 FST2.out.below _ (by omega) _, .inl rfl⟩
set_option maxHeartbeats 8000000 in
theorem rztell_yes (clk oth : Nat) (s : Sl) (T : List Td) (w : World) (hl : DRow w s T) (hn : s.n ≤ 1000) (kd : Int) (k q st : Nat) (hk : k < 64) (hp : oth.testBit k = true) :
    Calls Try.prog 67 #[.agg (rzC clk oth s).toArray, .agg #[.int .i64 kd, .int .i64 (k : Int), .int .u32 (q : Int), .int .u64 (st : Int)]] w (RTell w s (if kd < 2 then max clk st else clk) oth (T ++ [⟨kd, (k : Int), q, st⟩])) := by
  have FST := rztell_first w clk oth s ⟨kd, (k : Int), q, st⟩
  have HLEN := Lib.hid hl.lst.size
  have HN := Lib.hid hn
  have HCAP := Lib.hid hl.cap0
  have KL := Lib.hid (show ∀ w', Below w.heap.size w w' → Lst encD 4 w' s.a s.n T from fun w' hb => Lst.below hl.lst hb)
  have hz := rz_zero
  clear hl hn
  simp only [encD] at FST
  have FST2 := Lib.hid FST
  clear FST
  have hk' : (k : Int) < 64 := by omega
  obtain ⟨ck, hck⟩ : ∃ ck, ck = (if kd < 2 then max clk st else clk) := ⟨_, rfl⟩
  rw [← hck]
  have HCK := Lib.hid hck
  clear hck
  go_enter Try.func67, Try.ntmps67
  go_upto_region 1 with fail
  generalize (((w.alloc (.cells (rzC clk oth s).toArray 37)).alloc (.cells #[.int .i64 kd, .int .i64 (k : Int), .int .u32 (q : Int), .int .u64 (st : Int)] 130)).alloc (.cells (rzC 0 0 slNil).toArray 37)) = W at *
  generalize he0 : w.heap.size = e0 at *
  have HE0 := Lib.hid he0
  clear he0
  have c10 : W.cell? ⟨e0 + 1, 0, none⟩ = some (.int .i64 kd) := FST2.out.m.own.at_ 0 _ rfl
  have c11 : W.cell? ⟨e0 + 1, 1, none⟩ = some (.int .i64 (k : Int)) := FST2.out.m.own.at_ 1 _ rfl
  have c13 : W.cell? ⟨e0 + 1, 3, none⟩ = some (.int .u64 (st : Int)) := FST2.out.m.own.at_ 3 _ rfl
  have cp := FST2.out.e.cp k hk
  have c0 := FST2.out.e.c0
  have f0 := FST2.out.e.free 0
  rw [hp] at cp
  go_upto_region 3 with fail
  obtain ⟨bb, hbb⟩ : ∃ bb, bb = (decide (kd < 2) && decide (clk < st)) := ⟨_, rfl⟩
  go_cut [31] from 22 to 31 (fun s31 wx => s31 = .bool bb ∧ wx = W)
  case first =>
    by_cases h2 : kd < 2
    · by_cases hlt : clk < st
      · have hlt' : (clk : Int) < (st : Int) := by omega
        have HE : Hid (bb = true) := Lib.hid (by rw [hbb]; simp [h2, hlt])
        clear hbb
        go_wp2_with fail
        go_meet
        exact ⟨by rw [HE.out], rfl⟩
      · have hlt' : ¬ (clk : Int) < (st : Int) := by omega
        have HE : Hid (bb = false) := Lib.hid (by rw [hbb]; simp [hlt])
        clear hbb
        go_wp2_with fail
        go_meet
        exact ⟨by rw [HE.out], rfl⟩
    · have HE : Hid (bb = false) := Lib.hid (by rw [hbb]; simp [h2])
      clear hbb
      go_wp2_with fail
      go_meet
      exact ⟨by rw [HE.out], rfl⟩
  case rest =>
   obtain ⟨rfl, hwc⟩ := hcut
   subst hwc
   go_upto_if 31 with fail
   go_cut [32] from 32 to 34 (fun _ wx => TellSt w wx e0 ck oth s ⟨kd, (k : Int), q, st⟩)
   case first =>
    cases bb with
    | true =>
      have h2 : kd < 2 ∧ clk < st := by have := hbb.symm; simpa using this
      have HE : Hid (ck = st) := Lib.hid (by rw [HCK.out, if_pos h2.1]; omega)
      clear hbb
      go_wp2_with fail
      go_meet
      rw [HE.out]
      exact FST2.out.tick st
    | false =>
      have HE : Hid (ck = clk) := Lib.hid (by
        rw [HCK.out]
        split
        · rename_i h2
          have : ¬ clk < st := fun e => by simp [h2, e] at hbb
          omega
        · rfl)
      clear hbb
      go_wp2_with fail
      go_meet
      rw [HE.out]
      exact FST2.out
   case rest =>
    clear hbb c10 c11 c13 cp c0 f0 FST2
    have A5 := Lib.hid hcut
    clear hcut
    generalize wc = W5 at *
    go_upto_region 5 with fail
    have A6 : TellSt w W5.drew e0 ck oth s ⟨kd, (k : Int), q, st⟩ := ⟨⟨A5.out.below.os, A5.out.below.tape, A5.out.below.output, A5.out.below.size, A5.out.below.block⟩, A5.out.e, A5.out.m, A5.out.r, A5.out.z⟩
    have KS := Lib.hid (show ∀ w' : World, TdB w' (e0 + 1) ⟨kd, (k : Int), q, st⟩ → w'.rangeAt (e0 + 1) 0 (encD ⟨kd, (k : Int), q, st⟩) from fun w' h j v hj => by rw [Nat.zero_add]; exact h.own.at_ j v (by show (encD _).toArray[j]? = some v; rw [List.getElem?_toArray]; exact hj))
    clear A5
    refine wp_region_held_drew (S := fun w' => TdB w' (e0 + 1) ⟨kd, (k : Int), q, st⟩) (by kernel_rfl) A6.m (fun hHeld => ?_)
    generalize W5.drew = W6 at *
    refine stake (i := 1) (v := .pointer (some ⟨e0, 65, none⟩)) 36 rfl (by kernel_rfl) (by kernel_rfl) (by kernel_rfl) (by kernel_rfl) (fun _ _ _ h => h) (.inl ⟨by kernel_rfl, fun w' hS => by (go_simp)⟩) hHeld ?_
    (try simp only [Act.put, List.setIfInBounds_toArray, List.set_cons_zero, List.set_cons_succ])
    refine stake (i := 4) (v := .agg #[.int .i64 kd, .int .i64 (k : Int), .int .u32 (q : Int), .int .u64 (st : Int)]) 39 rfl (by kernel_rfl) (by kernel_rfl) (by kernel_rfl) (by kernel_rfl) (fun _ _ _ h => h) (yieldsIf_load_mid (by kernel_rfl) 130 (.tmp 3) rfl (e0 + 1) 0 (by kernel_rfl) (encD ⟨kd, (k : Int), q, st⟩) _ (fun w' hS => KS.out w' hS) Try.underlying130 rfl td_size) hHeld ?_
    (try simp only [Act.put, List.setIfInBounds_toArray, List.set_cons_zero, List.set_cons_succ])
    refine wpAnyH_ready (rs := [0, 2, 5]) (by kernel_rfl) (by simp) (AllReadyH.cons rfl (fun K hK => ?_) (AllReadyH.cons rfl (fun K hK => ?_) (AllReadyH.cons rfl (fun K hK => ?_) AllReadyH.nil)))
    · clear hHeld
      rw [if_pos (by kernel_rfl)]
      go_simp
      have A0n := A6.later ((Grw.refl W6).alloc (.cells #[] 130)).below
      have ROW := own_base (World.ownsRow_made (e := 130) (size := 4) W6 #[] 0 (Nat.le_refl _) (Nat.zero_le _) (by simp)) A6.z
      clear A6
      generalize (W6.alloc (.cells #[] 130)) = U0 at *
      generalize W6.heap.size = nb at *
      refine hK.out _ _ A0n.m (fun hHeld => ?_)
      clear hK K
      (try simp only [Act.put, List.setIfInBounds_toArray, List.set_cons_zero, List.set_cons_succ])
      refine wpAnyH_ready (rs := [2, 5]) (by kernel_rfl) (by simp) (AllReadyH.cons rfl (fun K hK => ?_) (AllReadyH.cons rfl (fun K hK => ?_) AllReadyH.nil))
      · clear hHeld
        rw [if_pos (by kernel_rfl)]
        have c0 := A0n.e.c65
        go_simp
        clear c0
        refine hK.out _ _ A0n.m (fun hHeld => ?_)
        clear hK K
        (try simp only [Act.put, List.setIfInBounds_toArray, List.set_cons_zero, List.set_cons_succ])
        refine wpAnyH_ready (rs := [3, 5]) (by kernel_rfl) (by simp) (AllReadyH.cons rfl (fun K hK => ?_) (AllReadyH.cons rfl (fun K hK => ?_) AllReadyH.nil))
        · clear hHeld
          rw [if_pos (by kernel_rfl)]
          refine wp_append_td U0 (.tmp 35) (.tmp 37) rfl (e0 + 3) (.slice (some ⟨nb, 0, none⟩) 0 0) 0 [] rfl ROW s.a s.n s.c T rfl HCAP.out (KL.out U0 A0n.below) (by have := HN.out; omega) A0n.z ?_
          intro va U2 ROWA G
          have A2n := A0n.grown G (own_behind ROW)
          clear A0n G ROW
          refine hK.out _ _ A2n.m (fun hHeld => ?_)
          clear hK K
          (try simp only [Act.put, List.setIfInBounds_toArray, List.set_cons_zero, List.set_cons_succ])
          refine wpAnyH_ready (rs := [5]) (by kernel_rfl) (by simp) (AllReadyH.cons rfl (fun K hK => ?_) AllReadyH.nil)
          clear hHeld
          rw [if_pos (by kernel_rfl)]
          go_simp
          have A3n := A2n.later ((Grw.refl U2).alloc (.cells #[.int .i64 kd, .int .i64 (k : Int), .int .u32 (q : Int), .int .u64 (st : Int)] 130)).below
          have X : TdB (U2.alloc (.cells #[.int .i64 kd, .int .i64 (k : Int), .int .u32 (q : Int), .int .u64 (st : Int)] 130)) U2.heap.size ⟨kd, (k : Int), q, st⟩ := TdB.new U2 ⟨kd, (k : Int), q, st⟩
          have ROWA := own_grw ROWA ((Grw.refl U2).alloc (.cells #[.int .i64 kd, .int .i64 (k : Int), .int .u32 (q : Int), .int .u64 (st : Int)] 130))
          clear A2n
          have hxl : U2.heap.size < (U2.alloc (.cells #[.int .i64 kd, .int .i64 (k : Int), .int .u32 (q : Int), .int .u64 (st : Int)] 130)).heap.size := by simp
          generalize (U2.alloc (.cells #[.int .i64 kd, .int .i64 (k : Int), .int .u32 (q : Int), .int .u64 (st : Int)] 130)) = U3 at *
          generalize U2.heap.size = xb at *
          refine hK.out _ _ A3n.m (fun hHeld => ?_)
          clear hK K
          (try simp only [Act.put, List.setIfInBounds_toArray, List.set_cons_zero, List.set_cons_succ])
          refine wpAnyH_ready (rs := [6]) (by kernel_rfl) (by simp) (AllReadyH.cons rfl (fun K hK => ?_) AllReadyH.nil)
          clear hHeld
          rw [if_pos (by kernel_rfl)]
          refine wp_append_td U3 (.tmp 38) (.tmp 40) rfl (e0 + 3) va (0 + s.n) _ rfl ROWA (some ⟨xb, 0, none⟩) 1 1 [⟨kd, (k : Int), q, st⟩] rfl (fun e => by cases e) (lst_oneD X) (by have := HN.out; omega) A3n.z ?_
          intro vz U4 ROWZ G
          have A4n := A3n.grown G (own_behind ROWA)
          clear A3n G ROWA X
          refine hK.out _ _ A4n.m (fun hHeld => ?_)
          clear hK K
          (try simp only [Act.put, List.setIfInBounds_toArray, List.set_cons_zero, List.set_cons_succ])
          refine stake (i := 7) (v := .pointer (some ⟨e0, 65, none⟩)) 42 rfl (by kernel_rfl) (by kernel_rfl) (by kernel_rfl) (by kernel_rfl) (fun _ _ _ h => h) (.inl ⟨by kernel_rfl, fun w' hS => by (go_simp)⟩) hHeld ?_
          (try simp only [Act.put, List.setIfInBounds_toArray, List.set_cons_zero, List.set_cons_succ])
          refine wpAnyH_ready (rs := [8]) (by kernel_rfl) (by simp) (AllReadyH.cons rfl (fun K hK => ?_) AllReadyH.nil)
          clear hHeld
          rw [if_pos (by kernel_rfl)]
          have c0 := A4n.e.c65
          have f0 := A4n.e.free 65
          have s9 : TdB (U4.setCell ⟨e0, 65, none⟩ vz) (e0 + 1) ⟨kd, (k : Int), q, st⟩ := Own.set_other A4n.m _ _ _ (by omega)
          have FIN := rztell_final A4n HE0.out.symm HLEN.out vz ROWZ
          obtain ⟨u, rfl, E9, R9, HP9⟩ := FIN
          have HP9 := Lib.hid HP9
          have E9 := Lib.hid E9
          have R9 := Lib.hid R9
          go_simp
          refine hK.out _ _ s9 (fun hHeld => ?_)
          clear hK K hHeld s9 c0 f0 A4n ROWZ
          (try simp only [Act.put, List.setIfInBounds_toArray, List.set_cons_zero, List.set_cons_succ])
          refine wpAnyH_done (by kernel_rfl) ?_ _
          generalize (U4.setCell ⟨e0, 65, none⟩ (.slice u.a u.n u.c)) = W9 at *
          go_wp2_with (first | (refine load_rz rfl (.tmp 2) rfl e0 ck oth u rfl E9.out ?_) | (refine store_rz rfl (.tmp 4) (.tmp 43) rfl (e0 + 2) ck oth u rfl rfl R9.out ?_))
          (try simp only [Exit.inBlock, Exit.then])
          exact bodyPost_ret (v := .agg (rzC ck oth u).toArray) (results_rz (p := 4) rfl _ _ (e0 + 2) ck oth rfl (R9.out.row ck oth u)) rfl ⟨u, rfl, HP9.out⟩
        · clear hHeld
          rw [if_pos (by kernel_rfl)]
          go_simp
          have A2n := A0n.later ((Grw.refl U0).alloc (.cells #[.int .i64 kd, .int .i64 (k : Int), .int .u32 (q : Int), .int .u64 (st : Int)] 130)).below
          have X : TdB (U0.alloc (.cells #[.int .i64 kd, .int .i64 (k : Int), .int .u32 (q : Int), .int .u64 (st : Int)] 130)) U0.heap.size ⟨kd, (k : Int), q, st⟩ := TdB.new U0 ⟨kd, (k : Int), q, st⟩
          have hxn : U0.heap.size ≠ nb := by have := own_lt ROW; omega
          have ROW := own_grw ROW ((Grw.refl U0).alloc (.cells #[.int .i64 kd, .int .i64 (k : Int), .int .u32 (q : Int), .int .u64 (st : Int)] 130))
          clear A0n
          have hxl : U0.heap.size < (U0.alloc (.cells #[.int .i64 kd, .int .i64 (k : Int), .int .u32 (q : Int), .int .u64 (st : Int)] 130)).heap.size := by simp
          generalize (U0.alloc (.cells #[.int .i64 kd, .int .i64 (k : Int), .int .u32 (q : Int), .int .u64 (st : Int)] 130)) = U2 at *
          generalize U0.heap.size = xb at *
          refine hK.out _ _ A2n.m (fun hHeld => ?_)
          clear hK K
          (try simp only [Act.put, List.setIfInBounds_toArray, List.set_cons_zero, List.set_cons_succ])
          refine wpAnyH_ready (rs := [3]) (by kernel_rfl) (by simp) (AllReadyH.cons rfl (fun K hK => ?_) AllReadyH.nil)
          clear hHeld
          rw [if_pos (by kernel_rfl)]
          refine wp_append_td U2 (.tmp 35) (.tmp 37) rfl (e0 + 3) (.slice (some ⟨nb, 0, none⟩) 0 0) 0 [] rfl ROW s.a s.n s.c T rfl HCAP.out (KL.out U2 A2n.below) (by have := HN.out; omega) A2n.z ?_
          intro va U3 ROWA G
          have A3n := A2n.grown G (own_behind ROW)
          have X := TdB.grown X G (fun k hk => by cases hk; exact hxn)
          clear A2n G ROW
          refine hK.out _ _ A3n.m (fun hHeld => ?_)
          clear hK K
          (try simp only [Act.put, List.setIfInBounds_toArray, List.set_cons_zero, List.set_cons_succ])
          refine wpAnyH_ready (rs := [6]) (by kernel_rfl) (by simp) (AllReadyH.cons rfl (fun K hK => ?_) AllReadyH.nil)
          clear hHeld
          rw [if_pos (by kernel_rfl)]
          refine wp_append_td U3 (.tmp 38) (.tmp 40) rfl (e0 + 3) va (0 + s.n) _ rfl ROWA (some ⟨xb, 0, none⟩) 1 1 [⟨kd, (k : Int), q, st⟩] rfl (fun e => by cases e) (lst_oneD X) (by have := HN.out; omega) A3n.z ?_
          intro vz U4 ROWZ G
          have A4n := A3n.grown G (own_behind ROWA)
          clear A3n G ROWA X
          refine hK.out _ _ A4n.m (fun hHeld => ?_)
          clear hK K
          (try simp only [Act.put, List.setIfInBounds_toArray, List.set_cons_zero, List.set_cons_succ])
          refine stake (i := 7) (v := .pointer (some ⟨e0, 65, none⟩)) 42 rfl (by kernel_rfl) (by kernel_rfl) (by kernel_rfl) (by kernel_rfl) (fun _ _ _ h => h) (.inl ⟨by kernel_rfl, fun w' hS => by (go_simp)⟩) hHeld ?_
          (try simp only [Act.put, List.setIfInBounds_toArray, List.set_cons_zero, List.set_cons_succ])
          refine wpAnyH_ready (rs := [8]) (by kernel_rfl) (by simp) (AllReadyH.cons rfl (fun K hK => ?_) AllReadyH.nil)
          clear hHeld
          rw [if_pos (by kernel_rfl)]
          have c0 := A4n.e.c65
          have f0 := A4n.e.free 65
          have s9 : TdB (U4.setCell ⟨e0, 65, none⟩ vz) (e0 + 1) ⟨kd, (k : Int), q, st⟩ := Own.set_other A4n.m _ _ _ (by omega)
          have FIN := rztell_final A4n HE0.out.symm HLEN.out vz ROWZ
          obtain ⟨u, rfl, E9, R9, HP9⟩ := FIN
          have HP9 := Lib.hid HP9
          have E9 := Lib.hid E9
          have R9 := Lib.hid R9
          go_simp
          refine hK.out _ _ s9 (fun hHeld => ?_)
          clear hK K hHeld s9 c0 f0 A4n ROWZ
          (try simp only [Act.put, List.setIfInBounds_toArray, List.set_cons_zero, List.set_cons_succ])
          refine wpAnyH_done (by kernel_rfl) ?_ _
          generalize (U4.setCell ⟨e0, 65, none⟩ (.slice u.a u.n u.c)) = W9 at *
          go_wp2_with (first | (refine load_rz rfl (.tmp 2) rfl e0 ck oth u rfl E9.out ?_) | (refine store_rz rfl (.tmp 4) (.tmp 43) rfl (e0 + 2) ck oth u rfl rfl R9.out ?_))
          (try simp only [Exit.inBlock, Exit.then])
          exact bodyPost_ret (v := .agg (rzC ck oth u).toArray) (results_rz (p := 4) rfl _ _ (e0 + 2) ck oth rfl (R9.out.row ck oth u)) rfl ⟨u, rfl, HP9.out⟩
      · clear hHeld
        rw [if_pos (by kernel_rfl)]
        go_simp
        have A1n := A0n.later ((Grw.refl U0).alloc (.cells #[.int .i64 kd, .int .i64 (k : Int), .int .u32 (q : Int), .int .u64 (st : Int)] 130)).below
        have X : TdB (U0.alloc (.cells #[.int .i64 kd, .int .i64 (k : Int), .int .u32 (q : Int), .int .u64 (st : Int)] 130)) U0.heap.size ⟨kd, (k : Int), q, st⟩ := TdB.new U0 ⟨kd, (k : Int), q, st⟩
        have hxn : U0.heap.size ≠ nb := by have := own_lt ROW; omega
        have ROW := own_grw ROW ((Grw.refl U0).alloc (.cells #[.int .i64 kd, .int .i64 (k : Int), .int .u32 (q : Int), .int .u64 (st : Int)] 130))
        clear A0n
        have hxl : U0.heap.size < (U0.alloc (.cells #[.int .i64 kd, .int .i64 (k : Int), .int .u32 (q : Int), .int .u64 (st : Int)] 130)).heap.size := by simp
        generalize (U0.alloc (.cells #[.int .i64 kd, .int .i64 (k : Int), .int .u32 (q : Int), .int .u64 (st : Int)] 130)) = U1 at *
        generalize U0.heap.size = xb at *
        refine hK.out _ _ A1n.m (fun hHeld => ?_)
        clear hK K
        (try simp only [Act.put, List.setIfInBounds_toArray, List.set_cons_zero, List.set_cons_succ])
        refine wpAnyH_ready (rs := [2]) (by kernel_rfl) (by simp) (AllReadyH.cons rfl (fun K hK => ?_) AllReadyH.nil)
        clear hHeld
        rw [if_pos (by kernel_rfl)]
        have c0 := A1n.e.c65
        go_simp
        clear c0
        refine hK.out _ _ A1n.m (fun hHeld => ?_)
        clear hK K
        (try simp only [Act.put, List.setIfInBounds_toArray, List.set_cons_zero, List.set_cons_succ])
        refine wpAnyH_ready (rs := [3]) (by kernel_rfl) (by simp) (AllReadyH.cons rfl (fun K hK => ?_) AllReadyH.nil)
        clear hHeld
        rw [if_pos (by kernel_rfl)]
        refine wp_append_td U1 (.tmp 35) (.tmp 37) rfl (e0 + 3) (.slice (some ⟨nb, 0, none⟩) 0 0) 0 [] rfl ROW s.a s.n s.c T rfl HCAP.out (KL.out U1 A1n.below) (by have := HN.out; omega) A1n.z ?_
        intro va U3 ROWA G
        have A3n := A1n.grown G (own_behind ROW)
        have X := TdB.grown X G (fun k hk => by cases hk; exact hxn)
        clear A1n G ROW
        refine hK.out _ _ A3n.m (fun hHeld => ?_)
        clear hK K
        (try simp only [Act.put, List.setIfInBounds_toArray, List.set_cons_zero, List.set_cons_succ])
        refine wpAnyH_ready (rs := [6]) (by kernel_rfl) (by simp) (AllReadyH.cons rfl (fun K hK => ?_) AllReadyH.nil)
        clear hHeld
        rw [if_pos (by kernel_rfl)]
        refine wp_append_td U3 (.tmp 38) (.tmp 40) rfl (e0 + 3) va (0 + s.n) _ rfl ROWA (some ⟨xb, 0, none⟩) 1 1 [⟨kd, (k : Int), q, st⟩] rfl (fun e => by cases e) (lst_oneD X) (by have := HN.out; omega) A3n.z ?_
        intro vz U4 ROWZ G
        have A4n := A3n.grown G (own_behind ROWA)
        clear A3n G ROWA X
        refine hK.out _ _ A4n.m (fun hHeld => ?_)
        clear hK K
        (try simp only [Act.put, List.setIfInBounds_toArray, List.set_cons_zero, List.set_cons_succ])
        refine stake (i := 7) (v := .pointer (some ⟨e0, 65, none⟩)) 42 rfl (by kernel_rfl) (by kernel_rfl) (by kernel_rfl) (by kernel_rfl) (fun _ _ _ h => h) (.inl ⟨by kernel_rfl, fun w' hS => by (go_simp)⟩) hHeld ?_
        (try simp only [Act.put, List.setIfInBounds_toArray, List.set_cons_zero, List.set_cons_succ])
        refine wpAnyH_ready (rs := [8]) (by kernel_rfl) (by simp) (AllReadyH.cons rfl (fun K hK => ?_) AllReadyH.nil)
        clear hHeld
        rw [if_pos (by kernel_rfl)]
        have c0 := A4n.e.c65
        have f0 := A4n.e.free 65
        have s9 : TdB (U4.setCell ⟨e0, 65, none⟩ vz) (e0 + 1) ⟨kd, (k : Int), q, st⟩ := Own.set_other A4n.m _ _ _ (by omega)
        have FIN := rztell_final A4n HE0.out.symm HLEN.out vz ROWZ
        obtain ⟨u, rfl, E9, R9, HP9⟩ := FIN
        have HP9 := Lib.hid HP9
        have E9 := Lib.hid E9
        have R9 := Lib.hid R9
        go_simp
        refine hK.out _ _ s9 (fun hHeld => ?_)
        clear hK K hHeld s9 c0 f0 A4n ROWZ
        (try simp only [Act.put, List.setIfInBounds_toArray, List.set_cons_zero, List.set_cons_succ])
        refine wpAnyH_done (by kernel_rfl) ?_ _
        generalize (U4.setCell ⟨e0, 65, none⟩ (.slice u.a u.n u.c)) = W9 at *
        go_wp2_with (first | (refine load_rz rfl (.tmp 2) rfl e0 ck oth u rfl E9.out ?_) | (refine store_rz rfl (.tmp 4) (.tmp 43) rfl (e0 + 2) ck oth u rfl rfl R9.out ?_))
        (try simp only [Exit.inBlock, Exit.then])
        exact bodyPost_ret (v := .agg (rzC ck oth u).toArray) (results_rz (p := 4) rfl _ _ (e0 + 2) ck oth rfl (R9.out.row ck oth u)) rfl ⟨u, rfl, HP9.out⟩
    · clear hHeld
      rw [if_pos (by kernel_rfl)]
      have c0 := A6.e.c65
      go_simp
      clear c0
      refine hK.out _ _ A6.m (fun hHeld => ?_)
      clear hK K
      (try simp only [Act.put, List.setIfInBounds_toArray, List.set_cons_zero, List.set_cons_succ])
      refine wpAnyH_ready (rs := [0, 5]) (by kernel_rfl) (by simp) (AllReadyH.cons rfl (fun K hK => ?_) (AllReadyH.cons rfl (fun K hK => ?_) AllReadyH.nil))
      · clear hHeld
        rw [if_pos (by kernel_rfl)]
        go_simp
        have A1n := A6.later ((Grw.refl W6).alloc (.cells #[] 130)).below
        have ROW := own_base (World.ownsRow_made (e := 130) (size := 4) W6 #[] 0 (Nat.le_refl _) (Nat.zero_le _) (by simp)) A6.z
        clear A6
        generalize (W6.alloc (.cells #[] 130)) = U1 at *
        generalize W6.heap.size = nb at *
        refine hK.out _ _ A1n.m (fun hHeld => ?_)
        clear hK K
        (try simp only [Act.put, List.setIfInBounds_toArray, List.set_cons_zero, List.set_cons_succ])
        refine wpAnyH_ready (rs := [3, 5]) (by kernel_rfl) (by simp) (AllReadyH.cons rfl (fun K hK => ?_) (AllReadyH.cons rfl (fun K hK => ?_) AllReadyH.nil))
        · clear hHeld
          rw [if_pos (by kernel_rfl)]
          refine wp_append_td U1 (.tmp 35) (.tmp 37) rfl (e0 + 3) (.slice (some ⟨nb, 0, none⟩) 0 0) 0 [] rfl ROW s.a s.n s.c T rfl HCAP.out (KL.out U1 A1n.below) (by have := HN.out; omega) A1n.z ?_
          intro va U2 ROWA G
          have A2n := A1n.grown G (own_behind ROW)
          clear A1n G ROW
          refine hK.out _ _ A2n.m (fun hHeld => ?_)
          clear hK K
          (try simp only [Act.put, List.setIfInBounds_toArray, List.set_cons_zero, List.set_cons_succ])
          refine wpAnyH_ready (rs := [5]) (by kernel_rfl) (by simp) (AllReadyH.cons rfl (fun K hK => ?_) AllReadyH.nil)
          clear hHeld
          rw [if_pos (by kernel_rfl)]
          go_simp
          have A3n := A2n.later ((Grw.refl U2).alloc (.cells #[.int .i64 kd, .int .i64 (k : Int), .int .u32 (q : Int), .int .u64 (st : Int)] 130)).below
          have X : TdB (U2.alloc (.cells #[.int .i64 kd, .int .i64 (k : Int), .int .u32 (q : Int), .int .u64 (st : Int)] 130)) U2.heap.size ⟨kd, (k : Int), q, st⟩ := TdB.new U2 ⟨kd, (k : Int), q, st⟩
          have ROWA := own_grw ROWA ((Grw.refl U2).alloc (.cells #[.int .i64 kd, .int .i64 (k : Int), .int .u32 (q : Int), .int .u64 (st : Int)] 130))
          clear A2n
          have hxl : U2.heap.size < (U2.alloc (.cells #[.int .i64 kd, .int .i64 (k : Int), .int .u32 (q : Int), .int .u64 (st : Int)] 130)).heap.size := by simp
          generalize (U2.alloc (.cells #[.int .i64 kd, .int .i64 (k : Int), .int .u32 (q : Int), .int .u64 (st : Int)] 130)) = U3 at *
          generalize U2.heap.size = xb at *
          refine hK.out _ _ A3n.m (fun hHeld => ?_)
          clear hK K
          (try simp only [Act.put, List.setIfInBounds_toArray, List.set_cons_zero, List.set_cons_succ])
          refine wpAnyH_ready (rs := [6]) (by kernel_rfl) (by simp) (AllReadyH.cons rfl (fun K hK => ?_) AllReadyH.nil)
          clear hHeld
          rw [if_pos (by kernel_rfl)]
          refine wp_append_td U3 (.tmp 38) (.tmp 40) rfl (e0 + 3) va (0 + s.n) _ rfl ROWA (some ⟨xb, 0, none⟩) 1 1 [⟨kd, (k : Int), q, st⟩] rfl (fun e => by cases e) (lst_oneD X) (by have := HN.out; omega) A3n.z ?_
          intro vz U4 ROWZ G
          have A4n := A3n.grown G (own_behind ROWA)
          clear A3n G ROWA X
          refine hK.out _ _ A4n.m (fun hHeld => ?_)
          clear hK K
          (try simp only [Act.put, List.setIfInBounds_toArray, List.set_cons_zero, List.set_cons_succ])
          refine stake (i := 7) (v := .pointer (some ⟨e0, 65, none⟩)) 42 rfl (by kernel_rfl) (by kernel_rfl) (by kernel_rfl) (by kernel_rfl) (fun _ _ _ h => h) (.inl ⟨by kernel_rfl, fun w' hS => by (go_simp)⟩) hHeld ?_
          (try simp only [Act.put, List.setIfInBounds_toArray, List.set_cons_zero, List.set_cons_succ])
          refine wpAnyH_ready (rs := [8]) (by kernel_rfl) (by simp) (AllReadyH.cons rfl (fun K hK => ?_) AllReadyH.nil)
          clear hHeld
          rw [if_pos (by kernel_rfl)]
          have c0 := A4n.e.c65
          have f0 := A4n.e.free 65
          have s9 : TdB (U4.setCell ⟨e0, 65, none⟩ vz) (e0 + 1) ⟨kd, (k : Int), q, st⟩ := Own.set_other A4n.m _ _ _ (by omega)
          have FIN := rztell_final A4n HE0.out.symm HLEN.out vz ROWZ
          obtain ⟨u, rfl, E9, R9, HP9⟩ := FIN
          have HP9 := Lib.hid HP9
          have E9 := Lib.hid E9
          have R9 := Lib.hid R9
          go_simp
          refine hK.out _ _ s9 (fun hHeld => ?_)
          clear hK K hHeld s9 c0 f0 A4n ROWZ
          (try simp only [Act.put, List.setIfInBounds_toArray, List.set_cons_zero, List.set_cons_succ])
          refine wpAnyH_done (by kernel_rfl) ?_ _
          generalize (U4.setCell ⟨e0, 65, none⟩ (.slice u.a u.n u.c)) = W9 at *
          go_wp2_with (first | (refine load_rz rfl (.tmp 2) rfl e0 ck oth u rfl E9.out ?_) | (refine store_rz rfl (.tmp 4) (.tmp 43) rfl (e0 + 2) ck oth u rfl rfl R9.out ?_))
          (try simp only [Exit.inBlock, Exit.then])
          exact bodyPost_ret (v := .agg (rzC ck oth u).toArray) (results_rz (p := 4) rfl _ _ (e0 + 2) ck oth rfl (R9.out.row ck oth u)) rfl ⟨u, rfl, HP9.out⟩
        · clear hHeld
          rw [if_pos (by kernel_rfl)]
          go_simp
          have A2n := A1n.later ((Grw.refl U1).alloc (.cells #[.int .i64 kd, .int .i64 (k : Int), .int .u32 (q : Int), .int .u64 (st : Int)] 130)).below
          have X : TdB (U1.alloc (.cells #[.int .i64 kd, .int .i64 (k : Int), .int .u32 (q : Int), .int .u64 (st : Int)] 130)) U1.heap.size ⟨kd, (k : Int), q, st⟩ := TdB.new U1 ⟨kd, (k : Int), q, st⟩
          have hxn : U1.heap.size ≠ nb := by have := own_lt ROW; omega
          have ROW := own_grw ROW ((Grw.refl U1).alloc (.cells #[.int .i64 kd, .int .i64 (k : Int), .int .u32 (q : Int), .int .u64 (st : Int)] 130))
          clear A1n
          have hxl : U1.heap.size < (U1.alloc (.cells #[.int .i64 kd, .int .i64 (k : Int), .int .u32 (q : Int), .int .u64 (st : Int)] 130)).heap.size := by simp
          generalize (U1.alloc (.cells #[.int .i64 kd, .int .i64 (k : Int), .int .u32 (q : Int), .int .u64 (st : Int)] 130)) = U2 at *
          generalize U1.heap.size = xb at *
          refine hK.out _ _ A2n.m (fun hHeld => ?_)
          clear hK K
          (try simp only [Act.put, List.setIfInBounds_toArray, List.set_cons_zero, List.set_cons_succ])
          refine wpAnyH_ready (rs := [3]) (by kernel_rfl) (by simp) (AllReadyH.cons rfl (fun K hK => ?_) AllReadyH.nil)
          clear hHeld
          rw [if_pos (by kernel_rfl)]
          refine wp_append_td U2 (.tmp 35) (.tmp 37) rfl (e0 + 3) (.slice (some ⟨nb, 0, none⟩) 0 0) 0 [] rfl ROW s.a s.n s.c T rfl HCAP.out (KL.out U2 A2n.below) (by have := HN.out; omega) A2n.z ?_
          intro va U3 ROWA G
          have A3n := A2n.grown G (own_behind ROW)
          have X := TdB.grown X G (fun k hk => by cases hk; exact hxn)
          clear A2n G ROW
          refine hK.out _ _ A3n.m (fun hHeld => ?_)
          clear hK K
          (try simp only [Act.put, List.setIfInBounds_toArray, List.set_cons_zero, List.set_cons_succ])
          refine wpAnyH_ready (rs := [6]) (by kernel_rfl) (by simp) (AllReadyH.cons rfl (fun K hK => ?_) AllReadyH.nil)
          clear hHeld
          rw [if_pos (by kernel_rfl)]
          refine wp_append_td U3 (.tmp 38) (.tmp 40) rfl (e0 + 3) va (0 + s.n) _ rfl ROWA (some ⟨xb, 0, none⟩) 1 1 [⟨kd, (k : Int), q, st⟩] rfl (fun e => by cases e) (lst_oneD X) (by have := HN.out; omega) A3n.z ?_
          intro vz U4 ROWZ G
          have A4n := A3n.grown G (own_behind ROWA)
          clear A3n G ROWA X
          refine hK.out _ _ A4n.m (fun hHeld => ?_)
          clear hK K
          (try simp only [Act.put, List.setIfInBounds_toArray, List.set_cons_zero, List.set_cons_succ])
          refine stake (i := 7) (v := .pointer (some ⟨e0, 65, none⟩)) 42 rfl (by kernel_rfl) (by kernel_rfl) (by kernel_rfl) (by kernel_rfl) (fun _ _ _ h => h) (.inl ⟨by kernel_rfl, fun w' hS => by (go_simp)⟩) hHeld ?_
          (try simp only [Act.put, List.setIfInBounds_toArray, List.set_cons_zero, List.set_cons_succ])
          refine wpAnyH_ready (rs := [8]) (by kernel_rfl) (by simp) (AllReadyH.cons rfl (fun K hK => ?_) AllReadyH.nil)
          clear hHeld
          rw [if_pos (by kernel_rfl)]
          have c0 := A4n.e.c65
          have f0 := A4n.e.free 65
          have s9 : TdB (U4.setCell ⟨e0, 65, none⟩ vz) (e0 + 1) ⟨kd, (k : Int), q, st⟩ := Own.set_other A4n.m _ _ _ (by omega)
          have FIN := rztell_final A4n HE0.out.symm HLEN.out vz ROWZ
          obtain ⟨u, rfl, E9, R9, HP9⟩ := FIN
          have HP9 := Lib.hid HP9
          have E9 := Lib.hid E9
          have R9 := Lib.hid R9
          go_simp
          refine hK.out _ _ s9 (fun hHeld => ?_)
          clear hK K hHeld s9 c0 f0 A4n ROWZ
          (try simp only [Act.put, List.setIfInBounds_toArray, List.set_cons_zero, List.set_cons_succ])
          refine wpAnyH_done (by kernel_rfl) ?_ _
          generalize (U4.setCell ⟨e0, 65, none⟩ (.slice u.a u.n u.c)) = W9 at *
          go_wp2_with (first | (refine load_rz rfl (.tmp 2) rfl e0 ck oth u rfl E9.out ?_) | (refine store_rz rfl (.tmp 4) (.tmp 43) rfl (e0 + 2) ck oth u rfl rfl R9.out ?_))
          (try simp only [Exit.inBlock, Exit.then])
          exact bodyPost_ret (v := .agg (rzC ck oth u).toArray) (results_rz (p := 4) rfl _ _ (e0 + 2) ck oth rfl (R9.out.row ck oth u)) rfl ⟨u, rfl, HP9.out⟩
      · clear hHeld
        rw [if_pos (by kernel_rfl)]
        go_simp
        have A1n := A6.later ((Grw.refl W6).alloc (.cells #[.int .i64 kd, .int .i64 (k : Int), .int .u32 (q : Int), .int .u64 (st : Int)] 130)).below
        have X : TdB (W6.alloc (.cells #[.int .i64 kd, .int .i64 (k : Int), .int .u32 (q : Int), .int .u64 (st : Int)] 130)) W6.heap.size ⟨kd, (k : Int), q, st⟩ := TdB.new W6 ⟨kd, (k : Int), q, st⟩
        clear A6
        have hxl : W6.heap.size < (W6.alloc (.cells #[.int .i64 kd, .int .i64 (k : Int), .int .u32 (q : Int), .int .u64 (st : Int)] 130)).heap.size := by simp
        generalize (W6.alloc (.cells #[.int .i64 kd, .int .i64 (k : Int), .int .u32 (q : Int), .int .u64 (st : Int)] 130)) = U1 at *
        generalize W6.heap.size = xb at *
        refine hK.out _ _ A1n.m (fun hHeld => ?_)
        clear hK K
        (try simp only [Act.put, List.setIfInBounds_toArray, List.set_cons_zero, List.set_cons_succ])
        refine wpAnyH_ready (rs := [0]) (by kernel_rfl) (by simp) (AllReadyH.cons rfl (fun K hK => ?_) AllReadyH.nil)
        clear hHeld
        rw [if_pos (by kernel_rfl)]
        go_simp
        have A2n := A1n.later ((Grw.refl U1).alloc (.cells #[] 130)).below
        have ROW := own_base (World.ownsRow_made (e := 130) (size := 4) U1 #[] 0 (Nat.le_refl _) (Nat.zero_le _) (by simp)) A1n.z
        have X := TdB.later X ((Grw.refl U1).alloc (.cells #[] 130)).below
        have hxn : xb ≠ U1.heap.size := by omega
        clear A1n
        generalize (U1.alloc (.cells #[] 130)) = U2 at *
        generalize U1.heap.size = nb at *
        refine hK.out _ _ A2n.m (fun hHeld => ?_)
        clear hK K
        (try simp only [Act.put, List.setIfInBounds_toArray, List.set_cons_zero, List.set_cons_succ])
        refine wpAnyH_ready (rs := [3]) (by kernel_rfl) (by simp) (AllReadyH.cons rfl (fun K hK => ?_) AllReadyH.nil)
        clear hHeld
        rw [if_pos (by kernel_rfl)]
        refine wp_append_td U2 (.tmp 35) (.tmp 37) rfl (e0 + 3) (.slice (some ⟨nb, 0, none⟩) 0 0) 0 [] rfl ROW s.a s.n s.c T rfl HCAP.out (KL.out U2 A2n.below) (by have := HN.out; omega) A2n.z ?_
        intro va U3 ROWA G
        have A3n := A2n.grown G (own_behind ROW)
        have X := TdB.grown X G (fun k hk => by cases hk; exact hxn)
        clear A2n G ROW
        refine hK.out _ _ A3n.m (fun hHeld => ?_)
        clear hK K
        (try simp only [Act.put, List.setIfInBounds_toArray, List.set_cons_zero, List.set_cons_succ])
        refine wpAnyH_ready (rs := [6]) (by kernel_rfl) (by simp) (AllReadyH.cons rfl (fun K hK => ?_) AllReadyH.nil)
        clear hHeld
        rw [if_pos (by kernel_rfl)]
        refine wp_append_td U3 (.tmp 38) (.tmp 40) rfl (e0 + 3) va (0 + s.n) _ rfl ROWA (some ⟨xb, 0, none⟩) 1 1 [⟨kd, (k : Int), q, st⟩] rfl (fun e => by cases e) (lst_oneD X) (by have := HN.out; omega) A3n.z ?_
        intro vz U4 ROWZ G
        have A4n := A3n.grown G (own_behind ROWA)
        clear A3n G ROWA X
        refine hK.out _ _ A4n.m (fun hHeld => ?_)
        clear hK K
        (try simp only [Act.put, List.setIfInBounds_toArray, List.set_cons_zero, List.set_cons_succ])
        refine stake (i := 7) (v := .pointer (some ⟨e0, 65, none⟩)) 42 rfl (by kernel_rfl) (by kernel_rfl) (by kernel_rfl) (by kernel_rfl) (fun _ _ _ h => h) (.inl ⟨by kernel_rfl, fun w' hS => by (go_simp)⟩) hHeld ?_
        (try simp only [Act.put, List.setIfInBounds_toArray, List.set_cons_zero, List.set_cons_succ])
        refine wpAnyH_ready (rs := [8]) (by kernel_rfl) (by simp) (AllReadyH.cons rfl (fun K hK => ?_) AllReadyH.nil)
        clear hHeld
        rw [if_pos (by kernel_rfl)]
        have c0 := A4n.e.c65
        have f0 := A4n.e.free 65
        have s9 : TdB (U4.setCell ⟨e0, 65, none⟩ vz) (e0 + 1) ⟨kd, (k : Int), q, st⟩ := Own.set_other A4n.m _ _ _ (by omega)
        have FIN := rztell_final A4n HE0.out.symm HLEN.out vz ROWZ
        obtain ⟨u, rfl, E9, R9, HP9⟩ := FIN
        have HP9 := Lib.hid HP9
        have E9 := Lib.hid E9
        have R9 := Lib.hid R9
        go_simp
        refine hK.out _ _ s9 (fun hHeld => ?_)
        clear hK K hHeld s9 c0 f0 A4n ROWZ
        (try simp only [Act.put, List.setIfInBounds_toArray, List.set_cons_zero, List.set_cons_succ])
        refine wpAnyH_done (by kernel_rfl) ?_ _
        generalize (U4.setCell ⟨e0, 65, none⟩ (.slice u.a u.n u.c)) = W9 at *
        go_wp2_with (first | (refine load_rz rfl (.tmp 2) rfl e0 ck oth u rfl E9.out ?_) | (refine store_rz rfl (.tmp 4) (.tmp 43) rfl (e0 + 2) ck oth u rfl rfl R9.out ?_))
        (try simp only [Exit.inBlock, Exit.then])
        exact bodyPost_ret (v := .agg (rzC ck oth u).toArray) (results_rz (p := 4) rfl _ _ (e0 + 2) ck oth rfl (R9.out.row ck oth u)) rfl ⟨u, rfl, HP9.out⟩
    · clear hHeld
      rw [if_pos (by kernel_rfl)]
      go_simp
      have A0n := A6.later ((Grw.refl W6).alloc (.cells #[.int .i64 kd, .int .i64 (k : Int), .int .u32 (q : Int), .int .u64 (st : Int)] 130)).below
      have X : TdB (W6.alloc (.cells #[.int .i64 kd, .int .i64 (k : Int), .int .u32 (q : Int), .int .u64 (st : Int)] 130)) W6.heap.size ⟨kd, (k : Int), q, st⟩ := TdB.new W6 ⟨kd, (k : Int), q, st⟩
      clear A6
      have hxl : W6.heap.size < (W6.alloc (.cells #[.int .i64 kd, .int .i64 (k : Int), .int .u32 (q : Int), .int .u64 (st : Int)] 130)).heap.size := by simp
      generalize (W6.alloc (.cells #[.int .i64 kd, .int .i64 (k : Int), .int .u32 (q : Int), .int .u64 (st : Int)] 130)) = U0 at *
      generalize W6.heap.size = xb at *
      refine hK.out _ _ A0n.m (fun hHeld => ?_)
      clear hK K
      (try simp only [Act.put, List.setIfInBounds_toArray, List.set_cons_zero, List.set_cons_succ])
      refine wpAnyH_ready (rs := [0, 2]) (by kernel_rfl) (by simp) (AllReadyH.cons rfl (fun K hK => ?_) (AllReadyH.cons rfl (fun K hK => ?_) AllReadyH.nil))
      · clear hHeld
        rw [if_pos (by kernel_rfl)]
        go_simp
        have A1n := A0n.later ((Grw.refl U0).alloc (.cells #[] 130)).below
        have ROW := own_base (World.ownsRow_made (e := 130) (size := 4) U0 #[] 0 (Nat.le_refl _) (Nat.zero_le _) (by simp)) A0n.z
        have X := TdB.later X ((Grw.refl U0).alloc (.cells #[] 130)).below
        have hxn : xb ≠ U0.heap.size := by omega
        clear A0n
        generalize (U0.alloc (.cells #[] 130)) = U1 at *
        generalize U0.heap.size = nb at *
        refine hK.out _ _ A1n.m (fun hHeld => ?_)
        clear hK K
        (try simp only [Act.put, List.setIfInBounds_toArray, List.set_cons_zero, List.set_cons_succ])
        refine wpAnyH_ready (rs := [2]) (by kernel_rfl) (by simp) (AllReadyH.cons rfl (fun K hK => ?_) AllReadyH.nil)
        clear hHeld
        rw [if_pos (by kernel_rfl)]
        have c0 := A1n.e.c65
        go_simp
        clear c0
        refine hK.out _ _ A1n.m (fun hHeld => ?_)
        clear hK K
        (try simp only [Act.put, List.setIfInBounds_toArray, List.set_cons_zero, List.set_cons_succ])
        refine wpAnyH_ready (rs := [3]) (by kernel_rfl) (by simp) (AllReadyH.cons rfl (fun K hK => ?_) AllReadyH.nil)
        clear hHeld
        rw [if_pos (by kernel_rfl)]
        refine wp_append_td U1 (.tmp 35) (.tmp 37) rfl (e0 + 3) (.slice (some ⟨nb, 0, none⟩) 0 0) 0 [] rfl ROW s.a s.n s.c T rfl HCAP.out (KL.out U1 A1n.below) (by have := HN.out; omega) A1n.z ?_
        intro va U3 ROWA G
        have A3n := A1n.grown G (own_behind ROW)
        have X := TdB.grown X G (fun k hk => by cases hk; exact hxn)
        clear A1n G ROW
        refine hK.out _ _ A3n.m (fun hHeld => ?_)
        clear hK K
        (try simp only [Act.put, List.setIfInBounds_toArray, List.set_cons_zero, List.set_cons_succ])
        refine wpAnyH_ready (rs := [6]) (by kernel_rfl) (by simp) (AllReadyH.cons rfl (fun K hK => ?_) AllReadyH.nil)
        clear hHeld
        rw [if_pos (by kernel_rfl)]
        refine wp_append_td U3 (.tmp 38) (.tmp 40) rfl (e0 + 3) va (0 + s.n) _ rfl ROWA (some ⟨xb, 0, none⟩) 1 1 [⟨kd, (k : Int), q, st⟩] rfl (fun e => by cases e) (lst_oneD X) (by have := HN.out; omega) A3n.z ?_
        intro vz U4 ROWZ G
        have A4n := A3n.grown G (own_behind ROWA)
        clear A3n G ROWA X
        refine hK.out _ _ A4n.m (fun hHeld => ?_)
        clear hK K
        (try simp only [Act.put, List.setIfInBounds_toArray, List.set_cons_zero, List.set_cons_succ])
        refine stake (i := 7) (v := .pointer (some ⟨e0, 65, none⟩)) 42 rfl (by kernel_rfl) (by kernel_rfl) (by kernel_rfl) (by kernel_rfl) (fun _ _ _ h => h) (.inl ⟨by kernel_rfl, fun w' hS => by (go_simp)⟩) hHeld ?_
        (try simp only [Act.put, List.setIfInBounds_toArray, List.set_cons_zero, List.set_cons_succ])
        refine wpAnyH_ready (rs := [8]) (by kernel_rfl) (by simp) (AllReadyH.cons rfl (fun K hK => ?_) AllReadyH.nil)
        clear hHeld
        rw [if_pos (by kernel_rfl)]
        have c0 := A4n.e.c65
        have f0 := A4n.e.free 65
        have s9 : TdB (U4.setCell ⟨e0, 65, none⟩ vz) (e0 + 1) ⟨kd, (k : Int), q, st⟩ := Own.set_other A4n.m _ _ _ (by omega)
        have FIN := rztell_final A4n HE0.out.symm HLEN.out vz ROWZ
        obtain ⟨u, rfl, E9, R9, HP9⟩ := FIN
        have HP9 := Lib.hid HP9
        have E9 := Lib.hid E9
        have R9 := Lib.hid R9
        go_simp
        refine hK.out _ _ s9 (fun hHeld => ?_)
        clear hK K hHeld s9 c0 f0 A4n ROWZ
        (try simp only [Act.put, List.setIfInBounds_toArray, List.set_cons_zero, List.set_cons_succ])
        refine wpAnyH_done (by kernel_rfl) ?_ _
        generalize (U4.setCell ⟨e0, 65, none⟩ (.slice u.a u.n u.c)) = W9 at *
        go_wp2_with (first | (refine load_rz rfl (.tmp 2) rfl e0 ck oth u rfl E9.out ?_) | (refine store_rz rfl (.tmp 4) (.tmp 43) rfl (e0 + 2) ck oth u rfl rfl R9.out ?_))
        (try simp only [Exit.inBlock, Exit.then])
        exact bodyPost_ret (v := .agg (rzC ck oth u).toArray) (results_rz (p := 4) rfl _ _ (e0 + 2) ck oth rfl (R9.out.row ck oth u)) rfl ⟨u, rfl, HP9.out⟩
      · clear hHeld
        rw [if_pos (by kernel_rfl)]
        have c0 := A0n.e.c65
        go_simp
        clear c0
        refine hK.out _ _ A0n.m (fun hHeld => ?_)
        clear hK K
        (try simp only [Act.put, List.setIfInBounds_toArray, List.set_cons_zero, List.set_cons_succ])
        refine wpAnyH_ready (rs := [0]) (by kernel_rfl) (by simp) (AllReadyH.cons rfl (fun K hK => ?_) AllReadyH.nil)
        clear hHeld
        rw [if_pos (by kernel_rfl)]
        go_simp
        have A2n := A0n.later ((Grw.refl U0).alloc (.cells #[] 130)).below
        have ROW := own_base (World.ownsRow_made (e := 130) (size := 4) U0 #[] 0 (Nat.le_refl _) (Nat.zero_le _) (by simp)) A0n.z
        have X := TdB.later X ((Grw.refl U0).alloc (.cells #[] 130)).below
        have hxn : xb ≠ U0.heap.size := by omega
        clear A0n
        generalize (U0.alloc (.cells #[] 130)) = U2 at *
        generalize U0.heap.size = nb at *
        refine hK.out _ _ A2n.m (fun hHeld => ?_)
        clear hK K
        (try simp only [Act.put, List.setIfInBounds_toArray, List.set_cons_zero, List.set_cons_succ])
        refine wpAnyH_ready (rs := [3]) (by kernel_rfl) (by simp) (AllReadyH.cons rfl (fun K hK => ?_) AllReadyH.nil)
        clear hHeld
        rw [if_pos (by kernel_rfl)]
        refine wp_append_td U2 (.tmp 35) (.tmp 37) rfl (e0 + 3) (.slice (some ⟨nb, 0, none⟩) 0 0) 0 [] rfl ROW s.a s.n s.c T rfl HCAP.out (KL.out U2 A2n.below) (by have := HN.out; omega) A2n.z ?_
        intro va U3 ROWA G
        have A3n := A2n.grown G (own_behind ROW)
        have X := TdB.grown X G (fun k hk => by cases hk; exact hxn)
        clear A2n G ROW
        refine hK.out _ _ A3n.m (fun hHeld => ?_)
        clear hK K
        (try simp only [Act.put, List.setIfInBounds_toArray, List.set_cons_zero, List.set_cons_succ])
        refine wpAnyH_ready (rs := [6]) (by kernel_rfl) (by simp) (AllReadyH.cons rfl (fun K hK => ?_) AllReadyH.nil)
        clear hHeld
        rw [if_pos (by kernel_rfl)]
        refine wp_append_td U3 (.tmp 38) (.tmp 40) rfl (e0 + 3) va (0 + s.n) _ rfl ROWA (some ⟨xb, 0, none⟩) 1 1 [⟨kd, (k : Int), q, st⟩] rfl (fun e => by cases e) (lst_oneD X) (by have := HN.out; omega) A3n.z ?_
        intro vz U4 ROWZ G
        have A4n := A3n.grown G (own_behind ROWA)
        clear A3n G ROWA X
        refine hK.out _ _ A4n.m (fun hHeld => ?_)
        clear hK K
        (try simp only [Act.put, List.setIfInBounds_toArray, List.set_cons_zero, List.set_cons_succ])
        refine stake (i := 7) (v := .pointer (some ⟨e0, 65, none⟩)) 42 rfl (by kernel_rfl) (by kernel_rfl) (by kernel_rfl) (by kernel_rfl) (fun _ _ _ h => h) (.inl ⟨by kernel_rfl, fun w' hS => by (go_simp)⟩) hHeld ?_
        (try simp only [Act.put, List.setIfInBounds_toArray, List.set_cons_zero, List.set_cons_succ])
        refine wpAnyH_ready (rs := [8]) (by kernel_rfl) (by simp) (AllReadyH.cons rfl (fun K hK => ?_) AllReadyH.nil)
        clear hHeld
        rw [if_pos (by kernel_rfl)]
        have c0 := A4n.e.c65
        have f0 := A4n.e.free 65
        have s9 : TdB (U4.setCell ⟨e0, 65, none⟩ vz) (e0 + 1) ⟨kd, (k : Int), q, st⟩ := Own.set_other A4n.m _ _ _ (by omega)
        have FIN := rztell_final A4n HE0.out.symm HLEN.out vz ROWZ
        obtain ⟨u, rfl, E9, R9, HP9⟩ := FIN
        have HP9 := Lib.hid HP9
        have E9 := Lib.hid E9
        have R9 := Lib.hid R9
        go_simp
        refine hK.out _ _ s9 (fun hHeld => ?_)
        clear hK K hHeld s9 c0 f0 A4n ROWZ
        (try simp only [Act.put, List.setIfInBounds_toArray, List.set_cons_zero, List.set_cons_succ])
        refine wpAnyH_done (by kernel_rfl) ?_ _
        generalize (U4.setCell ⟨e0, 65, none⟩ (.slice u.a u.n u.c)) = W9 at *
        go_wp2_with (first | (refine load_rz rfl (.tmp 2) rfl e0 ck oth u rfl E9.out ?_) | (refine store_rz rfl (.tmp 4) (.tmp 43) rfl (e0 + 2) ck oth u rfl rfl R9.out ?_))
        (try simp only [Exit.inBlock, Exit.then])
        exact bodyPost_ret (v := .agg (rzC ck oth u).toArray) (results_rz (p := 4) rfl _ _ (e0 + 2) ck oth rfl (R9.out.row ck oth u)) rfl ⟨u, rfl, HP9.out⟩
/-- Tell, whatever is told. -/
theorem rz_tell (clk oth : Nat) (s : Sl) (T : List Td) (w : World) (hl : DRow w s T) (hn : s.n ≤ 1000) (t : Td) :
    Calls Try.prog 67 #[.agg (rzC clk oth s).toArray, .agg #[.int .i64 t.kind, .int .i64 t.p, .int .u32 (t.sq : Int), .int .u64 (t.st : Int)]] w (RTell w s (if mem oth t.p then tellClk clk t else clk) oth (if mem oth t.p then T ++ [t] else T)) := by
  obtain ⟨kd, p, q, st⟩ := t
  cases hp : mem oth p with
  | false => exact rztell_no clk oth s T w hl kd p q st hp
  | true =>
    obtain ⟨h0, h1, h2⟩ : 0 ≤ p ∧ p < 64 ∧ oth.testBit p.toNat = true := by
      unfold mem at hp
      simp at hp
      exact ⟨hp.1.1, hp.1.2, hp.2⟩
    obtain ⟨k, rfl⟩ := Int.eq_ofNat_of_zero_le h0
    rw [Int.toNat_natCast] at h2
    exact rztell_yes clk oth s T w hl hn kd k q st (by omega) h2
end Go.Proofs.Ytfocjcdfpnbkjaa
