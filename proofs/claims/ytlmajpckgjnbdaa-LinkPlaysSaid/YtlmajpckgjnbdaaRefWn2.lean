/- The document's window: Room, Next, Got. -/
import Derived.Test.YtlmajpckgjnbdaaRefWn
set_option linter.unusedVariables false
set_option linter.unusedSimpArgs false
namespace Go.Proofs.Ytlmajpckgjnbdaa
open Go.RowKit Go.Sort

theorem run_rw {w : World} {g : Nat} {W : Wn} (h : RwB w g W) : (loadVar 32 ⟨g, 0, none⟩).run Try.prog w = .ok (.agg (rW W)) w :=
  run_loadVar_row (P := Try.prog) w g 32 32 (rW W) (0, 0) _ h Try.underlying32 rfl (by rw [rW_size]; exact rw_size)
/-- The document's window, loaded whole in a region that draws. -/
theorem quiet_load_rw {ops : Array Oper} {C : World → Prop} {Q : Act → Prop} {o : Oper} {rest : List Oper} {a : Act} (hw : Region.wanted o (yielded ops a.tmps) = true) (x : Operand) (ho : o.op = .load 32 x)
    (g : Nat) (W : Wn) (hx : a.eval x = .pointer (some ⟨g, 0, none⟩)) (hC : ∀ w, C w → RwB w g W)
    (h : wpQuiet Try.prog ops C Q rest (a.put o.dst (.agg (rW W)))) : wpQuiet Try.prog ops C Q (o :: rest) a :=
  wpQuiet_step fun K hK => by
  rw [if_pos hw]
  exact ⟨_, fun w hw' => by
    unfold Oper.quietAt execOp
    simp only [ho, hx, Instr.loadAt, Instr.sureAddr, Sem.run_bind, Sem.run_pure, Result.andThen_ok, run_rw (hC w hw')]
    exact ⟨rfl, rfl⟩, hK _ h⟩
theorem RwB.form {w : World} {g : Nat} {W : Wn} (h : RwB w g W) : ∀ w', (∃ p : BelBy, w' = grow (atD w p.n) p.os) → RwB w' g W := fun w' ⟨p, hp⟩ => by
  rw [hp]; exact h.below (below_of_form w p.n p.os)
set_option maxHeartbeats 4000000 in
theorem rroom11 {W : Wn} (hok : W.ok) (r : Int) (r0 : -9223372036854775808 ≤ r) (r1 : r ≤ 9223372036854775807) (w : World) :
    Calls Try.prog 11 #[.agg (rW W), .int .i64 r] w fun e w' => e = .returned (.bool (roomN W r)) ∧ Below w.heap.size w w' := by
  have B := RwB.new w W
  have L := Lib.hid ((Grw.refl w).alloc (.cells (rW W) 32)).below
  have hls := lowN_sent W
  have hs32 := hok.s
  have hz1 := hok.inv.s1
  have hz2 := hok.inv.s2
  have K1 : Hid (∀ V, Calls Try.prog 18 #[.agg (rW W)] V fun e w' => e = .returned (.int .u32 (lowN W : Nat)) ∧ Below V.heap.size V w') := Lib.hid (fun V => rlow11 V)
  have HR : Hid (roomN W r = decide ((W.sent : Int) - (lowN W : Int) < (W.size : Int) - max r 0)) := Lib.hid rfl
  have HB := Lib.hid (RwB.form B)
  have hlt := B.lt
  have cs := fun n os => cell_form hlt B.cs n os
  have c1 := fun n os => cell_form hlt B.c1 n os
  generalize hC : rW W = C at *
  replace hC := Lib.hid hC
  clear B hok
  generalize lowN W = q at *
  by_cases hr : r < 0
  · have hd : decide (r < 0) = true := by simp [hr]
    rw [show max r 0 = 0 by omega, Int.sub_zero] at HR
    clear hr
    go_enter Try.func11, Try.ntmps11
    go_upto_region 3 with fail
    generalize w.alloc (.cells C 32) = V at *
    refine wp_region_quiet_below (by kernel_rfl) (by kernel_rfl) ?_
    repeat (first | (refine quiet_load_rw (by rfl) (.tmp 2) rfl w.heap.size W rfl HB.out ?_; rw [hC.out]) | quiet_step ((go_at_call 18; exact calls_below (K1.out _))))
    refine wpQuiet_nil ?_
    intro _ hw'
    obtain ⟨⟨nq, osq⟩, hw''⟩ := hw'
    subst hw''
    have L2 := L.out.trans ((below_of_form V nq osq).mono L.out.size)
    replace L2 := Lib.hid L2
    clear cs c1
    generalize (grow (atD V nq) osq) = V2 at *
    go_wp2
    go_ret
    have h1 : IntKind.i64.wrap (W.sent : Int) = W.sent := IntWalk.i64_in _ (by omega)
    have h2 : IntKind.i64.wrap (q : Int) = q := IntWalk.i64_in _ (by omega)
    have h3 : IntKind.i64.wrap ((W.sent : Int) - (q : Int)) = (W.sent : Int) - (q : Int) := IntWalk.i64_in _ (by omega)
    have h4 : IntKind.i64.wrap ((W.size : Int)) = (W.size : Int) := IntWalk.i64_in _ (by omega)
    refine ⟨?_, L2.out⟩
    rw [HR.out]
    show Ending.returned (Value.bool (decide (IntKind.i64.wrap (IntKind.i64.wrap (W.sent : Int) - IntKind.i64.wrap (q : Int)) < IntKind.i64.wrap ((W.size : Int))))) = _
    rw [h1, h2, h3, h4]
  · have hd : decide (r < 0) = false := by simp; omega
    rw [show max r 0 = r by omega] at HR
    go_enter Try.func11, Try.ntmps11
    go_upto_region 3 with fail
    generalize w.alloc (.cells C 32) = V at *
    refine wp_region_quiet_below (by kernel_rfl) (by kernel_rfl) ?_
    repeat (first | (refine quiet_load_rw (by rfl) (.tmp 2) rfl w.heap.size W rfl HB.out ?_; rw [hC.out]) | quiet_step ((go_at_call 18; exact calls_below (K1.out _))))
    refine wpQuiet_nil ?_
    intro _ hw'
    obtain ⟨⟨nq, osq⟩, hw''⟩ := hw'
    subst hw''
    have L2 := L.out.trans ((below_of_form V nq osq).mono L.out.size)
    replace L2 := Lib.hid L2
    clear cs c1
    generalize (grow (atD V nq) osq) = V2 at *
    go_wp2
    go_ret
    have h1 : IntKind.i64.wrap (W.sent : Int) = W.sent := IntWalk.i64_in _ (by omega)
    have h2 : IntKind.i64.wrap (q : Int) = q := IntWalk.i64_in _ (by omega)
    have h3 : IntKind.i64.wrap ((W.sent : Int) - (q : Int)) = (W.sent : Int) - (q : Int) := IntWalk.i64_in _ (by omega)
    have h4 : IntKind.i64.wrap ((W.size : Int) - r) = (W.size : Int) - r := IntWalk.i64_in _ (by omega)
    refine ⟨?_, L2.out⟩
    rw [HR.out]
    show Ending.returned (Value.bool (decide (IntKind.i64.wrap (IntKind.i64.wrap (W.sent : Int) - IntKind.i64.wrap (q : Int)) < IntKind.i64.wrap ((W.size : Int) - r)))) = _
    rw [h1, h2, h3, h4]
theorem RwB.send {w : World} {g : Nat} {W : Wn} (h : RwB w g W) : RwB (w.setCell ⟨g, 66, none⟩ (.int .u32 ((W.sent + 1 : Nat) : Int))) g { W with sent := W.sent + 1 } := by
  have := h.own.set 66 (.int .u32 ((W.sent + 1 : Nat) : Int))
  unfold rW at this
  rw [rC_set_s] at this
  exact this
theorem RwB.put {w : World} {g : Nat} {W : Wn} (h : RwB w g W) (p n : Nat) (hp : p < 64) : RwB (w.setCell ⟨g, 67 + p, none⟩ (.int .u32 (n : Int))) g { W with got := updG W.got p n } := by
  have := h.own.set (67 + p) (.int .u32 (n : Int))
  unfold rW at this
  rw [rC_set_f _ _ _ _ _ _ _ hp] at this
  exact this
/-- A block of the type, of no worth yet. -/
def zRow : Array Value := (rC 0 0 (fun _ => false) 0 (fun _ => 0)).toArray
theorem zRow_size : zRow.size = 131 := by unfold zRow; rw [List.size_toArray, rC_length]
theorem zRow_run (w : World) : (zeroValue 32).run Try.prog w = .ok (.agg zRow) w := rw_zero w
theorem results_rw {fn : Func} {p : Tmp} (h : fn.results = #[.cell p 32]) (tmps : Array Value) (w : World) (g : Nat) (W : Wn) (hp : tmps.getD p undef = .pointer (some ⟨g, 0, none⟩)) (hg : RwB w g W) :
    (results fn tmps).run Try.prog w = .ok (.agg (rW W)) w :=
  results_cell_row h _ _ g 32 (rW W) (0, 0) _ hp hg Try.underlying32 rfl (by rw [rW_size]; exact rw_size)
theorem setRow_rw {w : World} {g : Nat} {old : Array Value} (h : Own w g 32 old) (W : Wn) : RwB (w.setRow g (rW W)) g W := setRow_heap _ _ _ _ _ _ h
theorem gotN_same {W : Wn} {p : Int} {n m : Nat} (hm : m = min n W.sent) (h : othN W p = false ∨ m ≤ W.got p.toNat) : gotN W p n = W := by
  rcases h with h | h
  · exact gotN_out h
  · exact gotN_not (by rw [← hm]; exact h)
theorem gotN_more {W : Wn} {k n m : Nat} (hm : m = min n W.sent) (h : othN W (k : Int) = true) (h2 : W.got k < m) : gotN W (k : Int) n = { W with got := updG W.got k m } := by
  rw [gotN_yes h (by rw [Int.toNat_natCast, ← hm]; exact h2), Int.toNat_natCast, ← hm]; rfl
set_option maxHeartbeats 4000000 in
set_option maxRecDepth 100000 in
theorem rgot11 {W : Wn} (p : Int) (p0 : -9223372036854775808 ≤ p) (p1 : p ≤ 9223372036854775807) (n : Nat) (w : World) :
    Calls Try.prog 15 #[.agg (rW W), .int .i64 p, .int .u32 (n : Int)] w fun e w' => e = .returned (.agg (rW (gotN W p n))) ∧ Below w.heap.size w w' := by
  have B := (RwB.new w W).below ((Grw.refl _).alloc (.cells zRow 32)).below
  have Z := Own.new (w.alloc (.cells (rW W) 32)) 32 zRow
  rw [show (w.alloc (.cells (rW W) 32)).heap.size = w.heap.size + 1 by simp] at Z
  have L := Lib.hid (((Grw.refl w).alloc (.cells (rW W) 32)).alloc (.cells zRow 32)).below
  have hz := Lib.hid zRow_run
  have hzs := Lib.hid zRow_size
  have cs := B.cs
  have HB := Lib.hid B
  have HZ := Lib.hid Z
  obtain ⟨m, hm⟩ : ∃ m, m = min n W.sent := ⟨_, rfl⟩
  have HM := Lib.hid hm
  by_cases hn : W.sent < n
  · have dn : decide (W.sent < n) = true := by simp [hn]
    obtain rfl : m = W.sent := by omega
    clear hm hn
    rcases oth_cases W p with ⟨h0, ho⟩ | ⟨h0, h1, ho⟩ | ⟨k, hpk, hk, ho⟩
    · have HS := Lib.hid (gotN_same HM.out (.inl ho))
      have d0 : decide (0 ≤ p) = false := by simp; omega
      clear ho B Z HM
      go_enter Try.func15, Try.ntmps15
      go_upto_region 1 with (with_reducible refine step_alloc rfl 32 rfl zRow (hz.out _) ?_)
      generalize (w.alloc (.cells (rW W) 32)).alloc (.cells zRow 32) = V at *
      go_wp2_with (first | (refine load_rw rfl (.tmp 3) rfl w.heap.size W rfl HB.out ?_) | (refine store_rw rfl (.tmp 6) (.tmp 37) rfl (w.heap.size + 1) W rfl rfl HZ.out hzs.out ?_))
      (try simp only [Exit.inBlock, Exit.then])
      refine bodyPost_ret (results_rw rfl _ _ (w.heap.size + 1) W rfl (setRow_rw HZ.out W)) rfl ?_
      exact ⟨by rw [HS.out], lbelowRow L.out _ (Nat.le_succ _) _⟩
    · have HS := Lib.hid (gotN_same HM.out (.inl ho))
      have d0 : decide (0 ≤ p) = true := by simp; omega
      have d1 : decide (p < 64) = false := by simp; omega
      clear ho B Z HM
      go_enter Try.func15, Try.ntmps15
      go_upto_region 1 with (with_reducible refine step_alloc rfl 32 rfl zRow (hz.out _) ?_)
      generalize (w.alloc (.cells (rW W) 32)).alloc (.cells zRow 32) = V at *
      go_wp2_with (first | (refine load_rw rfl (.tmp 3) rfl w.heap.size W rfl HB.out ?_) | (refine store_rw rfl (.tmp 6) (.tmp 37) rfl (w.heap.size + 1) W rfl rfl HZ.out hzs.out ?_))
      (try simp only [Exit.inBlock, Exit.then])
      refine bodyPost_ret (results_rw rfl _ _ (w.heap.size + 1) W rfl (setRow_rw HZ.out W)) rfl ?_
      exact ⟨by rw [HS.out], lbelowRow L.out _ (Nat.le_succ _) _⟩
    · subst hpk
      have d1 : (k : Int) < 64 := by omega
      have co := B.co k hk
      have cf := B.cf k hk
      cases hb : W.oth.testBit k with
      | false =>
        rw [hb] at ho co
        have HS := Lib.hid (gotN_same HM.out (.inl ho))
        clear ho B Z HM hb
        go_enter Try.func15, Try.ntmps15
        go_upto_region 1 with (with_reducible refine step_alloc rfl 32 rfl zRow (hz.out _) ?_)
        generalize (w.alloc (.cells (rW W) 32)).alloc (.cells zRow 32) = V at *
        go_wp2_with (first | (refine load_rw rfl (.tmp 3) rfl w.heap.size W rfl HB.out ?_) | (refine store_rw rfl (.tmp 6) (.tmp 37) rfl (w.heap.size + 1) W rfl rfl HZ.out hzs.out ?_))
        (try simp only [Exit.inBlock, Exit.then])
        refine bodyPost_ret (results_rw rfl _ _ (w.heap.size + 1) W rfl (setRow_rw HZ.out W)) rfl ?_
        exact ⟨by rw [HS.out], lbelowRow L.out _ (Nat.le_succ _) _⟩
      | true =>
        rw [hb] at ho co
        cases hd : decide (W.got k < W.sent) with
        | false =>
          have HS := Lib.hid (gotN_same (p := (k : Int)) HM.out (.inr (by simp at hd; rw [Int.toNat_natCast]; exact hd)))
          clear ho B Z HM hb
          go_enter Try.func15, Try.ntmps15
          go_upto_region 1 with (with_reducible refine step_alloc rfl 32 rfl zRow (hz.out _) ?_)
          generalize (w.alloc (.cells (rW W) 32)).alloc (.cells zRow 32) = V at *
          go_wp2_with (first | (refine load_rw rfl (.tmp 3) rfl w.heap.size W rfl HB.out ?_) | (refine store_rw rfl (.tmp 6) (.tmp 37) rfl (w.heap.size + 1) W rfl rfl HZ.out hzs.out ?_))
          (try simp only [Exit.inBlock, Exit.then])
          refine bodyPost_ret (results_rw rfl _ _ (w.heap.size + 1) W rfl (setRow_rw HZ.out W)) rfl ?_
          exact ⟨by rw [HS.out], lbelowRow L.out _ (Nat.le_succ _) _⟩
        | true =>
          have HS := Lib.hid (gotN_more HM.out ho (by simp at hd; exact hd))
          clear ho B Z HM hb
          have HP := Lib.hid (HB.out.put k W.sent hk)
          have HZ2 := Lib.hid (HZ.out.set_other w.heap.size (67 + k) (.int .u32 (W.sent : Int)) (by omega))
          have fk := HB.out.free (67 + k)
          have L2 := Lib.hid (Go.RowKit.Below.setCell L.out (show w.heap.size ≤ (⟨w.heap.size, 67 + k, none⟩ : Addr).block from Nat.le_refl _) (.int .u32 (W.sent : Int)))
          go_enter Try.func15, Try.ntmps15
          go_upto_region 1 with (with_reducible refine step_alloc rfl 32 rfl zRow (hz.out _) ?_)
          generalize (w.alloc (.cells (rW W) 32)).alloc (.cells zRow 32) = V at *
          go_wp2_with (first | (refine load_rw rfl (.tmp 3) rfl w.heap.size { W with got := updG W.got k W.sent } rfl HP.out ?_) | (refine store_rw rfl (.tmp 6) (.tmp 37) rfl (w.heap.size + 1) { W with got := updG W.got k W.sent } rfl rfl HZ2.out hzs.out ?_))
          (try simp only [Exit.inBlock, Exit.then])
          refine bodyPost_ret (results_rw rfl _ _ (w.heap.size + 1) { W with got := updG W.got k W.sent } rfl (setRow_rw HZ2.out _)) rfl ?_
          exact ⟨by rw [HS.out], lbelowRow L2.out _ (Nat.le_succ _) _⟩
  · have dn : decide (W.sent < n) = false := by simp; omega
    obtain rfl : m = n := by omega
    clear hm hn
    rcases oth_cases W p with ⟨h0, ho⟩ | ⟨h0, h1, ho⟩ | ⟨k, hpk, hk, ho⟩
    · have HS := Lib.hid (gotN_same HM.out (.inl ho))
      have d0 : decide (0 ≤ p) = false := by simp; omega
      clear ho B Z HM
      go_enter Try.func15, Try.ntmps15
      go_upto_region 1 with (with_reducible refine step_alloc rfl 32 rfl zRow (hz.out _) ?_)
      generalize (w.alloc (.cells (rW W) 32)).alloc (.cells zRow 32) = V at *
      go_wp2_with (first | (refine load_rw rfl (.tmp 3) rfl w.heap.size W rfl HB.out ?_) | (refine store_rw rfl (.tmp 6) (.tmp 37) rfl (w.heap.size + 1) W rfl rfl HZ.out hzs.out ?_))
      (try simp only [Exit.inBlock, Exit.then])
      refine bodyPost_ret (results_rw rfl _ _ (w.heap.size + 1) W rfl (setRow_rw HZ.out W)) rfl ?_
      exact ⟨by rw [HS.out], lbelowRow L.out _ (Nat.le_succ _) _⟩
    · have HS := Lib.hid (gotN_same HM.out (.inl ho))
      have d0 : decide (0 ≤ p) = true := by simp; omega
      have d1 : decide (p < 64) = false := by simp; omega
      clear ho B Z HM
      go_enter Try.func15, Try.ntmps15
      go_upto_region 1 with (with_reducible refine step_alloc rfl 32 rfl zRow (hz.out _) ?_)
      generalize (w.alloc (.cells (rW W) 32)).alloc (.cells zRow 32) = V at *
      go_wp2_with (first | (refine load_rw rfl (.tmp 3) rfl w.heap.size W rfl HB.out ?_) | (refine store_rw rfl (.tmp 6) (.tmp 37) rfl (w.heap.size + 1) W rfl rfl HZ.out hzs.out ?_))
      (try simp only [Exit.inBlock, Exit.then])
      refine bodyPost_ret (results_rw rfl _ _ (w.heap.size + 1) W rfl (setRow_rw HZ.out W)) rfl ?_
      exact ⟨by rw [HS.out], lbelowRow L.out _ (Nat.le_succ _) _⟩
    · subst hpk
      have d1 : (k : Int) < 64 := by omega
      have co := B.co k hk
      have cf := B.cf k hk
      cases hb : W.oth.testBit k with
      | false =>
        rw [hb] at ho co
        have HS := Lib.hid (gotN_same HM.out (.inl ho))
        clear ho B Z HM hb
        go_enter Try.func15, Try.ntmps15
        go_upto_region 1 with (with_reducible refine step_alloc rfl 32 rfl zRow (hz.out _) ?_)
        generalize (w.alloc (.cells (rW W) 32)).alloc (.cells zRow 32) = V at *
        go_wp2_with (first | (refine load_rw rfl (.tmp 3) rfl w.heap.size W rfl HB.out ?_) | (refine store_rw rfl (.tmp 6) (.tmp 37) rfl (w.heap.size + 1) W rfl rfl HZ.out hzs.out ?_))
        (try simp only [Exit.inBlock, Exit.then])
        refine bodyPost_ret (results_rw rfl _ _ (w.heap.size + 1) W rfl (setRow_rw HZ.out W)) rfl ?_
        exact ⟨by rw [HS.out], lbelowRow L.out _ (Nat.le_succ _) _⟩
      | true =>
        rw [hb] at ho co
        cases hd : decide (W.got k < m) with
        | false =>
          have HS := Lib.hid (gotN_same (p := (k : Int)) HM.out (.inr (by simp at hd; rw [Int.toNat_natCast]; exact hd)))
          clear ho B Z HM hb
          go_enter Try.func15, Try.ntmps15
          go_upto_region 1 with (with_reducible refine step_alloc rfl 32 rfl zRow (hz.out _) ?_)
          generalize (w.alloc (.cells (rW W) 32)).alloc (.cells zRow 32) = V at *
          go_wp2_with (first | (refine load_rw rfl (.tmp 3) rfl w.heap.size W rfl HB.out ?_) | (refine store_rw rfl (.tmp 6) (.tmp 37) rfl (w.heap.size + 1) W rfl rfl HZ.out hzs.out ?_))
          (try simp only [Exit.inBlock, Exit.then])
          refine bodyPost_ret (results_rw rfl _ _ (w.heap.size + 1) W rfl (setRow_rw HZ.out W)) rfl ?_
          exact ⟨by rw [HS.out], lbelowRow L.out _ (Nat.le_succ _) _⟩
        | true =>
          have HS := Lib.hid (gotN_more HM.out ho (by simp at hd; exact hd))
          clear ho B Z HM hb
          have HP := Lib.hid (HB.out.put k m hk)
          have HZ2 := Lib.hid (HZ.out.set_other w.heap.size (67 + k) (.int .u32 (m : Int)) (by omega))
          have fk := HB.out.free (67 + k)
          have L2 := Lib.hid (Go.RowKit.Below.setCell L.out (show w.heap.size ≤ (⟨w.heap.size, 67 + k, none⟩ : Addr).block from Nat.le_refl _) (.int .u32 (m : Int)))
          go_enter Try.func15, Try.ntmps15
          go_upto_region 1 with (with_reducible refine step_alloc rfl 32 rfl zRow (hz.out _) ?_)
          generalize (w.alloc (.cells (rW W) 32)).alloc (.cells zRow 32) = V at *
          go_wp2_with (first | (refine load_rw rfl (.tmp 3) rfl w.heap.size { W with got := updG W.got k m } rfl HP.out ?_) | (refine store_rw rfl (.tmp 6) (.tmp 37) rfl (w.heap.size + 1) { W with got := updG W.got k m } rfl rfl HZ2.out hzs.out ?_))
          (try simp only [Exit.inBlock, Exit.then])
          refine bodyPost_ret (results_rw rfl _ _ (w.heap.size + 1) { W with got := updG W.got k m } rfl (setRow_rw HZ2.out _)) rfl ?_
          exact ⟨by rw [HS.out], lbelowRow L2.out _ (Nat.le_succ _) _⟩
end Go.Proofs.Ytlmajpckgjnbdaa
