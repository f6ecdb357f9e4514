/- Drop. (Written by wip/gen_hddrop.py.) -/
import Derived.Test.YtfocjcdfpnbkjaaZHdPut
set_option linter.unusedVariables false
set_option maxRecDepth 100000
set_option linter.unusedSimpArgs false
namespace Go.Proofs.Ytfocjcdfpnbkjaa
open Go.RowKit Go.Sort

theorem wp_from {o : Oper} {A : Act} {w : World} {K : Act → World → Prop} {Q : Exit → Act → World → Prop} (x y : Operand) (ho : o.op = .slice 29 x (some y) none none)
    (s : Sl) (m : Nat) (k : IntKind) (hx : A.eval x = .slice s.a s.n s.c) (hy : A.eval y = .int k (m : Int)) (hm : m ≤ s.n) (h : K (A.put o.dst (.slice (s.from_ m).a (s.from_ m).n (s.from_ m).c)) w) : o.wp Try.prog A w K Q := by
  unfold Oper.wp execOp
  have ht := Try.underlying29
  have h6 : (sizeOf (Try.prog.elem 29)).run Try.prog w = .ok 6 w := by kernel_rfl
  have hr := run_slice_l (P := Try.prog) w 29 s.a s.n s.c ht k (m : Int) (by omega) (by omega)
  rw [h6] at hr
  simp only [Result.andThen_ok, Int.toNat_natCast] at hr
  simp only [ho, Option.map_some, Option.map_none, hx, hy, run_sliceAt_slice _ _ _ _ _ _ ht, hr, Sem.run_bind, Sem.run_pure, Result.andThen_ok, sliced]
  exact h
theorem size_setCells12 (b : Nat) : ∀ (vs : List Value) (o : Nat) (w : World), (w.setCells b o vs).heap.size = w.heap.size
  | [], o, w => rfl
  | v :: r, o, w => by
    have := size_setCells12 b r (o + 1) (w.setCell ⟨b, o, none⟩ v)
    refine Eq.trans this ?_
    simp [World.setCell]
/-- 'clear' of the first m of such a slice. -/
theorem run_clear_any {w : World} {s : Sl} {X : List Mg} (h : SlotAt w s X) (m : Nat) (hm : m ≤ s.n) :
    ∃ W, (∀ ty : TypeId, (Builtin.clear_ #[29] ty #[.slice s.a m s.c]).run Try.prog w = .ok (.tuple #[]) W) ∧ (∀ j, (∀ z, s.a = some z → j ≠ z.block) → W.heap[j]? = w.heap[j]?) ∧ W.heap.size = w.heap.size ∧ (W.os = w.os ∧ W.tape = w.tape ∧ W.output = w.output) ∧ SlotAt W (s.from_ m) (X.drop m) := by
  have h1 := h.from_ m hm
  rcases h with ⟨rfl, rfl⟩ | ⟨b, off, e, h⟩
  · have : m = 0 := by simp [slNil] at hm; exact hm
    subst this
    refine ⟨w, fun ty => ?_, fun _ _ => rfl, rfl, ⟨rfl, rfl, rfl⟩, h1⟩
    simp [Builtin.clear_, run_underlying Try.underlying29, slNil]
  · obtain ⟨sa, sn, sc⟩ := s
    simp only at e h hm h1 ⊢
    subst e
    obtain ⟨vs, hl, hr⟩ := run_clear_h h m sc hm
    have hg := grownCells12 b vs off w
    refine ⟨w.setCells b off vs, hr, fun j hj => ?_, ?_, ⟨hg.os, hg.tape, hg.output⟩, ?_⟩
    · by_cases hlt : j < w.heap.size
      · exact hg.block j hlt (fun e => by injection e with e; exact hj _ rfl e)
      · have hs : (w.setCells b off vs).heap.size = w.heap.size := size_setCells12 b vs off w
        rw [Array.getElem?_eq_none (by omega), Array.getElem?_eq_none (by omega)]
    · exact size_setCells12 b vs off w
    · rcases Nat.eq_zero_or_pos sn with h0 | h0
      · have hm0 : m = 0 := by omega
        subst hm0
        have hv0 : vs = [] := List.eq_nil_of_length_eq_zero (by omega)
        subst hv0
        exact h1
      · have hle := h.le
        have hmc : m * 6 ≤ sc * 6 := Nat.mul_le_mul_right _ (by omega)
        -- the elements behind the first m stay
        have hD := h.drop m hm
        have hK : MRow (w.setCells b off vs) b (off + m * 6) (sn - m) (sc - m) (X.drop m) := by
          refine hD.cells off vs ?_ (.inl ?_)
          · have : (sc - m) * 6 + m * 6 = sc * 6 := by rw [← Nat.add_mul]; congr 1; omega
            omega
          · omega
        by_cases hc : sc = m
        · refine .inr ⟨b, off, by unfold Sl.from_; rw [if_pos hc], ?_⟩
          have e1 : X.drop m = [] := List.drop_eq_nil_of_le (by rw [h.len]; omega)
          have e2 : sn - m = 0 := by omega
          have e3 : sc - m = 0 := by omega
          show MRow _ b off (sn - m) (sc - m) _
          rw [e1, e2, e3]
          obtain ⟨cur, k1, k2, k3⟩ := hK.ex
          exact ⟨⟨cur, k1, by omega, fun j u hu => by simp [flat] at hu⟩, rfl, Nat.le_refl _, Nat.zero_le _⟩
        · refine .inr ⟨b, off + m * 6, by unfold Sl.from_; rw [if_neg hc]; simp only [Option.map_some]; rw [add_lit10], hK⟩
theorem step_clear {ops : Array Oper} {rest : List Oper} {o : Oper} {A : Act} {w W : World} {Q : Exit → Act → World → Prop} (hgd : o.guard = none) (x : Operand) (t : TypeId) (ho : o.op = .call { callee := .builtin .clear, args := #[x], argTypes := #[t] })
    (v u : Value) (hx : A.eval x = v) (hr : ∀ ty, (Builtin.clear_ #[t] ty #[v]).run Try.prog w = .ok u W) (h : wpList Try.prog ops Q rest (A.put o.dst u) W) : wpList Try.prog ops Q (o :: rest) A w :=
  wpList_plain hgd fun _ hK => by
    unfold Oper.wp execOp
    simp only [ho, resolve, invoke, builtin, Sem.run_bind, Sem.run_pure, Result.andThen_ok, List.map_toArray, List.map_cons, List.map_nil, hx, hr]
    exact hK _ _ h
section
variable {w : World} {F : Nat → Prop} {g N : Nat} {lo : Nat → Nat} {sl : Nat → Sl} {X : Nat → List Mg}
set_option maxHeartbeats 1000000 in
theorem hdrop_no (g : Nat) (p : Int) (hp : ¬ (0 ≤ p ∧ p < 64)) (upto : Nat) (w : World) :
    Calls Try.prog 87 #[.pointer (some ⟨g, 0, none⟩), .int .i64 p, .int .u32 (upto : Int)] w fun e w' => e = .returned (.tuple #[]) ∧ w = w' := by
  have P := hproc_no p hp w
  clear hp
  go_enter Try.func87, Try.ntmps87
  go_wp2_with (go_at_call 119; refine P.mono ?_; rintro e w' ⟨rfl, rfl⟩)
  (try simp only [Exit.inBlock, Exit.then])
  exact bodyPost_ret (results_none rfl _ _ _) rfl ⟨rfl, rfl⟩
set_option maxHeartbeats 1000000 in
theorem hdrop_low (h : HAt w F g N lo sl X) (k : Nat) (hk : k < 64) (upto : Nat) (hu : upto ≤ lo k) :
    Calls Try.prog 87 #[.pointer (some ⟨g, 0, none⟩), .int .i64 (k : Int), .int .u32 (upto : Int)] w fun e w' => e = .returned (.tuple #[]) ∧ w = w' := by
  have P := hproc_yes k hk w
  have c := h.cl k hk
  have hz : upto ≤ lo k := hu
  have hkz : (k : Int) < 64 := by omega
  generalize lo k = l at *
  clear h hu
  go_enter Try.func87, Try.ntmps87
  go_wp2_with (go_at_call 119; refine P.mono ?_; rintro e w' ⟨rfl, rfl⟩)
  (try simp only [Exit.inBlock, Exit.then])
  exact bodyPost_ret (results_none rfl _ _ _) rfl ⟨rfl, rfl⟩
/-- What Drop leaves. -/
def DropOk (w : World) (F : Nat → Prop) (g N : Nat) (lo : Nat → Nat) (sl : Nat → Sl) (X : Nat → List Mg) (k m : Nat) (e : Ending) (w' : World) : Prop :=
  e = .returned (.tuple #[]) ∧ ∃ s', HAt w' F g N (updF lo k (lo k + m)) (updF sl k s') (updF X k ((X k).drop m)) ∧ Chg F w w'
set_option maxHeartbeats 8000000 in
set_option maxRecDepth 100000 in
theorem hdrop_ok (h : HAt w F g N lo sl X) (hN : N ≤ 1000) (k : Nat) (hk : k < 64) (upto : Nat) (hu : lo k < upto) (hu2 : upto < 4294967296) (m : Nat) (hm : m = min (upto - lo k) (X k).length) :
    Calls Try.prog 87 #[.pointer (some ⟨g, 0, none⟩), .int .i64 (k : Int), .int .u32 (upto : Int)] w (DropOk w F g N lo sl X k m) := by
  have P := hproc_yes k hk w
  have P2 : ∀ n', Calls Try.prog 120 #[.pointer (some ⟨g, 0, none⟩), .int .i64 (k : Int)] (w.drewN n') fun e w' => e = .returned (.int .u32 (cntF lo X k : Nat)) ∧ w.drewN n' = w' := fun n' => hcount_yes (h.below ((Grw.refl w).drewN n').below) hN k hk
  have hb := h.bnd k hk
  have hl := h.len k hk
  have hms : m ≤ (sl k).n := by omega
  have hmin : min (upto : Int) (cntF lo X k : Int) = (lo k : Int) + (m : Int) := by unfold cntF; omega
  have hmin2 : (if (cntF lo X k : Int) < (upto : Int) then (cntF lo X k : Int) else (upto : Int)) = (lo k : Int) + (m : Int) := by unfold cntF; split <;> omega
  have hc0 : cntF lo X k ≤ 1000 := by unfold cntF; omega
  have hlm : lo k + m ≤ 1000 := by omega
  have hz : ¬ upto ≤ lo k := by omega
  have hme : (lo k : Int) + (m : Int) - (lo k : Int) = (m : Int) := by omega
  have hkz : (k : Int) < 64 := by omega
  have c := h.cl k hk
  have HH := Lib.hid h
  have HMS := Lib.hid hms
  obtain ⟨l, hlk⟩ : ∃ l, l = lo k := ⟨_, rfl⟩
  rw [← hlk] at c hmin hmin2 hlm hz hme
  have HLK := Lib.hid hlk
  generalize cntF lo X k = cn at *
  clear h hu hm hb hl hms hlk
  go_enter Try.func87, Try.ntmps87
  go_upto_region 1 with (go_at_call 119; refine P.mono ?_; rintro e w' ⟨rfl, rfl⟩)
  go_quiet ((go_at_call 120; exact Calls.quiet_of_same ((P2 _).mono fun _ _ ⟨he, hw⟩ => ⟨he, hw.symm⟩)))
  clear P P2 hmin hmin2 hc0
  have HB1 := Lib.hid ((Grw.refl w).drewN nq).below
  have HA1 := Lib.hid (HH.out.below HB1.out)
  have hSl1 := HA1.out.slot k hk
  obtain ⟨sa, sn, sc, hsl⟩ : ∃ sa sn sc, sl k = ⟨sa, sn, sc⟩ := ⟨_, _, _, rfl⟩
  rw [hsl] at hSl1
  have hms : m ≤ sn := by have := HMS.out; rw [hsl] at this; exact this
  obtain ⟨W2, hr2, hW2, hs2, ho2, hSl2⟩ := run_clear_any hSl1 m hms
  have hgz : ∀ z, sa = some z → g ≠ z.block := fun z hz e => HA1.out.slot_ne k hk z (by rw [hsl]; exact hz) e.symm
  have c1 : (w.drewN nq).cell? ⟨g, 64 + k, none⟩ = some (.slice sa sn sc) := by have := HA1.out.cs k hk; rw [hsl] at this; exact this
  have c2 : W2.cell? ⟨g, 64 + k, none⟩ = some (.slice sa sn sc) := (World.cell?_of_block (a := ⟨g, 64 + k, none⟩) (hW2 g hgz)).trans c1
  have f2 : W2.frozen? ⟨g, 64 + k, none⟩ = false := (World.frozen?_of_block (a := ⟨g, 64 + k, none⟩) (hW2 g hgz)).trans (HA1.out.free _)
  have cl2 : W2.cell? ⟨g, k, none⟩ = some (.int .u32 (l : Int)) := (World.cell?_of_block (a := ⟨g, k, none⟩) (hW2 g hgz)).trans c
  have fl2 : W2.frozen? ⟨g, k, none⟩ = false := (World.frozen?_of_block (a := ⟨g, k, none⟩) (hW2 g hgz)).trans (HA1.out.free _)
  have hFIN := HA1.out.drop hk (m := m) (by rw [hsl]; exact hms) (W := W2) (fun j hj => hW2 j (fun z hz => hj z (by rw [hsl]; exact hz))) hs2 ho2 (by rw [hsl]; exact hSl2)
  rw [hsl] at hFIN
  have HFIN := Lib.hid hFIN
  have HSL1 := Lib.hid hSl1
  have HR2 := Lib.hid hr2
  have HMS2 := Lib.hid hms
  clear hFIN hSl1 hSl2 hW2 hs2 ho2 hgz HMS hms hr2 hsl
  generalize w.drewN nq = W1 at *
  go_upto_region 3 with (first | (refine step_to rfl (.tmp 37) (.tmp 38) rfl ⟨sa, sn, sc⟩ _ HSL1.out m .u32 rfl rfl HMS2.out ?_) | (refine step_clear rfl (.tmp 39) _ rfl _ _ rfl HR2.out ?_))
  clear c1 HSL1 HR2
  refine wp_region_held_drew (S := fun _ => True) (by kernel_rfl) trivial (fun hHeld => ?_)
  refine stake (i := 0) (v := (.pointer (some ⟨g, 0, none⟩))) 40 rfl (by kernel_rfl) (by kernel_rfl) (by kernel_rfl) (by kernel_rfl) (fun _ _ _ h => h) (.inl ⟨by kernel_rfl, fun w' hS => by (go_simp)⟩) hHeld ?_
  (try simp only [Act.put, List.setIfInBounds_toArray, List.set_cons_zero, List.set_cons_succ])
  refine stake (i := 1) (v := (.int .i64 (k : Int))) 41 rfl (by kernel_rfl) (by kernel_rfl) (by kernel_rfl) (by kernel_rfl) (fun _ _ _ h => h) (.inl ⟨by kernel_rfl, fun w' hS => by (go_simp)⟩) hHeld ?_
  (try simp only [Act.put, List.setIfInBounds_toArray, List.set_cons_zero, List.set_cons_succ])
  refine stake (i := 2) (v := (.pointer (some ⟨g, 0, none⟩))) 42 rfl (by kernel_rfl) (by kernel_rfl) (by kernel_rfl) (by kernel_rfl) (fun _ _ _ h => h) (.inl ⟨by kernel_rfl, fun w' hS => by (go_simp)⟩) hHeld ?_
  (try simp only [Act.put, List.setIfInBounds_toArray, List.set_cons_zero, List.set_cons_succ])
  refine stake (i := 3) (v := (.int .i64 (k : Int))) 43 rfl (by kernel_rfl) (by kernel_rfl) (by kernel_rfl) (by kernel_rfl) (fun _ _ _ h => h) (.inl ⟨by kernel_rfl, fun w' hS => by (go_simp)⟩) hHeld ?_
  (try simp only [Act.put, List.setIfInBounds_toArray, List.set_cons_zero, List.set_cons_succ])
  refine stake (i := 4) (v := (.pointer (some ⟨g, 0, none⟩))) 44 rfl (by kernel_rfl) (by kernel_rfl) (by kernel_rfl) (by kernel_rfl) (fun _ _ _ h => h) (.inl ⟨by kernel_rfl, fun w' hS => by (go_simp)⟩) hHeld ?_
  (try simp only [Act.put, List.setIfInBounds_toArray, List.set_cons_zero, List.set_cons_succ])
  refine stake (i := 5) (v := (.pointer (some ⟨g, 64, none⟩))) 45 rfl (by kernel_rfl) (by kernel_rfl) (by kernel_rfl) (by kernel_rfl) (fun _ _ _ h => h) (.inl ⟨by kernel_rfl, fun w' hS => by (go_simp)⟩) hHeld ?_
  (try simp only [Act.put, List.setIfInBounds_toArray, List.set_cons_zero, List.set_cons_succ])
  refine stake (i := 6) (v := (.pointer (some ⟨g, 64 + k, none⟩))) 46 rfl (by kernel_rfl) (by kernel_rfl) (by kernel_rfl) (by kernel_rfl) (fun _ _ _ h => h) (.inl ⟨by kernel_rfl, fun w' hS => by (go_simp)⟩) hHeld ?_
  (try simp only [Act.put, List.setIfInBounds_toArray, List.set_cons_zero, List.set_cons_succ])
  refine stake (i := 8) (v := (.int .u32 (m : Int))) 48 rfl (by kernel_rfl) (by kernel_rfl) (by kernel_rfl) (by kernel_rfl) (fun _ _ _ h => h) (.inl ⟨by kernel_rfl, fun w' hS => by (go_simp)⟩) hHeld ?_
  (try simp only [Act.put, List.setIfInBounds_toArray, List.set_cons_zero, List.set_cons_succ])
  refine stake (i := 10) (v := (.pointer (some ⟨g, 0, none⟩))) 50 rfl (by kernel_rfl) (by kernel_rfl) (by kernel_rfl) (by kernel_rfl) (fun _ _ _ h => h) (.inl ⟨by kernel_rfl, fun w' hS => by (go_simp)⟩) hHeld ?_
  (try simp only [Act.put, List.setIfInBounds_toArray, List.set_cons_zero, List.set_cons_succ])
  refine stake (i := 11) (v := (.pointer (some ⟨g, 64, none⟩))) 51 rfl (by kernel_rfl) (by kernel_rfl) (by kernel_rfl) (by kernel_rfl) (fun _ _ _ h => h) (.inl ⟨by kernel_rfl, fun w' hS => by (go_simp)⟩) hHeld ?_
  (try simp only [Act.put, List.setIfInBounds_toArray, List.set_cons_zero, List.set_cons_succ])
  refine wpAnyH_ready (rs := [7]) (by kernel_rfl) (by simp) (AllReadyH.cons rfl (fun K hK => ?_) AllReadyH.nil)
  clear hHeld
  rw [if_pos (by kernel_rfl)]
  go_simp
  refine hK.out _ _ trivial (fun hHeld => ?_)
  clear hK K
  (try simp only [Act.put, List.setIfInBounds_toArray, List.set_cons_zero, List.set_cons_succ])
  refine wpAnyH_ready (rs := [9]) (by kernel_rfl) (by simp) (AllReadyH.cons rfl (fun K hK => ?_) AllReadyH.nil)
  clear hHeld
  rw [if_pos (by kernel_rfl)]
  refine wp_from (.tmp 47) (.tmp 48) rfl ⟨sa, sn, sc⟩ m .u32 rfl rfl HMS2.out ?_
  refine hK.out _ _ trivial (fun hHeld => ?_)
  clear hK K
  (try simp only [Act.put, List.setIfInBounds_toArray, List.set_cons_zero, List.set_cons_succ])
  obtain ⟨pa, pn, pc, hp⟩ : ∃ pa pn pc, (⟨sa, sn, sc⟩ : Sl).from_ m = ⟨pa, pn, pc⟩ := ⟨_, _, _, rfl⟩
  rw [hp]
  have HP := Lib.hid hp
  clear hp
  simp only
  refine stake (i := 12) (v := (.pointer (some ⟨g, 64 + k, none⟩))) 52 rfl (by kernel_rfl) (by kernel_rfl) (by kernel_rfl) (by kernel_rfl) (fun _ _ _ h => h) (.inl ⟨by kernel_rfl, fun w' hS => by (go_simp)⟩) hHeld ?_
  (try simp only [Act.put, List.setIfInBounds_toArray, List.set_cons_zero, List.set_cons_succ])
  refine wpAnyH_ready (rs := [13]) (by kernel_rfl) (by simp) (AllReadyH.cons rfl (fun K hK => ?_) AllReadyH.nil)
  clear hHeld
  rw [if_pos (by kernel_rfl)]
  go_simp
  refine hK.out _ _ trivial (fun hHeld => ?_)
  clear hK K hHeld
  refine wpAnyH_done (by kernel_rfl) ?_ _
  have cl3 : (W2.setCell ⟨g, 64 + k, none⟩ (.slice pa pn pc)).cell? ⟨g, k, none⟩ = some (.int .u32 (l : Int)) := by
    rw [World.cell?_setCell_other _ _ _ _ (by intro e; injection e with _ e _; omega)]
    exact cl2
  have fl3 : (W2.setCell ⟨g, 64 + k, none⟩ (.slice pa pn pc)).frozen? ⟨g, k, none⟩ = false := by
    rw [World.frozen?_setCell]; exact fl2
  obtain ⟨W3, hW3⟩ : ∃ W3, W3 = W2.setCell ⟨g, 64 + k, none⟩ (.slice pa pn pc) := ⟨_, rfl⟩
  rw [← hW3] at cl3 fl3
  try rw [← hW3]
  have HW3 := Lib.hid hW3
  clear hW3 c2 f2 cl2 fl2 c
  go_upto_region 4 with fail
  have cl4 : W3.drew.cell? ⟨g, k, none⟩ = some (.int .u32 (l : Int)) := cl3
  have fl4 : W3.drew.frozen? ⟨g, k, none⟩ = false := fl3
  obtain ⟨W4, hW4⟩ : ∃ W4, W4 = W3.drew := ⟨_, rfl⟩
  rw [← hW4] at cl4 fl4 ⊢
  have HW4 := Lib.hid hW4
  clear hW4 cl3 fl3
  go_still_tail 11, (by kernel_rfl)
  go_wp2
  (try simp only [Exit.inBlock, Exit.then])
  refine bodyPost_end (results_none rfl _ _ _) rfl ?_
  have hF := HFIN.out
  rw [HP.out, ← HLK.out] at hF
  unfold Sl.v at hF
  simp only at hF
  rw [← HW3.out] at hF
  have h4 := HW4.out
  subst h4
  refine ⟨rfl, ⟨pa, pn, pc⟩, ?_, ?_⟩
  · rw [← HLK.out]
    exact hF.1.kept (Nat.le_refl _) fun _ _ => rfl
  · exact (Chg.after HB1.out hF.2).then ((Grw.refl _).drewN 2).below
end
end Go.Proofs.Ytfocjcdfpnbkjaa
