/- play: a promise, all reached. (Written by gen_oplay12.py.) -/
import Derived.Test.YtfocjcdfpnbkjaaZOrdRel2s
import Derived.Test.YtfocjcdfpnbkjaaZOrdOpens
import Derived.StillTailTactics
set_option linter.unusedVariables false
set_option maxRecDepth 100000
set_option linter.unusedSimpArgs false
namespace Go.Proofs.Ytfocjcdfpnbkjaa
open Go.RowKit Go.Sort Go.Shelf

section
variable {W wr : World} {E : Nat → Prop} {g N : Nat} {O : Od} {r : Ro} {L : List Mg} {T : List Td}
theorem PlM.cells (h : PlM W wr E g N O r L T) (b o : Nat) (vs : List Value) (hb : W.heap.size ≤ b) (hE : ¬ E b) (h1 : ∀ x, r.hs.a = some x → x.block ≠ b) (h2 : ∀ x, r.zs.a = some x → x.block ≠ b) : PlM W (wr.setCells b o vs) E g N O r L T := by
  have hs : (wr.setCells b o vs).heap.size = wr.heap.size := size_setCells12 _ _ _ _
  have hk : ∀ j, j < wr.heap.size → j ≠ b → (wr.setCells b o vs).heap[j]? = wr.heap[j]? := fun j hj hn => World.heap_setCells_other wr b o vs hj hn
  exact ⟨h.rep.kept (Nat.le_of_eq hs.symm) fun k hk2 => hk k (h.rep.lim k hk2) (fun e => hE (e ▸ hk2)), h.base, h.bel.grown (grownCells12 b vs o wr) h.bel.size (fun k e => by cases e; exact hb), ⟨h.v.hold.kept fun x hx => hk _ (h.v.hold.lt x hx) (h1 x hx), h.v.told.kept (Nat.le_of_eq hs.symm) fun x hx => hk _ (h.v.told.lt x hx) (h2 x hx), h.v.few, h.v.fewz⟩, h.nh, h.nz, h.deps, h.fewh, h.fewz⟩
theorem Chg.cells14 {D : Nat → Prop} {a w : World} (h : Chg D a w) (b o : Nat) (vs : List Value) (hb : a.heap.size ≤ b) : Chg D a (w.setCells b o vs) := by
  have hg := grownCells12 b vs o w
  exact ⟨hg.os.trans h.os, hg.tape.trans h.tape, hg.output.trans h.output, by rw [size_setCells12]; exact h.size, fun k hk hn => (World.heap_setCells_other w b o vs (Nat.lt_of_lt_of_le hk h.size) (by omega)).trans (h.block k hk hn)⟩
end
set_option maxHeartbeats 4000000 in
theorem play_1 {W wr : World} {E : Nat → Prop} {g N : Nat} {O : Od} {r : Ro} {L : List Mg} {T : List Td} (h : PlM W wr E g N O r L T) (hr : ORel O r L T) (hN : N ≤ 998) (a : OA) (ha : a.ok W) (hk : a.kind = 1) :
    Calls Try.prog 18 #[.pointer (some ⟨g, 0, none⟩), .agg r.cs.toArray, .agg (encO a).toArray] wr (PlaySaid W wr E g N) := by
  have F := PyB.first wr r a
  have h1 := h.later F.2
  have hok := step_okO hr.ok ha.n
  rw [stepO_1 hk] at hok
  have hz := ro_zero
  have HF := Lib.hid F
  have H1 := Lib.hid h1
  have HR := Lib.hid hr
  have HLIM := Lib.hid h.rep.lim
  have HROW := Lib.hid (And.intro h.v.hold.lt (And.intro h.v.told.lt h.bel.size))
  obtain ⟨gh, gz, FF, zs, hA⟩ := h1.rep.ex
  have HA := Lib.hid hA
  have p0 := ha.p0
  have p1 := ha.p1
  have q0 := ha.q
  have s0 := ha.s
  have c1 := hA.c1
  clear h h1 ha F hr hA
  obtain ⟨kind, p, ⟨f, q, s, v, da, dl, dc, deps, text⟩, seq, st⟩ := a
  simp only at hk p0 p1 q0 s0 hok
  subst hk
  have HOK := Lib.hid hok
  clear hok
  unfold encO
  go_enter Try.func18, Try.ntmps18
  go_upto_region 1 with fail
  change Hid (PyB (((wr.alloc (.cells r.cs.toArray 41)).alloc (.cells #[.int .i64 1, .int .i64 p, .int .i64 f, .int .u32 q, .int .u64 s, .int .i64 v, .slice da dl dc, .string text, .int .u32 (seq : Int), .int .u64 (st : Int)] 49)).alloc (.cells ro0.cs.toArray 41)) wr.heap.size r _ ∧ Below wr.heap.size wr (((wr.alloc (.cells r.cs.toArray 41)).alloc (.cells #[.int .i64 1, .int .i64 p, .int .i64 f, .int .u32 q, .int .u64 s, .int .i64 v, .slice da dl dc, .string text, .int .u32 (seq : Int), .int .u64 (st : Int)] 49)).alloc (.cells ro0.cs.toArray 41))) at HF
  change Hid (PlM W (((wr.alloc (.cells r.cs.toArray 41)).alloc (.cells #[.int .i64 1, .int .i64 p, .int .i64 f, .int .u32 q, .int .u64 s, .int .i64 v, .slice da dl dc, .string text, .int .u32 (seq : Int), .int .u64 (st : Int)] 49)).alloc (.cells ro0.cs.toArray 41)) E g N O r L T) at H1
  change Hid (OAt (((wr.alloc (.cells r.cs.toArray 41)).alloc (.cells #[.int .i64 1, .int .i64 p, .int .i64 f, .int .u32 q, .int .u64 s, .int .i64 v, .slice da dl dc, .string text, .int .u32 (seq : Int), .int .u64 (st : Int)] 49)).alloc (.cells ro0.cs.toArray 41)) E g gh gz N FF zs O) at HA
  change ((((wr.alloc (.cells r.cs.toArray 41)).alloc (.cells #[.int .i64 1, .int .i64 p, .int .i64 f, .int .u32 q, .int .u64 s, .int .i64 v, .slice da dl dc, .string text, .int .u32 (seq : Int), .int .u64 (st : Int)] 49)).alloc (.cells ro0.cs.toArray 41))).cell? ⟨g, 1, none⟩ = some (.pointer (some ⟨gz, 0, none⟩)) at c1
  generalize ((wr.alloc (.cells r.cs.toArray 41)).alloc (.cells #[.int .i64 1, .int .i64 p, .int .i64 f, .int .u32 q, .int .u64 s, .int .i64 v, .slice da dl dc, .string text, .int .u32 (seq : Int), .int .u64 (st : Int)] 49)).alloc (.cells ro0.cs.toArray 41) = V at *
  obtain ⟨e0, he0⟩ : ∃ e0, e0 = wr.heap.size := ⟨_, rfl⟩
  rw [← he0] at HF
  try rw [← he0]
  have HE0 := Lib.hid he0
  clear he0
  have d0 : V.cell? ⟨e0 + 1, 0, none⟩ = some (.int .i64 1) := Own.at_ HF.out.1.a 0 _ rfl
  have d1 : V.cell? ⟨e0 + 1, 1, none⟩ = some (.int .i64 p) := Own.at_ HF.out.1.a 1 _ rfl
  have d8 : V.cell? ⟨e0 + 1, 8, none⟩ = some (.int .u32 (seq : Int)) := Own.at_ HF.out.1.a 8 _ rfl
  have d9 : V.cell? ⟨e0 + 1, 9, none⟩ = some (.int .u64 (st : Int)) := Own.at_ HF.out.1.a 9 _ rfl
  go_upto_region 7 with fail
  go_still_tail 10, (by kernel_rfl)
  change wpList _ _ _ _ _ (V.drewN 1)
  have D1 := ((Grw.refl V).drewN 1).below
  have HA1 := HA.out.below D1
  have P := zprom HA1.hz (Nat.le_trans HA1.wt (by omega)) p p0 p1 st seq s0 q0
  have H1 := Lib.hid (H1.out.later D1)
  have HF := Lib.hid (And.intro (HF.out.1.later D1) (HF.out.2.trans (D1.mono (by have := HF.out.1.sz; omega))))
  have HA1 := Lib.hid HA1
  clear c1 d0 d1 d8 d9 D1
  generalize V.drewN 1 = V1 at *
  go_wp2_with fail
  with_reducible refine P.mono ?_
  rintro e w4 ⟨rfl, k2⟩
  have HK := HA1.out.seen k2 (Nat.le_succ N) (Nat.le_trans (prom_wait _ _ _ _) (Nat.succ_le_succ HA1.out.wt))
  have H2 := Lib.hid (H1.out.prog (Nat.le_succ N) HK.1 HK.2)
  have HEL : Hid (∀ j, E j → j < e0) := Lib.hid fun j hj => by have := HLIM.out j hj; have := HE0.out; omega
  have B2 := Lib.hid (HF.out.1.chg HK.2 fun j hj => .inl (HEL.out j hj))
  have C2 := Lib.hid (Chg.after (by have := HF.out.2; rw [HE0.out] at this; exact this) HK.2)
  have HNF : Hid (∀ j, newF E V1 w4 j → j < e0 ∨ e0 + 3 ≤ j) := Lib.hid fun j hj => by
    rcases hj with e | e
    · exact .inl (HEL.out j e)
    · have := HF.out.1.sz; have := e.1; exact .inr (by omega)
  have HSZ : Hid (e0 + 3 ≤ w4.heap.size) := Lib.hid (Nat.le_trans HF.out.1.sz HK.2.size)
  have HE2 : Hid (∀ k, newF E V1 w4 k → E k ∨ (wr.heap.size ≤ k ∧ k < w4.heap.size)) := Lib.hid fun k hk => by
    rcases hk with e | e
    · exact .inl e
    · have := HF.out.2.size; have := HE0.out; exact .inr ⟨by omega, e.2⟩
  clear P k2 HK HA1 HA
  generalize newF E V1 w4 = E2 at *
  have d1 : w4.cell? ⟨e0 + 1, 1, none⟩ = some (.int .i64 p) := Own.at_ B2.out.a 1 _ rfl
  have d8 : w4.cell? ⟨e0 + 1, 8, none⟩ = some (.int .u32 (seq : Int)) := Own.at_ B2.out.a 8 _ rfl
  have d9 : w4.cell? ⟨e0 + 1, 9, none⟩ = some (.int .u64 (st : Int)) := Own.at_ B2.out.a 9 _ rfl
  have PK := rz_tell r.clk r.oth r.zs T w4 H2.out.v.told H2.out.v.fewz ⟨1, p, seq, st⟩
  obtain ⟨ck, hck⟩ : ∃ ck, ck = (if mem r.oth p then tellClk r.clk ⟨1, p, seq, st⟩ else r.clk) := ⟨_, rfl⟩
  obtain ⟨TT, hTT⟩ : ∃ TT, TT = (if mem r.oth p then T ++ [(⟨1, p, seq, st⟩ : Td)] else T) := ⟨_, rfl⟩
  have HTL : Hid (TT.length ≤ T.length + 1) := Lib.hid (by rw [hTT]; split <;> simp)
  have HREL : Hid (∀ u, ORel (promO O p st seq) { r with zs := u, clk := ck } L TT) := Lib.hid fun u => by
    rw [hck, hTT]
    have := HR.out.prom p st seq q0 s0 HOK.out u
    exact this
  simp only at PK
  rw [← hck, ← hTT] at PK
  clear hck hTT
  go_wp2_with (first | (refine load_hz rfl (.tmp 51) rfl e0 r rfl B2.out.e ?_) | fail)
  with_reducible refine PK.mono ?_
  rintro e w5 hs
  obtain ⟨u, rfl, hT5, hB5, hN5⟩ := hs
  have hTl : TT.length = u.n := hT5.lst.size
  have ht0 : T.length = r.zs.n := H2.out.v.told.lst.size
  have hu1 : u.n ≤ N + 1 := by have := HTL.out; have := H1.out.fewz; omega
  have H5 := Lib.hid (H2.out.doc (M := N + 1) (r' := { r with zs := u, clk := ck }) (L' := L) (T' := TT) (Nat.le_refl _) hB5 ⟨H2.out.v.hold.below hB5, hT5, H2.out.v.few, by show u.n ≤ 1000; omega⟩ ⟨.inl rfl, hN5⟩ H2.out.deps (Nat.le_succ_of_le H1.out.fewh) hu1)
  have B5 := Lib.hid (B2.out.later hB5)
  have C5 := Lib.hid (C2.out.then hB5)
  have HR5 : Hid ((∀ x, r.hs.a = some x → x.block < e0) ∧ (∀ x, u.a = some x → x.block < e0 ∨ e0 + 3 ≤ x.block)) := Lib.hid (by
    have h1 := HSZ.out
    have h2 := HE0.out
    refine ⟨fun x hx => by have := HROW.out.1 x hx; omega, fun x hx => ?_⟩
    rcases hN5 with e | e
    · rw [e] at hx; have := HROW.out.2.1 x hx; exact .inl (by omega)
    · have := e x hx; exact .inr (by omega))
  have HS5 : Hid (w4.heap.size ≤ w5.heap.size) := Lib.hid hB5.size
  clear PK hT5 hB5 hN5 hTl ht0 hu1 d1 d8 d9
  have hnE : ¬ E2 (e0 + 2) := fun e => by have := HNF.out _ e; omega
  have hnE0 : ¬ E2 e0 := fun e => by have := HNF.out _ e; omega
  have hws : W.heap.size ≤ e0 := by have := HROW.out.2.2; have := HE0.out; omega
  have H6 := Lib.hid (H5.out.cells e0 67 (rzC ck r.oth u) hws hnE0 (fun x hx => by have := HR5.out.1 x hx; omega) (fun x hx => by have := HR5.out.2 x hx; omega))
  have E6 := Lib.hid (B5.out.e.setZ ck r.oth u)
  have Z6 : Hid (RoB (w5.setCells e0 67 (rzC ck r.oth u)) (e0 + 2) ro0) := Lib.hid (B5.out.z.kept (World.heap_setCells_other w5 e0 67 _ B5.out.z.lt (by omega)))
  have C6 := Lib.hid (C5.out.cells14 e0 67 (rzC ck r.oth u) (by have := HE0.out; omega))
  have HS6 : Hid (w4.heap.size ≤ (w5.setCells e0 67 (rzC ck r.oth u)).heap.size) := Lib.hid (by rw [size_setCells12]; exact HS5.out)
  clear H5 C5
  go_upto_region 23 with (first | (refine store_hz rfl (.tmp 61) (.tmp 60) rfl e0 r ck r.oth u rfl rfl B5.out.e ?_) | fail)
  generalize w5.setCells e0 67 (rzC ck r.oth u) = w6 at *
  clear B5
  have H7 := Lib.hid (H6.out.box (e0 + 2) ({ r with zs := u, clk := ck } : Ro).cs.toArray (by omega) hnE (fun x hx => by have := HR5.out.1 x hx; omega) (fun x hx => by have := HR5.out.2 x hx; omega))
  have C7 := Lib.hid (C6.out.row14 (e0 + 2) ({ r with zs := u, clk := ck } : Ro).cs.toArray (by have := HE0.out; omega))
  clear hnE hnE0 hws
  go_wp2_with (first | (refine load_ro rfl (.tmp 4) rfl e0 { r with zs := u, clk := ck } rfl E6.out ?_) | (refine store_ro rfl (.tmp 6) (.tmp 131) rfl (e0 + 2) { r with zs := u, clk := ck } rfl rfl Z6.out ?_))
  (try simp only [Exit.inBlock, Exit.then])
  exact bodyPost_ret (v := .tuple #[.agg ({ r with zs := u, clk := ck } : Ro).cs.toArray, .bool true]) (results_ro2 (p := 6) (u := 7) rfl _ _ (e0 + 2) rfl (Z6.out.row { r with zs := u, clk := ck })) rfl ⟨E2, _, _, L, TT, rfl, H7.out, HREL.out u, C7.out, fun k hk => by
    rcases HE2.out k hk with e | e
    · exact .inl e
    · exact .inr ⟨e.1, by rw [size_setRow]; have := HS6.out; omega⟩⟩
set_option maxHeartbeats 4000000 in
theorem play_2 {W wr : World} {E : Nat → Prop} {g N : Nat} {O : Od} {r : Ro} {L : List Mg} {T : List Td} (h : PlM W wr E g N O r L T) (hr : ORel O r L T) (hN : N ≤ 998) (a : OA) (ha : a.ok W) (hk : a.kind = 2) :
    Calls Try.prog 18 #[.pointer (some ⟨g, 0, none⟩), .agg r.cs.toArray, .agg (encO a).toArray] wr (PlaySaid W wr E g N) := by
  have F := PyB.first wr r a
  have h1 := h.later F.2
  have hok := step_okO hr.ok ha.n
  rw [stepO_2 hk] at hok
  have hz := ro_zero
  have HF := Lib.hid F
  have H1 := Lib.hid h1
  have HR := Lib.hid hr
  have HLIM := Lib.hid h.rep.lim
  have HROW := Lib.hid (And.intro h.v.hold.lt (And.intro h.v.told.lt h.bel.size))
  obtain ⟨gh, gz, FF, zs, hA⟩ := h1.rep.ex
  have HA := Lib.hid hA
  have p0 := ha.p0
  have p1 := ha.p1
  have q0 := ha.q
  have s0 := ha.s
  have c1 := hA.c1
  clear h h1 ha F hr hA
  obtain ⟨kind, p, ⟨f, q, s, v, da, dl, dc, deps, text⟩, seq, st⟩ := a
  simp only at hk p0 p1 q0 s0 hok
  subst hk
  have HOK := Lib.hid hok
  clear hok
  unfold encO
  go_enter Try.func18, Try.ntmps18
  go_upto_region 1 with fail
  change Hid (PyB (((wr.alloc (.cells r.cs.toArray 41)).alloc (.cells #[.int .i64 2, .int .i64 p, .int .i64 f, .int .u32 q, .int .u64 s, .int .i64 v, .slice da dl dc, .string text, .int .u32 (seq : Int), .int .u64 (st : Int)] 49)).alloc (.cells ro0.cs.toArray 41)) wr.heap.size r _ ∧ Below wr.heap.size wr (((wr.alloc (.cells r.cs.toArray 41)).alloc (.cells #[.int .i64 2, .int .i64 p, .int .i64 f, .int .u32 q, .int .u64 s, .int .i64 v, .slice da dl dc, .string text, .int .u32 (seq : Int), .int .u64 (st : Int)] 49)).alloc (.cells ro0.cs.toArray 41))) at HF
  change Hid (PlM W (((wr.alloc (.cells r.cs.toArray 41)).alloc (.cells #[.int .i64 2, .int .i64 p, .int .i64 f, .int .u32 q, .int .u64 s, .int .i64 v, .slice da dl dc, .string text, .int .u32 (seq : Int), .int .u64 (st : Int)] 49)).alloc (.cells ro0.cs.toArray 41)) E g N O r L T) at H1
  change Hid (OAt (((wr.alloc (.cells r.cs.toArray 41)).alloc (.cells #[.int .i64 2, .int .i64 p, .int .i64 f, .int .u32 q, .int .u64 s, .int .i64 v, .slice da dl dc, .string text, .int .u32 (seq : Int), .int .u64 (st : Int)] 49)).alloc (.cells ro0.cs.toArray 41)) E g gh gz N FF zs O) at HA
  change ((((wr.alloc (.cells r.cs.toArray 41)).alloc (.cells #[.int .i64 2, .int .i64 p, .int .i64 f, .int .u32 q, .int .u64 s, .int .i64 v, .slice da dl dc, .string text, .int .u32 (seq : Int), .int .u64 (st : Int)] 49)).alloc (.cells ro0.cs.toArray 41))).cell? ⟨g, 1, none⟩ = some (.pointer (some ⟨gz, 0, none⟩)) at c1
  generalize ((wr.alloc (.cells r.cs.toArray 41)).alloc (.cells #[.int .i64 2, .int .i64 p, .int .i64 f, .int .u32 q, .int .u64 s, .int .i64 v, .slice da dl dc, .string text, .int .u32 (seq : Int), .int .u64 (st : Int)] 49)).alloc (.cells ro0.cs.toArray 41) = V at *
  obtain ⟨e0, he0⟩ : ∃ e0, e0 = wr.heap.size := ⟨_, rfl⟩
  rw [← he0] at HF
  try rw [← he0]
  have HE0 := Lib.hid he0
  clear he0
  have d0 : V.cell? ⟨e0 + 1, 0, none⟩ = some (.int .i64 2) := Own.at_ HF.out.1.a 0 _ rfl
  have d1 : V.cell? ⟨e0 + 1, 1, none⟩ = some (.int .i64 p) := Own.at_ HF.out.1.a 1 _ rfl
  have d8 : V.cell? ⟨e0 + 1, 8, none⟩ = some (.int .u32 (seq : Int)) := Own.at_ HF.out.1.a 8 _ rfl
  have d9 : V.cell? ⟨e0 + 1, 9, none⟩ = some (.int .u64 (st : Int)) := Own.at_ HF.out.1.a 9 _ rfl
  go_upto_region 10 with fail
  go_still_tail 8, (by kernel_rfl)
  change wpList _ _ _ _ _ (V.drewN 1)
  have D1 := ((Grw.refl V).drewN 1).below
  have HA1 := HA.out.below D1
  have P := zreached HA1.hz p p0 p1 st s0
  have H1 := Lib.hid (H1.out.later D1)
  have HF := Lib.hid (And.intro (HF.out.1.later D1) (HF.out.2.trans (D1.mono (by have := HF.out.1.sz; omega))))
  have HA1 := Lib.hid HA1
  clear c1 d0 d1 d8 d9 D1
  generalize V.drewN 1 = V1 at *
  go_wp2_with fail
  with_reducible refine P.mono ?_
  rintro e w4 ⟨rfl, k2, k3⟩
  have HK := HA1.out.seen (Gone13.mk' k2 k3) (Nat.le_succ N) (Nat.le_trans (reach_wait _ _ _) (Nat.succ_le_succ HA1.out.wt))
  have H2 := Lib.hid (H1.out.prog (Nat.le_succ N) HK.1 HK.2)
  have HEL : Hid (∀ j, E j → j < e0) := Lib.hid fun j hj => by have := HLIM.out j hj; have := HE0.out; omega
  have B2 := Lib.hid (HF.out.1.chg HK.2 fun j hj => .inl (HEL.out j hj))
  have C2 := Lib.hid (Chg.after (by have := HF.out.2; rw [HE0.out] at this; exact this) HK.2)
  have HNF : Hid (∀ j, newF E V1 w4 j → j < e0 ∨ e0 + 3 ≤ j) := Lib.hid fun j hj => by
    rcases hj with e | e
    · exact .inl (HEL.out j e)
    · have := HF.out.1.sz; have := e.1; exact .inr (by omega)
  have HSZ : Hid (e0 + 3 ≤ w4.heap.size) := Lib.hid (Nat.le_trans HF.out.1.sz HK.2.size)
  have HE2 : Hid (∀ k, newF E V1 w4 k → E k ∨ (wr.heap.size ≤ k ∧ k < w4.heap.size)) := Lib.hid fun k hk => by
    rcases hk with e | e
    · exact .inl e
    · have := HF.out.2.size; have := HE0.out; exact .inr ⟨by omega, e.2⟩
  clear P k2 k3 HK HA1 HA
  generalize newF E V1 w4 = E2 at *
  have d1 : w4.cell? ⟨e0 + 1, 1, none⟩ = some (.int .i64 p) := Own.at_ B2.out.a 1 _ rfl
  have d8 : w4.cell? ⟨e0 + 1, 8, none⟩ = some (.int .u32 (seq : Int)) := Own.at_ B2.out.a 8 _ rfl
  have d9 : w4.cell? ⟨e0 + 1, 9, none⟩ = some (.int .u64 (st : Int)) := Own.at_ B2.out.a 9 _ rfl
  have PK := rz_tell r.clk r.oth r.zs T w4 H2.out.v.told H2.out.v.fewz ⟨2, p, 0, st⟩
  obtain ⟨ck, hck⟩ : ∃ ck, ck = (if mem r.oth p then tellClk r.clk ⟨2, p, 0, st⟩ else r.clk) := ⟨_, rfl⟩
  obtain ⟨TT, hTT⟩ : ∃ TT, TT = (if mem r.oth p then T ++ [(⟨2, p, 0, st⟩ : Td)] else T) := ⟨_, rfl⟩
  have HTL : Hid (TT.length ≤ T.length + 1) := Lib.hid (by rw [hTT]; split <;> simp)
  have HREL : Hid (∀ u, ORel (reachO O p st) { r with zs := u, clk := ck } L TT) := Lib.hid fun u => by
    rw [hck, hTT]
    have := HR.out.reach p st s0 HOK.out u
    rw [show (if mem r.oth p then tellClk r.clk ⟨2, p, 0, st⟩ else r.clk) = r.clk by simp [tellClk]]; exact this
  simp only at PK
  rw [← hck, ← hTT] at PK
  rw [show ((0 : Nat) : Int) = 0 from rfl] at PK
  clear hck hTT
  go_wp2_with (first | (refine load_hz rfl (.tmp 73) rfl e0 r rfl B2.out.e ?_) | fail)
  with_reducible refine PK.mono ?_
  rintro e w5 hs
  obtain ⟨u, rfl, hT5, hB5, hN5⟩ := hs
  have hTl : TT.length = u.n := hT5.lst.size
  have ht0 : T.length = r.zs.n := H2.out.v.told.lst.size
  have hu1 : u.n ≤ N + 1 := by have := HTL.out; have := H1.out.fewz; omega
  have H5 := Lib.hid (H2.out.doc (M := N + 1) (r' := { r with zs := u, clk := ck }) (L' := L) (T' := TT) (Nat.le_refl _) hB5 ⟨H2.out.v.hold.below hB5, hT5, H2.out.v.few, by show u.n ≤ 1000; omega⟩ ⟨.inl rfl, hN5⟩ H2.out.deps (Nat.le_succ_of_le H1.out.fewh) hu1)
  have B5 := Lib.hid (B2.out.later hB5)
  have C5 := Lib.hid (C2.out.then hB5)
  have HR5 : Hid ((∀ x, r.hs.a = some x → x.block < e0) ∧ (∀ x, u.a = some x → x.block < e0 ∨ e0 + 3 ≤ x.block)) := Lib.hid (by
    have h1 := HSZ.out
    have h2 := HE0.out
    refine ⟨fun x hx => by have := HROW.out.1 x hx; omega, fun x hx => ?_⟩
    rcases hN5 with e | e
    · rw [e] at hx; have := HROW.out.2.1 x hx; exact .inl (by omega)
    · have := e x hx; exact .inr (by omega))
  have HS5 : Hid (w4.heap.size ≤ w5.heap.size) := Lib.hid hB5.size
  clear PK hT5 hB5 hN5 hTl ht0 hu1 d1 d8 d9
  have hnE : ¬ E2 (e0 + 2) := fun e => by have := HNF.out _ e; omega
  have hnE0 : ¬ E2 e0 := fun e => by have := HNF.out _ e; omega
  have hws : W.heap.size ≤ e0 := by have := HROW.out.2.2; have := HE0.out; omega
  have H6 := Lib.hid (H5.out.cells e0 67 (rzC ck r.oth u) hws hnE0 (fun x hx => by have := HR5.out.1 x hx; omega) (fun x hx => by have := HR5.out.2 x hx; omega))
  have E6 := Lib.hid (B5.out.e.setZ ck r.oth u)
  have Z6 : Hid (RoB (w5.setCells e0 67 (rzC ck r.oth u)) (e0 + 2) ro0) := Lib.hid (B5.out.z.kept (World.heap_setCells_other w5 e0 67 _ B5.out.z.lt (by omega)))
  have C6 := Lib.hid (C5.out.cells14 e0 67 (rzC ck r.oth u) (by have := HE0.out; omega))
  have HS6 : Hid (w4.heap.size ≤ (w5.setCells e0 67 (rzC ck r.oth u)).heap.size) := Lib.hid (by rw [size_setCells12]; exact HS5.out)
  clear H5 C5
  go_upto_region 23 with (first | (refine store_hz rfl (.tmp 81) (.tmp 80) rfl e0 r ck r.oth u rfl rfl B5.out.e ?_) | fail)
  generalize w5.setCells e0 67 (rzC ck r.oth u) = w6 at *
  clear B5
  have H7 := Lib.hid (H6.out.box (e0 + 2) ({ r with zs := u, clk := ck } : Ro).cs.toArray (by omega) hnE (fun x hx => by have := HR5.out.1 x hx; omega) (fun x hx => by have := HR5.out.2 x hx; omega))
  have C7 := Lib.hid (C6.out.row14 (e0 + 2) ({ r with zs := u, clk := ck } : Ro).cs.toArray (by have := HE0.out; omega))
  clear hnE hnE0 hws
  go_wp2_with (first | (refine load_ro rfl (.tmp 4) rfl e0 { r with zs := u, clk := ck } rfl E6.out ?_) | (refine store_ro rfl (.tmp 6) (.tmp 131) rfl (e0 + 2) { r with zs := u, clk := ck } rfl rfl Z6.out ?_))
  (try simp only [Exit.inBlock, Exit.then])
  exact bodyPost_ret (v := .tuple #[.agg ({ r with zs := u, clk := ck } : Ro).cs.toArray, .bool true]) (results_ro2 (p := 6) (u := 7) rfl _ _ (e0 + 2) rfl (Z6.out.row { r with zs := u, clk := ck })) rfl ⟨E2, _, _, L, TT, rfl, H7.out, HREL.out u, C7.out, fun k hk => by
    rcases HE2.out k hk with e | e
    · exact .inl e
    · exact .inr ⟨e.1, by rw [size_setRow]; have := HS6.out; omega⟩⟩
end Go.Proofs.Ytfocjcdfpnbkjaa

/- play: any other act. (Written by gen_oplay5.py.) -/
set_option linter.unusedVariables false
set_option maxRecDepth 100000
set_option linter.unusedSimpArgs false
namespace Go.Proofs.Ytfocjcdfpnbkjaa
open Go.RowKit Go.Sort Go.Shelf

set_option maxHeartbeats 4000000 in
theorem play_x {W wr : World} {E : Nat → Prop} {g N : Nat} {O : Od} {r : Ro} {L : List Mg} {T : List Td} (h : PlM W wr E g N O r L T) (hr : ORel O r L T) (hN : N ≤ 998) (a : OA) (ha : a.ok W) (hk : a.kind < 0 ∨ 5 < a.kind) :
    Calls Try.prog 18 #[.pointer (some ⟨g, 0, none⟩), .agg r.cs.toArray, .agg (encO a).toArray] wr (PlaySaid W wr E g N) := by
  have F := PyB.first wr r a
  have h1 := h.later F.2
  have hz := ro_zero
  have HF := Lib.hid F
  have H1 := Lib.hid h1
  have HR := Lib.hid hr
  have HLIM := Lib.hid h.rep.lim
  have HROW := Lib.hid (And.intro h.v.hold.lt (And.intro h.v.told.lt h.bel.size))
  have p0 := ha.p0
  have p1 := ha.p1
  have q0 := ha.q
  clear h h1 ha F hr
  obtain ⟨kind, p, ⟨f, q, s, v, da, dl, dc, deps, text⟩, seq, st⟩ := a
  simp only at hk p0 p1 q0
  have k0 : ¬ kind = 0 := by omega
  have k1 : ¬ kind = 1 := by omega
  have k2 : ¬ kind = 2 := by omega
  have k3 : ¬ kind = 3 := by omega
  have k4 : ¬ kind = 4 := by omega
  have k5 : ¬ kind = 5 := by omega
  clear hk
  unfold encO
  go_enter Try.func18, Try.ntmps18
  go_upto_region 1 with fail
  change Hid (PyB (((wr.alloc (.cells r.cs.toArray 41)).alloc (.cells #[.int .i64 kind, .int .i64 p, .int .i64 f, .int .u32 q, .int .u64 s, .int .i64 v, .slice da dl dc, .string text, .int .u32 (seq : Int), .int .u64 (st : Int)] 49)).alloc (.cells ro0.cs.toArray 41)) wr.heap.size r _ ∧ Below wr.heap.size wr (((wr.alloc (.cells r.cs.toArray 41)).alloc (.cells #[.int .i64 kind, .int .i64 p, .int .i64 f, .int .u32 q, .int .u64 s, .int .i64 v, .slice da dl dc, .string text, .int .u32 (seq : Int), .int .u64 (st : Int)] 49)).alloc (.cells ro0.cs.toArray 41))) at HF
  change Hid (PlM W (((wr.alloc (.cells r.cs.toArray 41)).alloc (.cells #[.int .i64 kind, .int .i64 p, .int .i64 f, .int .u32 q, .int .u64 s, .int .i64 v, .slice da dl dc, .string text, .int .u32 (seq : Int), .int .u64 (st : Int)] 49)).alloc (.cells ro0.cs.toArray 41)) E g N O r L T) at H1
  generalize ((wr.alloc (.cells r.cs.toArray 41)).alloc (.cells #[.int .i64 kind, .int .i64 p, .int .i64 f, .int .u32 q, .int .u64 s, .int .i64 v, .slice da dl dc, .string text, .int .u32 (seq : Int), .int .u64 (st : Int)] 49)).alloc (.cells ro0.cs.toArray 41) = V at *
  obtain ⟨e0, he0⟩ : ∃ e0, e0 = wr.heap.size := ⟨_, rfl⟩
  rw [← he0] at HF
  try rw [← he0]
  have HE0 := Lib.hid he0
  clear he0
  have HEL : Hid (∀ j, E j → j < e0) := Lib.hid fun j hj => by have := HLIM.out j hj; have := HE0.out; omega
  have d0 : V.cell? ⟨e0 + 1, 0, none⟩ = some (.int .i64 kind) := Own.at_ HF.out.1.a 0 _ rfl
  have d1 : V.cell? ⟨e0 + 1, 1, none⟩ = some (.int .i64 p) := Own.at_ HF.out.1.a 1 _ rfl
  have d8 : V.cell? ⟨e0 + 1, 8, none⟩ = some (.int .u32 (seq : Int)) := Own.at_ HF.out.1.a 8 _ rfl
  have hnE : ¬ E (e0 + 2) := fun e => by have := HEL.out _ e; omega
  have hws : W.heap.size ≤ e0 := by have := HROW.out.2.2; have := HE0.out; omega
  have H7 := Lib.hid ((H1.out.le (Nat.le_succ N)).box (e0 + 2) r.cs.toArray (by omega) hnE (fun x hx => by have := HROW.out.1 x hx; have := HE0.out; omega) (fun x hx => by have := HROW.out.2.1 x hx; have := HE0.out; omega))
  have B7 : Below wr.heap.size wr V := by have := HF.out.2; rw [HE0.out] at this; exact this
  have C7 := Lib.hid ((Chg.of_below (D := E) B7).row14 (e0 + 2) r.cs.toArray (by have := HE0.out; omega))
  clear hnE hws B7
  go_wp2_with (first | (refine load_ro rfl (.tmp 4) rfl e0 r rfl HF.out.1.e ?_) | (refine store_ro rfl (.tmp 6) (.tmp 131) rfl (e0 + 2) r rfl rfl HF.out.1.z ?_))
  (try simp only [Exit.inBlock, Exit.then])
  exact bodyPost_ret (v := .tuple #[.agg r.cs.toArray, .bool true]) (results_ro2 (p := 6) (u := 7) rfl _ _ (e0 + 2) rfl (HF.out.1.z.row r)) rfl ⟨E, O, r, L, T, rfl, H7.out, HR.out, C7.out, fun k hk => .inl hk⟩
set_option maxHeartbeats 4000000 in
theorem play_5 {W wr : World} {E : Nat → Prop} {g N : Nat} {O : Od} {r : Ro} {L : List Mg} {T : List Td} (h : PlM W wr E g N O r L T) (hr : ORel O r L T) (hN : N ≤ 998) (a : OA) (ha : a.ok W) (hk : a.kind = 5) :
    Calls Try.prog 18 #[.pointer (some ⟨g, 0, none⟩), .agg r.cs.toArray, .agg (encO a).toArray] wr (PlaySaid W wr E g N) := by
  have F := PyB.first wr r a
  have h1 := h.later F.2
  have hz := ro_zero
  have HF := Lib.hid F
  have H1 := Lib.hid h1
  have HR := Lib.hid hr
  have HLIM := Lib.hid h.rep.lim
  have HROW := Lib.hid (And.intro h.v.hold.lt (And.intro h.v.told.lt h.bel.size))
  have p0 := ha.p0
  have p1 := ha.p1
  have q0 := ha.q
  clear h h1 ha F hr
  obtain ⟨kind, p, ⟨f, q, s, v, da, dl, dc, deps, text⟩, seq, st⟩ := a
  simp only at hk p0 p1 q0
  subst hk
  unfold encO
  go_enter Try.func18, Try.ntmps18
  go_upto_region 1 with fail
  change Hid (PyB (((wr.alloc (.cells r.cs.toArray 41)).alloc (.cells #[.int .i64 5, .int .i64 p, .int .i64 f, .int .u32 q, .int .u64 s, .int .i64 v, .slice da dl dc, .string text, .int .u32 (seq : Int), .int .u64 (st : Int)] 49)).alloc (.cells ro0.cs.toArray 41)) wr.heap.size r _ ∧ Below wr.heap.size wr (((wr.alloc (.cells r.cs.toArray 41)).alloc (.cells #[.int .i64 5, .int .i64 p, .int .i64 f, .int .u32 q, .int .u64 s, .int .i64 v, .slice da dl dc, .string text, .int .u32 (seq : Int), .int .u64 (st : Int)] 49)).alloc (.cells ro0.cs.toArray 41))) at HF
  change Hid (PlM W (((wr.alloc (.cells r.cs.toArray 41)).alloc (.cells #[.int .i64 5, .int .i64 p, .int .i64 f, .int .u32 q, .int .u64 s, .int .i64 v, .slice da dl dc, .string text, .int .u32 (seq : Int), .int .u64 (st : Int)] 49)).alloc (.cells ro0.cs.toArray 41)) E g N O r L T) at H1
  generalize ((wr.alloc (.cells r.cs.toArray 41)).alloc (.cells #[.int .i64 5, .int .i64 p, .int .i64 f, .int .u32 q, .int .u64 s, .int .i64 v, .slice da dl dc, .string text, .int .u32 (seq : Int), .int .u64 (st : Int)] 49)).alloc (.cells ro0.cs.toArray 41) = V at *
  obtain ⟨e0, he0⟩ : ∃ e0, e0 = wr.heap.size := ⟨_, rfl⟩
  rw [← he0] at HF
  try rw [← he0]
  have HE0 := Lib.hid he0
  clear he0
  have HEL : Hid (∀ j, E j → j < e0) := Lib.hid fun j hj => by have := HLIM.out j hj; have := HE0.out; omega
  have d0 : V.cell? ⟨e0 + 1, 0, none⟩ = some (.int .i64 5) := Own.at_ HF.out.1.a 0 _ rfl
  have d1 : V.cell? ⟨e0 + 1, 1, none⟩ = some (.int .i64 p) := Own.at_ HF.out.1.a 1 _ rfl
  have d8 : V.cell? ⟨e0 + 1, 8, none⟩ = some (.int .u32 (seq : Int)) := Own.at_ HF.out.1.a 8 _ rfl
  have PT := otrim H1.out.rep (by omega) p p0 p1 seq q0
  have D1 := Lib.hid (And.intro d1 d8)
  go_wp2_with fail
  with_reducible refine PT.mono ?_
  rintro e w4 hs
  obtain ⟨rfl, k2, k3⟩ := hs
  have H2 := Lib.hid (H1.out.prog (Nat.le_refl N) k2 k3)
  have B2 := Lib.hid (HF.out.1.chg k3 fun j hj => .inl (HEL.out j hj))
  have C2 := Lib.hid (Chg.after (by have := HF.out.2; rw [HE0.out] at this; exact this) k3)
  have HNF : Hid (∀ j, newF E V w4 j → j < e0 ∨ e0 + 3 ≤ j) := Lib.hid fun j hj => by
    rcases hj with e | e
    · exact .inl (HEL.out j e)
    · have := HF.out.1.sz; have := e.1; exact .inr (by omega)
  have HE2 : Hid (∀ k, newF E V w4 k → E k ∨ (wr.heap.size ≤ k ∧ k < w4.heap.size)) := Lib.hid fun k hk => by
    rcases hk with e | e
    · exact .inl e
    · have := HF.out.2.size; have := HE0.out; exact .inr ⟨by omega, e.2⟩
  clear PT k2 k3 d0 d1 d8 D1
  generalize newF E V w4 = E2 at *
  have d1 : w4.cell? ⟨e0 + 1, 1, none⟩ = some (.int .i64 p) := Own.at_ B2.out.a 1 _ rfl
  have d8 : w4.cell? ⟨e0 + 1, 8, none⟩ = some (.int .u32 (seq : Int)) := Own.at_ B2.out.a 8 _ rfl
  have PK := ro_trim r L T w4 H2.out.v p seq q0 (fun k hk => by have := HR.out.dnb H2.out.len k hk; omega)
  have HRL := Lib.hid (HR.out.trim p seq)
  obtain ⟨r5, hr5⟩ : ∃ r5, r5 = trimR r L p seq := ⟨_, rfl⟩
  have HRW := Lib.hid (trimR_rows r L p seq)
  rw [← hr5] at PK HRL HRW
  clear hr5
  go_wp2_with (first | (refine load_ro rfl (.tmp 4) rfl e0 r rfl B2.out.e ?_) | fail)
  with_reducible refine PK.mono ?_
  rintro e w5 ⟨rfl, hB5⟩
  have hV5 : RoV w5 r5 L T := by
    have h1 := H2.out.v.below hB5
    exact ⟨by rw [HRW.out.1]; exact h1.hold, by rw [HRW.out.2]; exact h1.told, by rw [HRW.out.1]; exact h1.few, by rw [HRW.out.2]; exact h1.fewz⟩
  have H5 := H2.out.doc (M := N + 1) (Nat.le_succ N) hB5 hV5 ⟨.inl HRW.out.1, .inl HRW.out.2⟩ H2.out.deps (by rw [HRW.out.1]; exact Nat.le_succ_of_le H2.out.fewh) (by rw [HRW.out.2]; exact Nat.le_succ_of_le H2.out.fewz)
  have hnE : ¬ E2 (e0 + 2) := fun e => by have := HNF.out _ e; omega
  have hws : W.heap.size ≤ e0 := by have := HROW.out.2.2; have := HE0.out; omega
  have H7 := Lib.hid (H5.box (e0 + 2) r5.cs.toArray (by omega) hnE (fun x hx => by rw [HRW.out.1] at hx; have := HROW.out.1 x hx; have := HE0.out; omega) (fun x hx => by rw [HRW.out.2] at hx; have := HROW.out.2.1 x hx; have := HE0.out; omega))
  have C7 := Lib.hid ((C2.out.then hB5).row14 (e0 + 2) r5.cs.toArray (by have := HE0.out; omega))
  have B5 := Lib.hid (B2.out.later hB5)
  have HS5 : Hid (w4.heap.size ≤ w5.heap.size) := Lib.hid hB5.size
  clear PK hB5 hV5 H5 hnE hws d1 d8
  go_wp2_with (first | (refine store_ro rfl (.tmp 6) (.tmp 130) rfl (e0 + 2) r5 rfl rfl B5.out.z ?_) | fail)
  (try simp only [Exit.inBlock, Exit.then])
  exact bodyPost_ret (v := .tuple #[.agg r5.cs.toArray, .bool true]) (results_ro2 (p := 6) (u := 7) rfl _ _ (e0 + 2) rfl (B5.out.z.row r5)) rfl ⟨E2, _, r5, L, T, rfl, H7.out, HRL.out, C7.out, fun k hk => by
    rcases HE2.out k hk with e | e
    · exact .inl e
    · exact .inr ⟨e.1, by rw [size_setRow]; have := HS5.out; omega⟩⟩
end Go.Proofs.Ytfocjcdfpnbkjaa

/- play: Drain. (Written by gen_oplay4.py.) -/
set_option linter.unusedVariables false
set_option maxRecDepth 100000
set_option linter.unusedSimpArgs false
namespace Go.Proofs.Ytfocjcdfpnbkjaa
open Go.RowKit Go.Sort Go.Shelf

set_option maxHeartbeats 4000000 in
theorem play_4 {W wr : World} {E : Nat → Prop} {g N : Nat} {O : Od} {r : Ro} {L : List Mg} {T : List Td} (h : PlM W wr E g N O r L T) (hr : ORel O r L T) (hN : N ≤ 998) (a : OA) (ha : a.ok W) (hk : a.kind = 4) :
    Calls Try.prog 18 #[.pointer (some ⟨g, 0, none⟩), .agg r.cs.toArray, .agg (encO a).toArray] wr (PlaySaid W wr E g N) := by
  have F := PyB.first wr r a
  have h1 := h.later F.2
  have hz := ro_zero
  have HF := Lib.hid F
  have H1 := Lib.hid h1
  have HR := Lib.hid hr
  have HLIM := Lib.hid h.rep.lim
  have HROW := Lib.hid (And.intro h.v.hold.lt (And.intro h.v.told.lt h.bel.size))
  have p0 := ha.p0
  have p1 := ha.p1
  have q0 := ha.q
  clear h h1 ha F hr
  obtain ⟨kind, p, ⟨f, q, s, v, da, dl, dc, deps, text⟩, seq, st⟩ := a
  simp only at hk p0 p1 q0
  subst hk
  unfold encO
  go_enter Try.func18, Try.ntmps18
  go_upto_region 1 with fail
  change Hid (PyB (((wr.alloc (.cells r.cs.toArray 41)).alloc (.cells #[.int .i64 4, .int .i64 p, .int .i64 f, .int .u32 q, .int .u64 s, .int .i64 v, .slice da dl dc, .string text, .int .u32 (seq : Int), .int .u64 (st : Int)] 49)).alloc (.cells ro0.cs.toArray 41)) wr.heap.size r _ ∧ Below wr.heap.size wr (((wr.alloc (.cells r.cs.toArray 41)).alloc (.cells #[.int .i64 4, .int .i64 p, .int .i64 f, .int .u32 q, .int .u64 s, .int .i64 v, .slice da dl dc, .string text, .int .u32 (seq : Int), .int .u64 (st : Int)] 49)).alloc (.cells ro0.cs.toArray 41))) at HF
  change Hid (PlM W (((wr.alloc (.cells r.cs.toArray 41)).alloc (.cells #[.int .i64 4, .int .i64 p, .int .i64 f, .int .u32 q, .int .u64 s, .int .i64 v, .slice da dl dc, .string text, .int .u32 (seq : Int), .int .u64 (st : Int)] 49)).alloc (.cells ro0.cs.toArray 41)) E g N O r L T) at H1
  generalize ((wr.alloc (.cells r.cs.toArray 41)).alloc (.cells #[.int .i64 4, .int .i64 p, .int .i64 f, .int .u32 q, .int .u64 s, .int .i64 v, .slice da dl dc, .string text, .int .u32 (seq : Int), .int .u64 (st : Int)] 49)).alloc (.cells ro0.cs.toArray 41) = V at *
  obtain ⟨e0, he0⟩ : ∃ e0, e0 = wr.heap.size := ⟨_, rfl⟩
  rw [← he0] at HF
  try rw [← he0]
  have HE0 := Lib.hid he0
  clear he0
  have HEL : Hid (∀ j, E j → j < e0) := Lib.hid fun j hj => by have := HLIM.out j hj; have := HE0.out; omega
  have d0 : V.cell? ⟨e0 + 1, 0, none⟩ = some (.int .i64 4) := Own.at_ HF.out.1.a 0 _ rfl
  have d1 : V.cell? ⟨e0 + 1, 1, none⟩ = some (.int .i64 p) := Own.at_ HF.out.1.a 1 _ rfl
  have d8 : V.cell? ⟨e0 + 1, 8, none⟩ = some (.int .u32 (seq : Int)) := Own.at_ HF.out.1.a 8 _ rfl
  have PT := odrain H1.out.rep (by omega)
  go_wp2_with fail
  with_reducible refine PT.mono ?_
  rintro e w4 hs
  obtain ⟨xa, xn, xc, X, P, rfl, hxo, hxl, hxd, hdr, hrep, hchg, hxf⟩ := hs
  have hC : Chg E V w4 := hchg.mono fun i _ e => by rw [e]; exact H1.out.rep.eg
  have H2 := Lib.hid (H1.out.prog0 (Nat.le_refl N) hrep hC)
  have B2 := Lib.hid (HF.out.1.chg hC fun j hj => .inl (HEL.out j hj))
  have C2 := Lib.hid (Chg.after (by have := HF.out.2; rw [HE0.out] at this; exact this) hC)
  have HX := Lib.hid (And.intro (own_lst' encG_length hxl hxo) (And.intro (show ∀ y ∈ X, DpIn w4 y ∧ y.dl ≤ 1048576 from fun y hy => ⟨(hxd y hy).deps, (hxd y hy).few⟩) (And.intro hdr (Nat.le_trans hxf (left_few H1.out.rep (by omega))))))
  have HS4 : Hid (V.heap.size ≤ w4.heap.size) := Lib.hid hC.size
  have PK := ro_drain O r L T w4 H2.out.v HR.out
  clear PT hxo hxl hxd hdr hrep hchg hxf hC d0 d1 d8
  go_wp2_with (first | (refine load_ro rfl (.tmp 4) rfl e0 r rfl B2.out.e ?_) | fail)
  with_reducible refine PK.mono ?_
  rintro e w5 hs
  obtain ⟨ya, yn, yc, Y, P2, r5, rfl, hyo, hyl, hym, hdr2, hrel, hh5, hz5, hy6, hB5⟩ := hs
  obtain ⟨hXY, hPP⟩ := HX.out.2.2.1.one hdr2
  subst hPP
  have hV5 : RoV w5 r5 L T := by
    have h1 := H2.out.v.below hB5
    exact ⟨by rw [hh5]; exact h1.hold, by rw [hz5]; exact h1.told, by rw [hh5]; exact h1.few, by rw [hz5]; exact h1.fewz⟩
  have H5 := Lib.hid (H2.out.doc (M := N + 1) (Nat.le_succ N) hB5 hV5 ⟨.inl hh5, .inl hz5⟩ H2.out.deps (by rw [hh5]; exact Nat.le_succ_of_le H2.out.fewh) (by rw [hz5]; exact Nat.le_succ_of_le H2.out.fewz))
  have B5 := Lib.hid (B2.out.later hB5)
  have C5 := Lib.hid (C2.out.then hB5)
  have HY := Lib.hid (And.intro (own_lst' encG_length hyl hyo) (And.intro (show ∀ y ∈ Y, DpIn w5 y from fun y hy => H5.out.dp y (hym y hy)) hXY))
  have HX5 := Lib.hid (And.intro (Lst.below HX.out.1 hB5) (And.intro (show ∀ y ∈ X, DpIn w5 y ∧ y.dl ≤ 1048576 from fun y hy => ⟨(HX.out.2.1 y hy).1.below hB5, (HX.out.2.1 y hy).2⟩) HX.out.2.2.2))
  have HRW := Lib.hid (And.intro hh5 hz5)
  have HREL := Lib.hid hrel
  have HS5 : Hid (V.heap.size ≤ w5.heap.size) := Lib.hid (Nat.le_trans HS4.out hB5.size)
  clear PK hyo hyl hym hdr2 hrel hh5 hz5 hy6 hB5 hXY hV5 H2 B2 C2 HX
  have L6 := ((Grw.refl w5).alloc (.cells ro0.cs.toArray 41)).below
  have N6 := Lib.hid (RoB.new w5 ro0)
  have B6 := belowRow10 L6 w5.heap.size (Nat.le_refl _) r5.cs.toArray
  have V6 := Lib.hid (N6.out.row r5)
  have H6 := Lib.hid (H5.out.later B6)
  have X6 := Lib.hid (B5.out.later B6)
  have C6 := Lib.hid (C5.out.then B6)
  have HY6 := Lib.hid (And.intro (Lst.below HY.out.1 B6) (And.intro (show ∀ y ∈ Y, DpIn _ y from fun y hy => (HY.out.2.1 y hy).below B6) HY.out.2.2))
  have HX6 := Lib.hid (And.intro (Lst.below HX5.out.1 B6) (And.intro (show ∀ y ∈ X, DpIn _ y ∧ y.dl ≤ 1048576 from fun y hy => ⟨(HX5.out.2.1 y hy).1.below B6, (HX5.out.2.1 y hy).2⟩) HX5.out.2.2))
  have hb56 : e0 + 3 ≤ w5.heap.size := B5.out.sz
  clear L6 B6 H5 B5 C5 HY HX5
  go_upto_region 19 with (first | (refine store_ro rfl (.tmp 17) (.tmp 111) rfl w5.heap.size r5 rfl rfl N6.out ?_) | fail)
  generalize (w5.alloc (.cells ro0.cs.toArray 41)).setRow w5.heap.size r5.cs.toArray = w6 at *
  clear N6
  obtain ⟨b5, hb5⟩ : ∃ b5, b5 = w5.heap.size := ⟨_, rfl⟩
  rw [← hb5] at V6 hb56
  try rw [← hb5]
  clear hb5
  have D6 := (Grw.refl w6).drew.below
  have V7 := Lib.hid (V6.out.below D6)
  have H7 := Lib.hid (H6.out.later D6)
  have X7 := Lib.hid (X6.out.later D6)
  have C7 := Lib.hid (C6.out.then D6)
  have PALL := all_rows14 (sc := xc) (tc := yc) (Lst.below HX6.out.1 D6) (Lst.below HY6.out.1 D6) (fun x hx => ⟨(HX6.out.2.1 x hx).1.below D6, (HX6.out.2.1 x hx).2⟩) (fun y hy => (HY6.out.2.1 y hy).below D6) HY6.out.2.2 (by have := HX6.out.2.2; omega)
  clear D6 V6 H6 X6 C6 HX6 HY6
  refine wp_region_held_drew (S := fun w' => RoB w' b5 r5) (by kernel_rfl) V7.out (fun hHeld => ?_)
  generalize w6.drew = w7 at *
  refine stake (i := 0) (v := (.agg r5.cs.toArray)) 113 rfl (by kernel_rfl) (by kernel_rfl) (by kernel_rfl) (by kernel_rfl) (fun _ _ _ h => h) (yields_ro (by kernel_rfl) (.tmp 17) rfl b5 r5 (by kernel_rfl) (fun w hS => hS)) hHeld ?_
  (try simp only [Act.put, List.setIfInBounds_toArray, List.set_cons_zero, List.set_cons_succ])
  refine stake (i := 1) (v := (.slice xa xn xc)) 114 rfl (by kernel_rfl) (by kernel_rfl) (by kernel_rfl) (by kernel_rfl) (fun _ _ _ h => h) (.inl ⟨by kernel_rfl, fun w' hS => by (go_simp)⟩) hHeld ?_
  (try simp only [Act.put, List.setIfInBounds_toArray, List.set_cons_zero, List.set_cons_succ])
  refine stake (i := 2) (v := (.slice ya yn yc)) 115 rfl (by kernel_rfl) (by kernel_rfl) (by kernel_rfl) (by kernel_rfl) (fun _ _ _ h => h) (.inl ⟨by kernel_rfl, fun w' hS => by (go_simp)⟩) hHeld ?_
  (try simp only [Act.put, List.setIfInBounds_toArray, List.set_cons_zero, List.set_cons_succ])
  refine wpAnyH_ready (rs := [3]) (by kernel_rfl) (by simp) (AllReadyH.cons rfl (fun K hK => ?_) AllReadyH.nil)
  clear hHeld
  rw [if_pos (by kernel_rfl)]
  go_simp
  refine PALL.mono ?_
  rintro e w8 ⟨rfl, hG⟩
  have V8 := Lib.hid (V7.out.below hG.below)
  have H8 := Lib.hid (H7.out.later hG.below)
  have X8 := Lib.hid (X7.out.later hG.below)
  have C8 := Lib.hid (C7.out.then hG.below)
  clear PALL hG V7 H7 X7 C7
  refine hK.out _ _ V8.out (fun hHeld => ?_)
  clear hK K
  (try simp only [Act.put, List.setIfInBounds_toArray, List.set_cons_zero, List.set_cons_succ])
  refine wpAnyH_ready (rs := [4]) (by kernel_rfl) (by simp) (AllReadyH.cons rfl (fun K hK => ?_) AllReadyH.nil)
  clear hHeld
  rw [if_pos (by kernel_rfl)]
  refine wp_store_row 41 (.tmp 6) (.tmp 113) rfl (e0 + 2) r5.cs.toArray rfl rfl 41 _ X8.out.z.own (by rw [List.size_toArray, Ro.cs_length]; exact ro_size) (by rw [List.size_toArray, List.size_toArray, Ro.cs_length, Ro.cs_length]) r5.cs_one ?_
  have hnE : ¬ E (e0 + 2) := fun e => by have := HEL.out _ e; omega
  have hws : W.heap.size ≤ e0 := by have := HROW.out.2.2; have := HE0.out; omega
  have H9 := Lib.hid (H8.out.box (e0 + 2) r5.cs.toArray (by omega) hnE (fun x hx => by rw [HRW.out.1] at hx; have := HROW.out.1 x hx; have := HE0.out; omega) (fun x hx => by rw [HRW.out.2] at hx; have := HROW.out.2.1 x hx; have := HE0.out; omega))
  have C9 := Lib.hid (C8.out.row14 (e0 + 2) r5.cs.toArray (by have := HE0.out; omega))
  have Z9 := Lib.hid (X8.out.z.row r5)
  refine hK.out _ _ (V8.out.kept (setRow_other _ _ _ _ (by omega))) (fun hHeld => ?_)
  clear hK K hnE hws
  (try simp only [Act.put, List.setIfInBounds_toArray, List.set_cons_zero, List.set_cons_succ])
  refine stake (i := 5) (v := (.bool true)) 7 rfl (by kernel_rfl) (by kernel_rfl) (by kernel_rfl) (by kernel_rfl) (fun _ _ _ h => h) (.inl ⟨by kernel_rfl, fun w' hS => by (go_simp)⟩) hHeld ?_
  (try simp only [Act.put, List.setIfInBounds_toArray, List.set_cons_zero, List.set_cons_succ])
  refine wpAnyH_done (by kernel_rfl) ?_ _
  clear hHeld
  generalize w8.setRow (e0 + 2) r5.cs.toArray = w9 at *
  go_wp2_with fail
  (try simp only [Exit.inBlock, Exit.then])
  exact bodyPost_ret (v := .tuple #[.agg r5.cs.toArray, .bool true]) (results_ro2 (p := 6) (u := 7) rfl _ _ (e0 + 2) rfl Z9.out) rfl ⟨E, _, r5, L, T, rfl, H9.out, HREL.out, C9.out, fun k hk => .inl hk⟩
end Go.Proofs.Ytfocjcdfpnbkjaa
