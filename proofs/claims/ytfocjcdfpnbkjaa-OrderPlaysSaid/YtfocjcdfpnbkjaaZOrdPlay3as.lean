/- play, Next: what both orders' Next answer, as one. -/
import Derived.Test.YtfocjcdfpnbkjaaZOrdPlay12s
set_option linter.unusedVariables false
set_option maxRecDepth 100000
namespace Go.Proofs.Ytfocjcdfpnbkjaa
open Go.RowKit Go.Sort Go.Shelf
def NxO (V : World) (E : Nat → Prop) (g N : Nat) (O : Od) (e : Ending) (w4 : World) : Prop :=
  ∃ (x : Mg) (b : Bool) (P : Od), e = .returned (.tuple #[valG x, .bool b]) ∧ ORep w4 E g N P ∧ Chg E V w4 ∧ DpIn w4 x ∧ x.dl ≤ 1048576 ∧ ((nextO O = none ∧ x = zeroG ∧ b = false ∧ P = O) ∨ (nextO O = some (strip x, P) ∧ b = true))
def NxR (w4 : World) (O : Od) (r : Ro) (L : List Mg) (T : List Td) (x : Mg) (b : Bool) (P : Od) (e : Ending) (w5 : World) : Prop :=
  ∃ (y : Mg) (r5 : Ro), e = .returned (.tuple #[.agg r5.cs.toArray, valG y, .bool b]) ∧ strip x = strip y ∧ (y ∈ L ∨ y = zeroG) ∧ ORel P r5 L T ∧ r5.hs = r.hs ∧ r5.zs = r.zs ∧ Below w4.heap.size w4 w5
section
variable {V w4 w5 : World} {E : Nat → Prop} {g N : Nat} {O P : Od} {r : Ro} {L : List Mg} {T : List Td} {x : Mg} {b : Bool} {e : Ending}
theorem NxO.of (h : ORep V E g N O) (hs : NextSaid V E g N O (nextO O) e w4) : NxO V E g N O e w4 := by
  generalize ho : nextO O = o at hs
  cases hs with
  | no w' hr hB => exact ⟨zeroG, false, O, rfl, hr, Chg.of_below hB, ⟨rfl, fun h => absurd h (Nat.lt_irrefl 0)⟩, Nat.zero_le _, .inl ⟨ho, rfl, rfl, rfl⟩⟩
  | yes m x O' w' h1 h2 hr hc => exact ⟨x, true, O', rfl, hr, hc.mono fun i _ e => by rw [e]; exact h.eg, h2.deps, h2.few, .inr ⟨by rw [ho, h1], rfl⟩⟩
theorem NxR.of (hrel : ORel O r L T) (hx : (nextO O = none ∧ x = zeroG ∧ b = false ∧ P = O) ∨ (nextO O = some (strip x, P) ∧ b = true)) (hs : RNext w4 r L T e w5) : NxR w4 O r L T x b P e w5 := by
  cases hs with
  | no w' h hb =>
    have hn := hrel.next_no h
    rcases hx with ⟨_, rfl, rfl, rfl⟩ | ⟨h1, _⟩
    · exact ⟨zeroG, r, rfl, rfl, .inr rfl, hrel, rfl, rfl, hb⟩
    · rw [hn] at h1; cases h1
  | yes p m w' h hr hb =>
    obtain ⟨Q, h2, h3⟩ := hrel.next_yes h hr
    rcases hx with ⟨h1, _⟩ | ⟨h1, rfl⟩
    · rw [h2] at h1; cases h1
    · rw [h2] at h1
      injection h1 with h1
      injection h1 with ha hb2
      subst hb2
      exact ⟨m, tookR r p m, rfl, ha.symm, .inl (bestR_mem _ _ _ _ _ h), h3, rfl, rfl, hb⟩
end
end Go.Proofs.Ytfocjcdfpnbkjaa

/- play: Next. (Written by gen_oplay3.py.) -/
set_option linter.unusedVariables false
set_option maxRecDepth 100000
set_option linter.unusedSimpArgs false
namespace Go.Proofs.Ytfocjcdfpnbkjaa
open Go.RowKit Go.Sort Go.Shelf

set_option maxHeartbeats 4000000 in
theorem play_3 {W wr : World} {E : Nat → Prop} {g N : Nat} {O : Od} {r : Ro} {L : List Mg} {T : List Td} (h : PlM W wr E g N O r L T) (hr : ORel O r L T) (hN : N ≤ 998) (a : OA) (ha : a.ok W) (hk : a.kind = 3) :
    Calls Try.prog 18 #[.pointer (some ⟨g, 0, none⟩), .agg r.cs.toArray, .agg (encO a).toArray] wr (PlaySaid W wr E g N) := by
  have F := PyB.first wr r a
  have h1 := h.later F.2
  have hz := ro_zero
  have HF := Lib.hid F
  have H1 := Lib.hid h1
  have HR := Lib.hid hr
  have HLIM := Lib.hid h.rep.lim
  have HROW := Lib.hid (And.intro h.v.hold.lt (And.intro h.v.told.lt h.bel.size))
  have p0 := ha.p0
  have p1 := ha.p1
  have q0 := ha.q
  clear h h1 ha F hr
  obtain ⟨kind, p, ⟨f, q, s, v, da, dl, dc, deps, text⟩, seq, st⟩ := a
  simp only at hk p0 p1 q0
  subst hk
  unfold encO
  go_enter Try.func18, Try.ntmps18
  go_upto_region 1 with fail
  change Hid (PyB (((wr.alloc (.cells r.cs.toArray 41)).alloc (.cells #[.int .i64 3, .int .i64 p, .int .i64 f, .int .u32 q, .int .u64 s, .int .i64 v, .slice da dl dc, .string text, .int .u32 (seq : Int), .int .u64 (st : Int)] 49)).alloc (.cells ro0.cs.toArray 41)) wr.heap.size r _ ∧ Below wr.heap.size wr (((wr.alloc (.cells r.cs.toArray 41)).alloc (.cells #[.int .i64 3, .int .i64 p, .int .i64 f, .int .u32 q, .int .u64 s, .int .i64 v, .slice da dl dc, .string text, .int .u32 (seq : Int), .int .u64 (st : Int)] 49)).alloc (.cells ro0.cs.toArray 41))) at HF
  change Hid (PlM W (((wr.alloc (.cells r.cs.toArray 41)).alloc (.cells #[.int .i64 3, .int .i64 p, .int .i64 f, .int .u32 q, .int .u64 s, .int .i64 v, .slice da dl dc, .string text, .int .u32 (seq : Int), .int .u64 (st : Int)] 49)).alloc (.cells ro0.cs.toArray 41)) E g N O r L T) at H1
  generalize ((wr.alloc (.cells r.cs.toArray 41)).alloc (.cells #[.int .i64 3, .int .i64 p, .int .i64 f, .int .u32 q, .int .u64 s, .int .i64 v, .slice da dl dc, .string text, .int .u32 (seq : Int), .int .u64 (st : Int)] 49)).alloc (.cells ro0.cs.toArray 41) = V at *
  obtain ⟨e0, he0⟩ : ∃ e0, e0 = wr.heap.size := ⟨_, rfl⟩
  rw [← he0] at HF
  try rw [← he0]
  have HE0 := Lib.hid he0
  clear he0
  have HEL : Hid (∀ j, E j → j < e0) := Lib.hid fun j hj => by have := HLIM.out j hj; have := HE0.out; omega
  have d0 : V.cell? ⟨e0 + 1, 0, none⟩ = some (.int .i64 3) := Own.at_ HF.out.1.a 0 _ rfl
  have d1 : V.cell? ⟨e0 + 1, 1, none⟩ = some (.int .i64 p) := Own.at_ HF.out.1.a 1 _ rfl
  have d8 : V.cell? ⟨e0 + 1, 8, none⟩ = some (.int .u32 (seq : Int)) := Own.at_ HF.out.1.a 8 _ rfl
  have PT := onext H1.out.rep (by omega)
  go_wp2_with fail
  with_reducible refine PT.mono ?_
  rintro e w4 hs
  obtain ⟨⟨xf, xq, xs, xv, xa, xl, xc, xd, xt⟩, b, P, rfl, hrep, hchg, hxd, hxl, hx⟩ := NxO.of H1.out.rep hs
  have H2 := Lib.hid (H1.out.prog0 (Nat.le_refl N) hrep hchg)
  have B2 := Lib.hid (HF.out.1.chg hchg fun j hj => .inl (HEL.out j hj))
  have C2 := Lib.hid (Chg.after (by have := HF.out.2; rw [HE0.out] at this; exact this) hchg)
  have HS4 : Hid (V.heap.size ≤ w4.heap.size) := Lib.hid hchg.size
  have HXD := Lib.hid hxd
  have HXL := Lib.hid hxl
  have HX := Lib.hid hx
  clear PT hs hrep hchg hxd hxl hx d0 d1 d8
  have L3 := ((Grw.refl w4).alloc (.cells #[.int .i64 xf, .int .u32 xq, .int .u64 xs, .int .i64 xv, .slice xa xl xc, .string xt] 47)).below
  have M3 := Lib.hid (MgB.new w4 ⟨xf, xq, xs, xv, xa, xl, xc, xd, xt⟩)
  have H3 := Lib.hid (H2.out.later L3)
  have B3 := Lib.hid (B2.out.later L3)
  have C3 := Lib.hid (C2.out.then L3)
  have D3 := Lib.hid (HXD.out.below L3)
  have hb4 : e0 + 3 ≤ w4.heap.size := B2.out.sz
  clear L3 H2 B2 C2 HXD
  unfold valG encG
  go_upto_region 14 with fail
  change Hid (MgB (w4.alloc (.cells #[.int .i64 xf, .int .u32 xq, .int .u64 xs, .int .i64 xv, .slice xa xl xc, .string xt] 47)) _ _) at M3
  generalize w4.alloc (.cells #[.int .i64 xf, .int .u32 xq, .int .u64 xs, .int .i64 xv, .slice xa xl xc, .string xt] 47) = w5 at *
  obtain ⟨b4, hb5⟩ : ∃ b4, b4 = w4.heap.size := ⟨_, rfl⟩
  rw [← hb5] at M3 hb4
  try rw [← hb5]
  clear hb5
  have hrl := HR.out
  have PK := ro_next r L T w5 H3.out.v (by rw [← hrl.ms]; exact hrl.ok.m) (fun k hk => hrl.dnb (by rw [H3.out.v.hold.len]; exact H3.out.v.few) k hk) hrl.P.proc hrl.Z.tok (fun p hp => (hrl.Z.up p hp).upD hrl.Z.tok)
  clear hrl
  go_wp2_with (first | (refine load_ro rfl (.tmp 4) rfl e0 r rfl B3.out.e ?_) | fail)
  with_reducible refine PK.mono ?_
  rintro e w6 hs
  obtain ⟨⟨yf, yq, ys, yv, ya, yl, yc, yd, yt⟩, r5, rfl, hxy, hyl, hrel, hh5, hz5, hB6⟩ := NxR.of HR.out HX.out hs
  have hV6 : RoV w6 r5 L T := by
    have h1 := H3.out.v.below hB6
    exact ⟨by rw [hh5]; exact h1.hold, by rw [hz5]; exact h1.told, by rw [hh5]; exact h1.few, by rw [hz5]; exact h1.fewz⟩
  have H6 := Lib.hid (H3.out.doc (M := N + 1) (Nat.le_succ N) hB6 hV6 ⟨.inl hh5, .inl hz5⟩ H3.out.deps (by rw [hh5]; exact Nat.le_succ_of_le H3.out.fewh) (by rw [hz5]; exact Nat.le_succ_of_le H3.out.fewz))
  have B6 := Lib.hid (B3.out.later hB6)
  have C6 := Lib.hid (C3.out.then hB6)
  have M6 := Lib.hid (M3.out.later hB6)
  have DX6 := Lib.hid (And.intro (D3.out.below hB6) (show (⟨xf, xq, xs, xv, xa, xl, xc, xd, xt⟩ : Mg).dl ≤ 1048576 from HXL.out))
  have DY6 : Hid (DpIn w6 ⟨yf, yq, ys, yv, ya, yl, yc, yd, yt⟩) := Lib.hid (by
    rcases hyl with e | e
    · exact H6.out.dp _ e
    · rw [e]; exact ⟨rfl, fun h => absurd h (Nat.lt_irrefl 0)⟩)
  have HRW := Lib.hid (And.intro hh5 hz5)
  have HREL := Lib.hid hrel
  have HXY := Lib.hid (strip_same hxy)
  have hb6 : b4 + 1 ≤ w6.heap.size := M6.out.lt
  clear PK hxy hyl hrel hh5 hz5 hB6 hV6 H3 B3 C3 M3 D3 HX HXL
  have L7 := ((Grw.refl w6).alloc (.cells ro0.cs.toArray 41)).below
  have L8 := (((Grw.refl w6).alloc (.cells ro0.cs.toArray 41)).alloc (.cells #[.int .i64 0, .int .u32 0, .int .u64 0, .int .i64 0, .slice none 0 0, .string { data := #[] }] 47)).below
  have N8 := Lib.hid ((RoB.new w6 ro0).below ((Grw.refl _).alloc (.cells #[.int .i64 0, .int .u32 0, .int .u64 0, .int .i64 0, .slice none 0 0, .string { data := #[] }] 47)).below)
  have Z8 : Hid (MgB (((w6.alloc (.cells ro0.cs.toArray 41)).alloc (.cells #[.int .i64 0, .int .u32 0, .int .u64 0, .int .i64 0, .slice none 0 0, .string { data := #[] }] 47)).setRow w6.heap.size r5.cs.toArray) (w6.heap.size + 1) zeroG) := Lib.hid (by
    have h1 := MgB.new (w6.alloc (.cells ro0.cs.toArray 41)) zeroG
    rw [show (w6.alloc (.cells ro0.cs.toArray 41)).heap.size = w6.heap.size + 1 by simp] at h1
    exact (setRow_other _ _ _ _ (by omega)).trans h1)
  have B8 : Below w6.heap.size w6 ((((w6.alloc (.cells ro0.cs.toArray 41)).alloc (.cells #[.int .i64 0, .int .u32 0, .int .u64 0, .int .i64 0, .slice none 0 0, .string { data := #[] }] 47)).setRow w6.heap.size r5.cs.toArray).setRow (w6.heap.size + 1) (encG ⟨yf, yq, ys, yv, ya, yl, yc, yd, yt⟩).toArray) := belowRow10 (belowRow10 L8 _ (Nat.le_refl _) _) _ (Nat.le_succ _) _
  have V8 := Lib.hid (show RoB ((((w6.alloc (.cells ro0.cs.toArray 41)).alloc (.cells #[.int .i64 0, .int .u32 0, .int .u64 0, .int .i64 0, .slice none 0 0, .string { data := #[] }] 47)).setRow w6.heap.size r5.cs.toArray).setRow (w6.heap.size + 1) (encG ⟨yf, yq, ys, yv, ya, yl, yc, yd, yt⟩).toArray) w6.heap.size r5 from (N8.out.row r5).kept (setRow_other _ _ _ _ (by omega)))
  have Y8 := Lib.hid (Z8.out.row ⟨yf, yq, ys, yv, ya, yl, yc, yd, yt⟩)
  have H8 := Lib.hid (H6.out.later B8)
  have X8 := Lib.hid (B6.out.later B8)
  have C8 := Lib.hid (C6.out.then B8)
  have M8 := Lib.hid (M6.out.later B8)
  have DX8 := Lib.hid (And.intro (DX6.out.1.below B8) DX6.out.2)
  have DY8 := Lib.hid (DY6.out.below B8)
  clear L7 L8 B8 H6 B6 C6 M6 DX6 DY6
  unfold valG encG
  go_upto_region 15 with (first | (refine store_ro rfl (.tmp 13) (.tmp 92) rfl w6.heap.size r5 rfl rfl N8.out ?_) | (refine store_mg rfl (.tmp 14) (.tmp 93) rfl (w6.heap.size + 1) ⟨yf, yq, ys, yv, ya, yl, yc, yd, yt⟩ rfl rfl Z8.out ?_) | fail)
  clear N8 Z8
  generalize (((w6.alloc (.cells ro0.cs.toArray 41)).alloc (.cells #[.int .i64 0, .int .u32 0, .int .u64 0, .int .i64 0, .slice none 0 0, .string { data := #[] }] 47)).setRow w6.heap.size r5.cs.toArray).setRow (w6.heap.size + 1) (encG ⟨yf, yq, ys, yv, ya, yl, yc, yd, yt⟩).toArray = w8 at *
  obtain ⟨b6, hb66⟩ : ∃ b6, b6 = w6.heap.size := ⟨_, rfl⟩
  rw [← hb66] at V8 Y8 hb6
  try rw [← hb66]
  clear hb66
  have D8 := (Grw.refl w8).drew.below
  have V9 := Lib.hid (And.intro (V8.out.below D8) (And.intro (M8.out.later D8) (Y8.out.later D8)))
  have H9 := Lib.hid (H8.out.later D8)
  have X9 := Lib.hid (X8.out.later D8)
  have C9 := Lib.hid (C8.out.then D8)
  have PS := sameG_any _ _ _ (DX8.out.1.below D8) (DY8.out.below D8) DX8.out.2
  rw [HXY.out] at PS
  clear D8 V8 M8 Y8 H8 X8 C8 DX8 DY8
  refine wp_region_held_drew (S := fun w' => RoB w' b6 r5 ∧ MgB w' b4 ⟨xf, xq, xs, xv, xa, xl, xc, xd, xt⟩ ∧ MgB w' (b6 + 1) ⟨yf, yq, ys, yv, ya, yl, yc, yd, yt⟩) (by kernel_rfl) V9.out (fun hHeld => ?_)
  generalize w8.drew = w9 at *
  refine stake (i := 0) (v := (.agg r5.cs.toArray)) 95 rfl (by kernel_rfl) (by kernel_rfl) (by kernel_rfl) (by kernel_rfl) (fun _ _ _ h => h) (yields_ro (by kernel_rfl) (.tmp 13) rfl b6 r5 (by kernel_rfl) (fun w hS => hS.1)) hHeld ?_
  (try simp only [Act.put, List.setIfInBounds_toArray, List.set_cons_zero, List.set_cons_succ])
  refine stake (i := 1) (v := (valG ⟨xf, xq, xs, xv, xa, xl, xc, xd, xt⟩)) 96 rfl (by kernel_rfl) (by kernel_rfl) (by kernel_rfl) (by kernel_rfl) (fun _ _ _ h => h) (yields_mgR (by kernel_rfl) (.tmp 11) rfl b4 (by kernel_rfl) (fun w hS => hS.2.1)) hHeld ?_
  (try simp only [Act.put, List.setIfInBounds_toArray, List.set_cons_zero, List.set_cons_succ])
  refine stake (i := 2) (v := (valG ⟨yf, yq, ys, yv, ya, yl, yc, yd, yt⟩)) 97 rfl (by kernel_rfl) (by kernel_rfl) (by kernel_rfl) (by kernel_rfl) (fun _ _ _ h => h) (yields_mgR (by kernel_rfl) (.tmp 14) rfl (b6 + 1) (by kernel_rfl) (fun w hS => hS.2.2)) hHeld ?_
  (try simp only [Act.put, List.setIfInBounds_toArray, List.set_cons_zero, List.set_cons_succ])
  refine wpAnyH_ready (rs := [3]) (by kernel_rfl) (by simp) (AllReadyH.cons rfl (fun K hK => ?_) AllReadyH.nil)
  clear hHeld
  rw [if_pos (by kernel_rfl)]
  go_simp
  refine PS.mono ?_
  rintro e w10 ⟨rfl, hG⟩
  have V10 := Lib.hid (And.intro (V9.out.1.below hG.below) (And.intro (V9.out.2.1.later hG.below) (V9.out.2.2.later hG.below)))
  have H10 := Lib.hid (H9.out.later hG.below)
  have X10 := Lib.hid (X9.out.later hG.below)
  have C10 := Lib.hid (C9.out.then hG.below)
  clear PS hG V9 H9 X9 C9
  refine hK.out _ _ V10.out (fun hHeld => ?_)
  clear hK K
  (try simp only [Act.put, List.setIfInBounds_toArray, List.set_cons_zero, List.set_cons_succ])
  refine stake (i := 4) (v := (.bool true)) 99 rfl (by kernel_rfl) (by kernel_rfl) (by kernel_rfl) (by kernel_rfl) (fun _ _ _ h => h) (.inl ⟨by kernel_rfl, fun w' hS => by (go_simp)⟩) hHeld ?_
  (try simp only [Act.put, List.setIfInBounds_toArray, List.set_cons_zero, List.set_cons_succ])
  refine stake (i := 5) (v := (.bool b)) 100 rfl (by kernel_rfl) (by kernel_rfl) (by kernel_rfl) (by kernel_rfl) (fun _ _ _ h => h) (.inl ⟨by kernel_rfl, fun w' hS => by (go_simp)⟩) hHeld ?_
  (try simp only [Act.put, List.setIfInBounds_toArray, List.set_cons_zero, List.set_cons_succ])
  refine stake (i := 6) (v := (.bool b)) 101 rfl (by kernel_rfl) (by kernel_rfl) (by kernel_rfl) (by kernel_rfl) (fun _ _ _ h => h) (.inl ⟨by kernel_rfl, fun w' hS => by (go_simp)⟩) hHeld ?_
  (try simp only [Act.put, List.setIfInBounds_toArray, List.set_cons_zero, List.set_cons_succ])
  refine stake (i := 7) (v := (.bool true)) 102 rfl (by kernel_rfl) (by kernel_rfl) (by kernel_rfl) (by kernel_rfl) (fun _ _ _ h => h) (.inl ⟨by kernel_rfl, fun w' hS => by (go_simp)⟩) hHeld ?_
  (try simp only [Act.put, List.setIfInBounds_toArray, List.set_cons_zero, List.set_cons_succ])
  refine stake (i := 8) (v := (.bool true)) 103 rfl (by kernel_rfl) (by kernel_rfl) (by kernel_rfl) (by kernel_rfl) (fun _ _ _ h => h) (.inl ⟨by kernel_rfl, fun w' hS => by (go_simp)⟩) hHeld ?_
  (try simp only [Act.put, List.setIfInBounds_toArray, List.set_cons_zero, List.set_cons_succ])
  refine wpAnyH_ready (rs := [9]) (by kernel_rfl) (by simp) (AllReadyH.cons rfl (fun K hK => ?_) AllReadyH.nil)
  clear hHeld
  rw [if_pos (by kernel_rfl)]
  refine wp_store_row 41 (.tmp 6) (.tmp 95) rfl (e0 + 2) r5.cs.toArray rfl rfl 41 _ X10.out.z.own (by rw [List.size_toArray, Ro.cs_length]; exact ro_size) (by rw [List.size_toArray, List.size_toArray, Ro.cs_length, Ro.cs_length]) r5.cs_one ?_
  have hnE : ¬ E (e0 + 2) := fun e => by have := HEL.out _ e; omega
  have hws : W.heap.size ≤ e0 := by have := HROW.out.2.2; have := HE0.out; omega
  have H11 := Lib.hid (H10.out.box (e0 + 2) r5.cs.toArray (by omega) hnE (fun x hx => by rw [HRW.out.1] at hx; have := HROW.out.1 x hx; have := HE0.out; omega) (fun x hx => by rw [HRW.out.2] at hx; have := HROW.out.2.1 x hx; have := HE0.out; omega))
  have C11 := Lib.hid (C10.out.row14 (e0 + 2) r5.cs.toArray (by have := HE0.out; omega))
  have Z11 := Lib.hid (X10.out.z.row r5)
  refine hK.out _ _ ⟨V10.out.1.kept (setRow_other _ _ _ _ (by omega)), (setRow_other _ _ _ _ (by omega)).trans V10.out.2.1, (setRow_other _ _ _ _ (by omega)).trans V10.out.2.2⟩ (fun hHeld => ?_)
  clear hK K hnE hws
  (try simp only [Act.put, List.setIfInBounds_toArray, List.set_cons_zero, List.set_cons_succ])
  refine stake (i := 10) (v := (.bool true)) 7 rfl (by kernel_rfl) (by kernel_rfl) (by kernel_rfl) (by kernel_rfl) (fun _ _ _ h => h) (.inl ⟨by kernel_rfl, fun w' hS => by (go_simp)⟩) hHeld ?_
  (try simp only [Act.put, List.setIfInBounds_toArray, List.set_cons_zero, List.set_cons_succ])
  refine wpAnyH_done (by kernel_rfl) ?_ _
  clear hHeld
  generalize w10.setRow (e0 + 2) r5.cs.toArray = w11 at *
  go_wp2_with fail
  (try simp only [Exit.inBlock, Exit.then])
  exact bodyPost_ret (v := .tuple #[.agg r5.cs.toArray, .bool true]) (results_ro2 (p := 6) (u := 7) rfl _ _ (e0 + 2) rfl Z11.out) rfl ⟨E, _, r5, L, T, rfl, H11.out, HREL.out, C11.out, fun k hk => .inl hk⟩
end Go.Proofs.Ytfocjcdfpnbkjaa

/- OrderPlays: 'play' of whatever act; both orders, and the law's own variable, amid the rounds. -/
set_option linter.unusedVariables false
set_option maxRecDepth 100000
set_option linter.unusedSimpArgs false
namespace Go.Proofs.Ytfocjcdfpnbkjaa
open Go.RowKit Go.Sort Go.Shelf

theorem oplay {W wr : World} {E : Nat → Prop} {g N : Nat} {O : Od} {r : Ro} {L : List Mg} {T : List Td} (h : PlM W wr E g N O r L T) (hr : ORel O r L T) (hN : N ≤ 998) (a : OA) (ha : a.ok W) (hdl : a.m.dl ≤ 1048576) :
    Calls Try.prog 18 #[.pointer (some ⟨g, 0, none⟩), .agg r.cs.toArray, .agg (encO a).toArray] wr (PlaySaid W wr E g N) := by
  by_cases h0 : a.kind = 0
  · exact play_0 h hr hN a ha hdl h0
  by_cases h1 : a.kind = 1
  · exact play_1 h hr hN a ha h1
  by_cases h2 : a.kind = 2
  · exact play_2 h hr hN a ha h2
  by_cases h3 : a.kind = 3
  · exact play_3 h hr hN a ha h3
  by_cases h4 : a.kind = 4
  · exact play_4 h hr hN a ha h4
  by_cases h5 : a.kind = 5
  · exact play_5 h hr hN a ha h5
  exact play_x h hr hN a ha (by omega)

/-- What kind of value it is. -/
def tagV : Value → Nat
  | .int .i64 _ => 1
  | .int _ _ => 2
  | _ => 3
def noTwo : List Nat → Bool
  | a :: b :: l => (!(a == 1 && b == 1)) && noTwo (b :: l)
  | _ => true
theorem noTwo_at : ∀ (l : List Nat) (o : Nat), noTwo l = true → l[o]? = some 1 → l[o + 1]? = some 1 → False
  | [], _, _, h, _ => by simp at h
  | [a], o, _, _, h => by simp at h
  | a :: b :: l, 0, h, h1, h2 => by
    simp at h1 h2
    subst h1 h2
    simp [noTwo] at h
  | a :: b :: l, o + 1, h, h1, h2 => by
    refine noTwo_at (b :: l) o ?_ (by simpa using h1) (by simpa using h2)
    simp only [noTwo, Bool.and_eq_true] at h
    exact h.2
theorem ro_tags (r : Ro) : noTwo (r.cs.map tagV) = true := by
  have e : r.cs.map tagV = ro0.cs.map tagV := by
    unfold Ro.cs endK rhC rzC rowF vU vB Sl.v
    simp only [List.map_append, List.map_cons, List.map_nil, List.map_map, Function.comp_def, tagV]
  rw [e]
  decide +kernel
theorem RoB.told_ne {w : World} {b : Nat} {r r' : Ro} {s : Sl} {T : List Td} (h : RoB w b r) (ht : DRow w s T) (h0 : 0 < s.n) (x : Addr) (hx : s.a = some x) : x.block ≠ b := by
  obtain ⟨bb, o, e, hr⟩ := ht.lst.src h0
  rw [hx] at e
  cases e
  intro e
  simp only at e
  subst e
  have hl := ht.lst.size
  have hx0 : T[0]? = some T[0] := List.getElem?_eq_getElem (by omega)
  generalize T[0] = t at hx0
  have c0 := hr 0 t hx0 0 _ rfl
  have c1 := hr 0 t hx0 1 _ rfl
  rw [cell_of_row _ _ _ _ _ _ h.own.is, List.getElem?_toArray] at c0 c1
  refine noTwo_at _ o (ro_tags r) ?_ ?_
  · rw [List.getElem?_map]
    have : r.cs[o]? = some (.int .i64 t.kind) := by simpa using c0
    rw [this]; rfl
  · rw [List.getElem?_map]
    have : r.cs[o + 1]? = some (.int .i64 t.p) := by simpa using c1
    rw [this]; rfl
theorem RoB.held_ne {w : World} {b : Nat} {r : Ro} {s : Sl} {L : List Mg} (h : RoB w b r) (ht : SlotAt w s L) (x : Addr) (hx : s.a = some x) : x.block ≠ b := by
  obtain ⟨cur, hc⟩ := ht.typ x hx
  intro e
  rw [e] at hc
  have := h.own.is.symm.trans hc
  injection this with e
  injection e with _ e _
  exact absurd e (by decide)
/-- The block of an order's variable is laid anew. -/
theorem PlM.box2 {W wr : World} {E : Nat → Prop} {g N : Nat} {O : Od} {r r0 : Ro} {L : List Mg} {T : List Td} (h : PlM W wr E g N O r L T) (b : Nat) (cs : Array Value) (hb : W.heap.size ≤ b) (hE : ¬ E b) (hB : RoB wr b r0) : PlM W (wr.setRow b cs) E g N O r L T := by
  have hs : (wr.setRow b cs).heap.size = wr.heap.size := size_setRow _ _ _
  refine ⟨h.rep.kept (Nat.le_of_eq hs.symm) fun k hk => setRow_other _ _ _ _ (fun e => hE (e ▸ hk)), h.base, belowRow10 h.bel _ hb _, ⟨h.v.hold.kept fun x hx => setRow_other _ _ _ _ (hB.held_ne h.v.hold x hx), ?_, h.v.few, h.v.fewz⟩, h.nh, h.nz, h.deps, h.fewh, h.fewz⟩
  refine ⟨⟨h.v.told.lst.size, fun h0 => ?_⟩, h.v.told.cap0, fun x hx => by rw [hs]; exact h.v.told.lt x hx⟩
  obtain ⟨bb, o, e, hr⟩ := h.v.told.lst.src h0
  have hne := hB.told_ne (r' := r) h.v.told h0 ⟨bb, o, none⟩ e
  refine ⟨bb, o, e, fun i x hx c v hv => ?_⟩
  have := hr i x hx c v hv
  unfold World.cell? at this ⊢
  simp only [setRow_other wr b bb cs hne]
  exact this
/-- The law's two sides behind i acts. -/
structure PlW (w wr : World) (g b i : Nat) (E : Nat → Prop) (O : Od) (r : Ro) (L : List Mg) (T : List Td) : Prop where
  m : PlM w wr E g i O r L T
  rel : ORel O r L T
  box : RoB wr b r
  nE : ¬ E b
  base : w.heap.size ≤ b
theorem PlW.later {w wr w' : World} {g b i : Nat} {E : Nat → Prop} {O : Od} {r : Ro} {L : List Mg} {T : List Td} (h : PlW w wr g b i E O r L T) (hb : Below wr.heap.size wr w') : PlW w w' g b i E O r L T :=
  ⟨h.m.later hb, h.rel, h.box.below hb, h.nE, h.base⟩
theorem PlW.rest {w wr : World} {g b i : Nat} {E : Nat → Prop} {O : Od} {r : Ro} {L : List Mg} {T : List Td} (h : PlW w wr g b i E O r L T) (wx : World) (hb : Below wr.heap.size wr wx) :
    Calls Try.prog 22 #[.agg r.cs.toArray] wx (RRest wx r.dn (catF (outAll L r.lo) ⟨0, -1⟩ 64)) :=
  ro_rest r L T wx (h.m.v.below hb) h.rel.P.proc (fun x hx => above_mem _ x hx) (outAll_len L r.lo h.m.len)
end Go.Proofs.Ytfocjcdfpnbkjaa
