/- The walk of OrderPlays. (Written by gen_oplays.py.) -/
import Derived.Test.YtfocjcdfpnbkjaaZOrdPlay3as
import Derived.Test.YtfocjcdfpnbkjaaZOrdOpens
set_option linter.unusedVariables false
set_option maxRecDepth 100000
set_option linter.unusedSimpArgs false
namespace Go.Proofs.Ytfocjcdfpnbkjaa
open Go.RowKit Go.Sort Go.Shelf

theorem oa_size : (Try.prog.info? 49).map (·.size) = some 10 := by kernel_rfl
theorem yields_oa {ops : Array Oper} {S : World → Prop} {op : Oper} {a : Act} (hw : Region.wanted op (yielded ops a.tmps) = true) (x : Operand) (ho : op.op = .load 49 x)
    (g o : Nat) (hx : a.eval x = .pointer (some ⟨g, o, none⟩)) {m : OA} (hS : ∀ w, S w → w.rangeAt g o (encO m)) : YieldsIf Try.prog ops S op (.agg (encO m).toArray) a :=
  yieldsIf_load_mid hw 49 x ho g o hx (encO m) _ (fun w' hS' => hS w' hS') Try.underlying49 rfl oa_size
/-- Behind an act of the law's: the second variable holds what the document says. -/
structure PlX (w wr : World) (g b c i : Nat) (E : Nat → Prop) (O : Od) (r r1 : Ro) (L : List Mg) (T : List Td) : Prop where
  m : PlM w wr E g i O r1 L T
  rel : ORel O r1 L T
  box : RoB wr b r
  new : RoB wr c ro0
  nE : ¬ E b
  nEc : ¬ E c
  base : w.heap.size ≤ b
  ne : b < c
/-- .. and is laid. -/
structure PlY (w wr : World) (g b c i : Nat) (E : Nat → Prop) (O : Od) (r r1 : Ro) (L : List Mg) (T : List Td) : Prop where
  m : PlM w wr E g i O r1 L T
  rel : ORel O r1 L T
  box : RoB wr b r
  new : RoB wr c r1
  nE : ¬ E b
  base : w.heap.size ≤ b
section
variable {w wr w' : World} {g b i : Nat} {E : Nat → Prop} {O : Od} {r : Ro} {L : List Mg} {T : List Td}
theorem PlW.box_ne (h : PlW w wr g b i E O r L T) : b < wr.heap.size := h.box.lt
/-- The call, then the new variable. -/
theorem PlW.then (h : PlW w wr g b i E O r L T) {e : Ending} (hs : PlaySaid w wr E g i e w') :
    ∃ E' O' r' L' T', e = .returned (.tuple #[.agg r'.cs.toArray, .bool true]) ∧ PlX w (w'.alloc (.cells ro0.cs.toArray 41)) g b w'.heap.size (i + 1) E' O' r r' L' T' ∧ RoB w' b r ∧ Chg E wr w' := by
  obtain ⟨E', O', r', L', T', he, h1, h2, h3, h4⟩ := hs
  have hb := h.box.lt
  have hB : RoB w' b r := h.box.kept (h3.block b hb h.nE)
  have hL := ((Grw.refl w').alloc (.cells ro0.cs.toArray 41)).below
  have hsz := h3.size
  refine ⟨E', O', r', L', T', he, ⟨h1.later hL, h2, hB.below hL, RoB.new w' ro0, fun hE => ?_, fun hE => by have := h1.rep.lim _ hE; omega, h.base, by omega⟩, hB, h3⟩
  rcases h4 b hE with e | e
  · exact h.nE e
  · omega
theorem hs_bel {E : Nat → Prop} {N : Nat} {e : Ending} (hs : PlaySaid w wr E g N e w') : Below w.heap.size w w' := by
  obtain ⟨_, _, _, _, _, _, h1, _⟩ := hs
  exact h1.bel
/-- The new variable, then the call. -/
theorem PlW.first (h : PlW w wr g b i E O r L T) {e : Ending} (hs : PlaySaid w (wr.alloc (.cells ro0.cs.toArray 41)) E g i e w') :
    ∃ E' O' r' L' T', e = .returned (.tuple #[.agg r'.cs.toArray, .bool true]) ∧ PlX w w' g b wr.heap.size (i + 1) E' O' r r' L' T' ∧ Chg E (wr.alloc (.cells ro0.cs.toArray 41)) w' := by
  obtain ⟨E', O', r', L', T', he, h1, h2, h3, h4⟩ := hs
  have hb := h.box.lt
  have hL := ((Grw.refl wr).alloc (.cells ro0.cs.toArray 41)).below
  have hz : (wr.alloc (.cells ro0.cs.toArray 41)).heap.size = wr.heap.size + 1 := by simp
  have hB : RoB w' b r := (h.box.below hL).kept (h3.block b (by omega) h.nE)
  have hC : RoB w' wr.heap.size ro0 := (RoB.new wr ro0).kept (h3.block _ (by omega) fun e => by have := h.m.rep.lim _ e; omega)
  refine ⟨E', O', r', L', T', he, ⟨h1, h2, hB, hC, fun hE => ?_, fun hE => ?_, h.base, hb⟩, h3⟩
  · rcases h4 b hE with e | e
    · exact h.nE e
    · omega
  · rcases h4 _ hE with e | e
    · have := h.m.rep.lim _ e; omega
    · omega
theorem PlX.laid {c : Nat} {r1 : Ro} (h : PlX w wr g b c i E O r r1 L T) : PlY w (wr.setRow c r1.cs.toArray) g b c i E O r r1 L T := by
  have hne := h.ne
  exact ⟨h.m.box2 c r1.cs.toArray (Nat.le_trans h.base (Nat.le_of_lt hne)) h.nEc h.new, h.rel, h.box.kept (setRow_other _ _ _ _ (by omega)), h.new.row r1, h.nE, h.base⟩
theorem PlY.done {c : Nat} {r1 : Ro} (h : PlY w wr g b c i E O r r1 L T) : PlW w (wr.setRow b r1.cs.toArray) g b i E O r1 L T :=
  ⟨h.m.box2 b r1.cs.toArray h.base h.nE h.box, h.rel, h.box.row r1, h.nE, h.base⟩
end
set_option maxHeartbeats 8000000 in
theorem plays_core (me : Int) (m0 : -9223372036854775808 ≤ me) (m1 : me ≤ 9223372036854775807) (ms : Nat) (hms : ms < 18446744073709551616) (ao : Option Addr) (len cap : Nat) (l : List OA) (n : Int) (n0 : -9223372036854775808 ≤ n) (n1 : n ≤ 9223372036854775807) (w : World) (hl : Lst encO 10 w ao len l) (hok : ∀ a ∈ l, a.ok w) :
    Calls Try.prog 3 #[.int .i64 me, .int .u64 (ms : Int), .slice ao len cap, .int .i64 n] w fun e w' => e = .returned (.bool true) ∧ Below w.heap.size w w' := by
  have PA := oawake w
  have hz := ro_zero
  have HL := Lib.hid hl
  have HO := Lib.hid hok
  clear hl hok
  go_enter Try.func3, Try.ntmps3
  go_wp2_with fail
  refine PA.mono ?_
  rintro e w1 ⟨rfl, B1⟩
  have PF := ofew ao len cap l w1 (HL.out.below B1)
  have HB1 := Lib.hid B1
  clear PA B1
  go_wp2_with fail
  refine PF.mono ?_
  rintro e w2 ⟨h2, B2⟩
  have HB2 := Lib.hid (HB1.out.trans (B2.mono HB1.out.size))
  clear PF B2 HB1
  rcases h2 with rfl | ⟨rfl, hlen, hdl⟩
  · go_wp2
    go_ret
    exact ⟨rfl, HB2.out⟩
  have HDL := Lib.hid hdl
  have PN := onew me ms w2 hms m0 m1
  have HREL := Lib.hid (ORel.start me ms m0 m1)
  generalize newO me ms = O0 at *
  clear hdl
  go_wp2_with fail
  refine PN.mono ?_
  rintro e w3 ⟨g, rfl, h3, B3⟩
  have PR := ro_new me ms w3 hms
  have H3 := Lib.hid h3
  have HB3 := Lib.hid B3
  obtain ⟨r0, hr0⟩ : ∃ r0, r0 = rNew me ms := ⟨_, rfl⟩
  have HV0 : Hid (r0.hs = slNil ∧ r0.zs = slNil) := Lib.hid (by rw [hr0]; exact ⟨rfl, rfl⟩)
  rw [← hr0] at PR HREL
  clear PN h3 B3 hr0
  go_wp2_with fail
  refine PR.mono ?_
  rintro e w4 ⟨rfl, B4⟩
  have L5 := ((Grw.refl w4).alloc (.cells ro0.cs.toArray 41)).below
  have N5 := Lib.hid (RoB.new w4 ro0)
  have B5 := belowRow10 L5 w4.heap.size (Nat.le_refl _) r0.cs.toArray
  have H5 := Lib.hid (show PlW w ((w4.alloc (.cells ro0.cs.toArray 41)).setRow w4.heap.size r0.cs.toArray) g w4.heap.size 0 (newB w2.heap.size w3) O0 r0 [] [] from by
    have hs4 := B4.size
    have hs3 := HB3.out.size
    have hs2 := HB2.out.size
    have hv := HV0.out
    have hw : Below w.heap.size w w4 := (HB2.out.trans (HB3.out.mono hs2)).trans (B4.mono (by omega))
    refine ⟨⟨(H3.out.below B4).below B5, fun j hj => by have := hj.1; omega, hw.trans (B5.mono hw.size), ⟨by rw [hv.1]; exact SlotAt.nil _, ?_, by rw [hv.1]; exact Nat.zero_le _, by rw [hv.2]; exact Nat.zero_le _⟩, (fun x hx => by rw [hv.1] at hx; cases hx), (fun x hx => by rw [hv.2] at hx; cases hx), (fun m hm => by cases hm), by rw [hv.1]; exact Nat.le_refl _, by rw [hv.2]; exact Nat.le_refl _⟩, HREL.out, N5.out.row r0, fun hE => by have := hE.2; omega, by omega⟩
    rw [hv.2]
    exact ⟨⟨rfl, fun h0 => by simp [slNil] at h0⟩, fun _ => rfl, fun x hx => by cases hx⟩)
  clear PR L5 B5 HB2 B4 HB3 H3 HREL HV0
  go_upto_region 6 with (first | (refine store_ro rfl (.tmp 10) (.tmp 26) rfl w4.heap.size r0 rfl rfl N5.out ?_) | fail)
  generalize (w4.alloc (.cells ro0.cs.toArray 41)).setRow w4.heap.size r0.cs.toArray = w5 at *
  clear N5
  generalize w4.heap.size = b at *
  have HS5 : Hid (∃ E O r L T, PlW w w5 g b 0 E O r L T) := Lib.hid ⟨_, _, _, _, _, H5.out⟩
  clear H5
  go_wp2
  go_loopw [11] (fun si wr => ∃ i : Nat, i ≤ len ∧ si = .int .i64 i ∧ Aside (∃ E O r L T, PlW w wr g b i E O r L T)) (fun si _ => len - (intOf si).toNat)
  case atStart => exact ⟨0, Nat.zero_le _, rfl, HS5.out⟩
  case round =>
    clear HS5
    obtain ⟨i, hi, rfl, HS⟩ := hrel
    obtain ⟨E, O, r, L, T, hW⟩ := HS.out
    by_cases hlt : i < len
    · obtain ⟨bs, o, x, rfl, hx, hb, hc⟩ := HL.out.atO hlt
      have hxm := List.mem_of_getElem? hx
      have HXM := Lib.hid hxm
      have HW := Lib.hid hW
      have HC := Lib.hid (show w.rangeAt bs (o + i * 10) (encO x) from fun j u hj => hc j u hj)
      have HBS := Lib.hid hb
      clear hx hb hc hxm HS hW
      go_upto_region 9 with fail
      go_cut [12, 13, 14, 15, 16, 17, 18, 19, 20, 21, 22, 23, 24, 25, 26] from 12 to 42 (fun s12 s13 s14 s15 s16 s17 s18 s19 s20 s21 s22 s23 s24 s25 s26 wx => ∃ (c : Nat) (E' : Nat → Prop) (O' : Od) (r' : Ro) (L' : List Mg) (T' : List Td), s12 = .pointer (some ⟨c, 0, none⟩) ∧ s13 = .bool true ∧ s14 = undef ∧ s15 = undef ∧ s16 = .bool true ∧ s17 = .bool false ∧ s18 = .slice (some ⟨bs, o, none⟩) len cap ∧ s19 = .bool true ∧ s20 = .bool false ∧ s21 = .int .i64 me ∧ s22 = .int .u64 (ms : Int) ∧ s23 = .pointer (some ⟨g, 0, none⟩) ∧ s24 = .int .i64 me ∧ s25 = .int .u64 (ms : Int) ∧ s26 = .agg r0.cs.toArray ∧ PlY w wx g b c (i + 1) E' O' r r' L' T')
      case first =>
        have W1 := Lib.hid (HW.out.later (Grw.refl wr).drew.below)
        have hdl := HDL.out x HXM.out
        have hS1 : RoB wr.drew b r ∧ wr.drew.rangeAt bs (o + i * 10) (encO x) := ⟨W1.out.box, fun j u hj => cell_later W1.out.m.bel (HC.out j u hj)⟩
        clear HW
        refine wp_region_held_drew (S := fun w' => RoB w' b r ∧ w'.rangeAt bs (o + i * 10) (encO x)) (by kernel_rfl) hS1 (fun hHeld => ?_)
        clear hS1
        generalize wr.drew = w6 at *
        refine stake (i := 0) (v := (.pointer (some ⟨g, 0, none⟩))) 34 rfl (by kernel_rfl) (by kernel_rfl) (by kernel_rfl) (by kernel_rfl) (fun _ _ _ h => h) (.inl ⟨by kernel_rfl, fun w' hS => by (go_simp)⟩) hHeld ?_
        (try simp only [Act.put, List.setIfInBounds_toArray, List.set_cons_zero, List.set_cons_succ])
        refine stake (i := 1) (v := (.agg r.cs.toArray)) 35 rfl (by kernel_rfl) (by kernel_rfl) (by kernel_rfl) (by kernel_rfl) (fun _ _ _ h => h) (yields_ro (by kernel_rfl) (.tmp 10) rfl b r (by kernel_rfl) (fun w hS => hS.1)) hHeld ?_
        (try simp only [Act.put, List.setIfInBounds_toArray, List.set_cons_zero, List.set_cons_succ])
        refine stake (i := 2) (v := (.slice (some ⟨bs, o, none⟩) len cap)) 36 rfl (by kernel_rfl) (by kernel_rfl) (by kernel_rfl) (by kernel_rfl) (fun _ _ _ h => h) (.inl ⟨by kernel_rfl, fun w' hS => by (go_simp)⟩) hHeld ?_
        (try simp only [Act.put, List.setIfInBounds_toArray, List.set_cons_zero, List.set_cons_succ])
        refine stake (i := 3) (v := (.int .i64 (i : Int))) 37 rfl (by kernel_rfl) (by kernel_rfl) (by kernel_rfl) (by kernel_rfl) (fun _ _ _ h => h) (.inl ⟨by kernel_rfl, fun w' hS => by (go_simp)⟩) hHeld ?_
        (try simp only [Act.put, List.setIfInBounds_toArray, List.set_cons_zero, List.set_cons_succ])
        refine stake (i := 4) (v := (.pointer (some ⟨bs, o + i * 10, none⟩))) 38 rfl (by kernel_rfl) (by kernel_rfl) (by kernel_rfl) (by kernel_rfl) (fun _ _ _ h => h) (.inl ⟨by kernel_rfl, fun w' hS => by (go_simp)⟩) hHeld ?_
        (try simp only [Act.put, List.setIfInBounds_toArray, List.set_cons_zero, List.set_cons_succ])
        refine stake (i := 5) (v := (.agg (encO x).toArray)) 39 rfl (by kernel_rfl) (by kernel_rfl) (by kernel_rfl) (by kernel_rfl) (fun _ _ _ h => h) (yields_oa (by kernel_rfl) (.tmp 38) rfl bs (o + i * 10) (by kernel_rfl) (fun w hS => hS.2)) hHeld ?_
        (try simp only [Act.put, List.setIfInBounds_toArray, List.set_cons_zero, List.set_cons_succ])
        refine wpAnyH_ready (rs := [6, 10]) (by kernel_rfl) (by simp) (AllReadyH.cons rfl (fun K hK => ?_) (AllReadyH.cons rfl (fun K hK => ?_) AllReadyH.nil))
        · have PP := oplay W1.out.m W1.out.rel (by omega) x (HO.out x HXM.out) (by omega)
          clear hHeld
          rw [if_pos (by kernel_rfl)]
          go_simp
          refine PP.mono ?_
          rintro e w7 hs
          obtain ⟨E', O', r', L', T', rfl, hX, hB, hC⟩ := W1.out.then hs
          have X8 := Lib.hid hX
          refine hK.out _ _ ⟨hB, fun j u hj => cell_later (hs_bel hs) (HC.out j u hj)⟩ (fun hHeld => ?_)
          clear hK K PP hs hX hB hC
          (try simp only [Act.put, List.setIfInBounds_toArray, List.set_cons_zero, List.set_cons_succ])
          refine stake (i := 7) (v := (.tuple #[.agg r'.cs.toArray, .bool true])) 33 rfl (by kernel_rfl) (by kernel_rfl) (by kernel_rfl) (by kernel_rfl) (fun _ _ _ h => h) (.inl ⟨by kernel_rfl, fun w' hS => by (go_simp)⟩) hHeld ?_
          (try simp only [Act.put, List.setIfInBounds_toArray, List.set_cons_zero, List.set_cons_succ])
          refine stake (i := 8) (v := (.agg r'.cs.toArray)) 41 rfl (by kernel_rfl) (by kernel_rfl) (by kernel_rfl) (by kernel_rfl) (fun _ _ _ h => h) (.inl ⟨by kernel_rfl, fun w' hS => by (go_simp)⟩) hHeld ?_
          (try simp only [Act.put, List.setIfInBounds_toArray, List.set_cons_zero, List.set_cons_succ])
          refine stake (i := 9) (v := (.bool true)) 42 rfl (by kernel_rfl) (by kernel_rfl) (by kernel_rfl) (by kernel_rfl) (fun _ _ _ h => h) (.inl ⟨by kernel_rfl, fun w' hS => by (go_simp)⟩) hHeld ?_
          (try simp only [Act.put, List.setIfInBounds_toArray, List.set_cons_zero, List.set_cons_succ])
          refine wpAnyH_ready (rs := [10]) (by kernel_rfl) (by simp) (AllReadyH.cons rfl (fun K hK => ?_) AllReadyH.nil)
          clear hHeld
          rw [if_pos (by kernel_rfl)]
          go_simp
          refine hK.out _ _ ⟨X8.out.box, fun j u hj => cell_later X8.out.m.bel (HC.out j u hj)⟩ (fun hHeld => ?_)
          clear hK K
          (try simp only [Act.put, List.setIfInBounds_toArray, List.set_cons_zero, List.set_cons_succ])
          refine wpAnyH_ready (rs := [11]) (by kernel_rfl) (by simp) (AllReadyH.cons rfl (fun K hK => ?_) AllReadyH.nil)
          clear hHeld
          rw [if_pos (by kernel_rfl)]
          refine wp_store_row 41 (.tmp 12) (.tmp 41) rfl w7.heap.size r'.cs.toArray rfl rfl 41 _ X8.out.new.own (by rw [List.size_toArray, Ro.cs_length]; exact ro_size) (by rw [List.size_toArray, List.size_toArray, Ro.cs_length, Ro.cs_length]) r'.cs_one ?_
          have Y9 := Lib.hid X8.out.laid
          refine hK.out _ _ ⟨Y9.out.box, fun j u hj => cell_later Y9.out.m.bel (HC.out j u hj)⟩ (fun hHeld => ?_)
          clear hK K
          (try simp only [Act.put, List.setIfInBounds_toArray, List.set_cons_zero, List.set_cons_succ])
          refine stake (i := 12) (v := (.bool true)) 13 rfl (by kernel_rfl) (by kernel_rfl) (by kernel_rfl) (by kernel_rfl) (fun _ _ _ h => h) (.inl ⟨by kernel_rfl, fun w' hS => by (go_simp)⟩) hHeld ?_
          (try simp only [Act.put, List.setIfInBounds_toArray, List.set_cons_zero, List.set_cons_succ])
          refine wpAnyH_done (by kernel_rfl) ?_ _
          clear hHeld
          go_wp2_with fail
          go_meet
          exact ⟨w7.heap.size, E', O', r', L', T', rfl, rfl, rfl, rfl, rfl, rfl, rfl, rfl, rfl, rfl, rfl, rfl, rfl, rfl, rfl, Y9.out⟩
        · clear hHeld
          rw [if_pos (by kernel_rfl)]
          go_simp
          have L7 := ((Grw.refl w6).alloc (.cells ro0.cs.toArray 41)).below
          have W2 := Lib.hid (W1.out.later L7)
          have PP := oplay W2.out.m W2.out.rel (by omega) x (HO.out x HXM.out) (by omega)
          refine hK.out _ _ ⟨W2.out.box, fun j u hj => cell_later W2.out.m.bel (HC.out j u hj)⟩ (fun hHeld => ?_)
          clear hK K L7 W2
          (try simp only [Act.put, List.setIfInBounds_toArray, List.set_cons_zero, List.set_cons_succ])
          refine wpAnyH_ready (rs := [6]) (by kernel_rfl) (by simp) (AllReadyH.cons rfl (fun K hK => ?_) AllReadyH.nil)
          clear hHeld
          rw [if_pos (by kernel_rfl)]
          go_simp
          refine PP.mono ?_
          rintro e w7 hs
          obtain ⟨E', O', r', L', T', rfl, hX, hC⟩ := W1.out.first hs
          have X8 := Lib.hid hX
          refine hK.out _ _ ⟨X8.out.box, fun j u hj => cell_later X8.out.m.bel (HC.out j u hj)⟩ (fun hHeld => ?_)
          clear hK K PP hs hX hC
          (try simp only [Act.put, List.setIfInBounds_toArray, List.set_cons_zero, List.set_cons_succ])
          refine stake (i := 7) (v := (.tuple #[.agg r'.cs.toArray, .bool true])) 33 rfl (by kernel_rfl) (by kernel_rfl) (by kernel_rfl) (by kernel_rfl) (fun _ _ _ h => h) (.inl ⟨by kernel_rfl, fun w' hS => by (go_simp)⟩) hHeld ?_
          (try simp only [Act.put, List.setIfInBounds_toArray, List.set_cons_zero, List.set_cons_succ])
          refine stake (i := 8) (v := (.agg r'.cs.toArray)) 41 rfl (by kernel_rfl) (by kernel_rfl) (by kernel_rfl) (by kernel_rfl) (fun _ _ _ h => h) (.inl ⟨by kernel_rfl, fun w' hS => by (go_simp)⟩) hHeld ?_
          (try simp only [Act.put, List.setIfInBounds_toArray, List.set_cons_zero, List.set_cons_succ])
          refine stake (i := 9) (v := (.bool true)) 42 rfl (by kernel_rfl) (by kernel_rfl) (by kernel_rfl) (by kernel_rfl) (fun _ _ _ h => h) (.inl ⟨by kernel_rfl, fun w' hS => by (go_simp)⟩) hHeld ?_
          (try simp only [Act.put, List.setIfInBounds_toArray, List.set_cons_zero, List.set_cons_succ])
          refine wpAnyH_ready (rs := [11]) (by kernel_rfl) (by simp) (AllReadyH.cons rfl (fun K hK => ?_) AllReadyH.nil)
          clear hHeld
          rw [if_pos (by kernel_rfl)]
          refine wp_store_row 41 (.tmp 12) (.tmp 41) rfl w6.heap.size r'.cs.toArray rfl rfl 41 _ X8.out.new.own (by rw [List.size_toArray, Ro.cs_length]; exact ro_size) (by rw [List.size_toArray, List.size_toArray, Ro.cs_length, Ro.cs_length]) r'.cs_one ?_
          have Y9 := Lib.hid X8.out.laid
          refine hK.out _ _ ⟨Y9.out.box, fun j u hj => cell_later Y9.out.m.bel (HC.out j u hj)⟩ (fun hHeld => ?_)
          clear hK K
          (try simp only [Act.put, List.setIfInBounds_toArray, List.set_cons_zero, List.set_cons_succ])
          refine stake (i := 12) (v := (.bool true)) 13 rfl (by kernel_rfl) (by kernel_rfl) (by kernel_rfl) (by kernel_rfl) (fun _ _ _ h => h) (.inl ⟨by kernel_rfl, fun w' hS => by (go_simp)⟩) hHeld ?_
          (try simp only [Act.put, List.setIfInBounds_toArray, List.set_cons_zero, List.set_cons_succ])
          refine wpAnyH_done (by kernel_rfl) ?_ _
          clear hHeld
          go_wp2_with fail
          go_meet
          exact ⟨w6.heap.size, E', O', r', L', T', rfl, rfl, rfl, rfl, rfl, rfl, rfl, rfl, rfl, rfl, rfl, rfl, rfl, rfl, rfl, Y9.out⟩
      case rest =>
        obtain ⟨c, E1, O1, r1, L1, T1, rfl, rfl, rfl, rfl, rfl, rfl, rfl, rfl, rfl, rfl, rfl, rfl, rfl, rfl, rfl, hY⟩ := hcut
        have H10 := Lib.hid hY.done
        have HN := Lib.hid hY.new
        have HBX := Lib.hid hY.box
        clear hY
        go_upto_region 11 with (first | (refine load_ro rfl (.tmp 12) rfl c r1 rfl HN.out ?_) | (refine store_ro rfl (.tmp 10) (.tmp 43) rfl b r1 rfl rfl HBX.out ?_) | fail)
        clear HN HBX
        generalize (wc.setRow b r1.cs.toArray) = w10 at *
        obtain ⟨gh, gz, F, zs, hOA⟩ := H10.out.m.rep.ex
        have HOA := Lib.hid hOA
        clear hOA
        have D10 := (Grw.refl w10).drew.below
        have H11 := Lib.hid (H10.out.later D10)
        have HA11 := Lib.hid (HOA.out.below D10)
        clear D10 H10 HOA
        refine wp_region_held_drew (S := fun w' => Below w10.drew.heap.size w10.drew w') (by kernel_rfl) (Below.refl _ _) (fun hHeld => ?_)
        generalize w10.drew = w11 at *
        obtain ⟨kn, hkn⟩ : ∃ kn, kn = r1.last.n := ⟨_, rfl⟩
        obtain ⟨kp, hkp⟩ : ∃ kp, kp = r1.last.p := ⟨_, rfl⟩
        obtain ⟨ck, hck⟩ : ∃ ck, ck = r1.clk := ⟨_, rfl⟩
        have hl0 := H11.out.box.l0
        have hl1 := H11.out.box.l1
        have hcl := H11.out.box.clock
        have hg1 := HA11.out.c1
        have PL := olast H11.out.m.rep
        rw [H11.out.rel.last] at PL
        rw [← hkn, ← hkp] at PL
        rw [← hkn] at hl0
        rw [← hkp] at hl1
        rw [← hck] at hcl
        have HK := Lib.hid hck
        have hq := held_key14
        have hbl := H11.out.box.lt
        have hgl := H11.out.m.rep.lim g H11.out.m.rep.eg
        clear hkn hkp hck
        refine stake (i := 0) (v := (.bool true)) 44 rfl (by kernel_rfl) (by kernel_rfl) (by kernel_rfl) (by kernel_rfl) (fun _ _ _ h => h) (.inl ⟨by kernel_rfl, fun w' hS => by (go_simp)⟩) hHeld ?_
        (try simp only [Act.put, List.setIfInBounds_toArray, List.set_cons_zero, List.set_cons_succ])
        refine stake (i := 1) (v := (.bool false)) 45 rfl (by kernel_rfl) (by kernel_rfl) (by kernel_rfl) (by kernel_rfl) (fun _ _ _ h => h) (.inl ⟨by kernel_rfl, fun w' hS => by (go_simp)⟩) hHeld ?_
        (try simp only [Act.put, List.setIfInBounds_toArray, List.set_cons_zero, List.set_cons_succ])
        refine stake (i := 2) (v := (.bool false)) 46 rfl (by kernel_rfl) (by kernel_rfl) (by kernel_rfl) (by kernel_rfl) (fun _ _ _ h => h) (.inl ⟨by kernel_rfl, fun w' hS => by (go_simp)⟩) hHeld ?_
        (try simp only [Act.put, List.setIfInBounds_toArray, List.set_cons_zero, List.set_cons_succ])
        refine stake (i := 3) (v := (.pointer (some ⟨g, 0, none⟩))) 47 rfl (by kernel_rfl) (by kernel_rfl) (by kernel_rfl) (by kernel_rfl) (fun _ _ _ h => h) (.inl ⟨by kernel_rfl, fun w' hS => by (go_simp)⟩) hHeld ?_
        (try simp only [Act.put, List.setIfInBounds_toArray, List.set_cons_zero, List.set_cons_succ])
        refine stake (i := 5) (v := (.pointer (some ⟨b, 197, none⟩))) 49 rfl (by kernel_rfl) (by kernel_rfl) (by kernel_rfl) (by kernel_rfl) (fun _ _ _ h => h) (.inl ⟨by kernel_rfl, fun w' hS => by (go_simp)⟩) hHeld ?_
        (try simp only [Act.put, List.setIfInBounds_toArray, List.set_cons_zero, List.set_cons_succ])
        refine stake (i := 6) (v := (.agg #[.int .u64 kn, .int .i64 kp])) 50 rfl (by kernel_rfl) (by kernel_rfl) (by kernel_rfl) (by kernel_rfl) (fun _ _ _ h => h) (.inl ⟨by kernel_rfl, fun w' hS => by (have e0 := cell_later hS hl0; have e1 := cell_later hS hl1; go_simp)⟩) hHeld ?_
        (try simp only [Act.put, List.setIfInBounds_toArray, List.set_cons_zero, List.set_cons_succ])
        refine wpAnyH_ready (rs := [4]) (by kernel_rfl) (by simp) (AllReadyH.cons rfl (fun K hK => ?_) AllReadyH.nil)
        clear hHeld
        rw [if_pos (by kernel_rfl)]
        go_simp
        refine PL.mono ?_
        rintro e w12 ⟨rfl, B12⟩
        have HB12 := Lib.hid B12
        have PR := orest (H11.out.m.rep.below B12) (by omega)
        refine hK.out _ _ B12 (fun hHeld => ?_)
        clear hK K PL B12
        (try simp only [Act.put, List.setIfInBounds_toArray, List.set_cons_zero, List.set_cons_succ])
        refine stake (i := 7) (v := (.bool false)) 51 rfl (by kernel_rfl) (by kernel_rfl) (by kernel_rfl) (by kernel_rfl) (fun _ _ _ h => h) (.inl ⟨by kernel_rfl, fun w' hS => by (go_simp)⟩) hHeld ?_
        (try simp only [Act.put, List.setIfInBounds_toArray, List.set_cons_zero, List.set_cons_succ])
        refine stake (i := 8) (v := (.bool false)) 52 rfl (by kernel_rfl) (by kernel_rfl) (by kernel_rfl) (by kernel_rfl) (fun _ _ _ h => h) (.inl ⟨by kernel_rfl, fun w' hS => by (go_simp)⟩) hHeld ?_
        (try simp only [Act.put, List.setIfInBounds_toArray, List.set_cons_zero, List.set_cons_succ])
        refine stake (i := 9) (v := (.bool false)) 53 rfl (by kernel_rfl) (by kernel_rfl) (by kernel_rfl) (by kernel_rfl) (fun _ _ _ h => h) (.inl ⟨by kernel_rfl, fun w' hS => by (go_simp)⟩) hHeld ?_
        (try simp only [Act.put, List.setIfInBounds_toArray, List.set_cons_zero, List.set_cons_succ])
        refine stake (i := 10) (v := (.pointer (some ⟨g, 0, none⟩))) 54 rfl (by kernel_rfl) (by kernel_rfl) (by kernel_rfl) (by kernel_rfl) (fun _ _ _ h => h) (.inl ⟨by kernel_rfl, fun w' hS => by (go_simp)⟩) hHeld ?_
        (try simp only [Act.put, List.setIfInBounds_toArray, List.set_cons_zero, List.set_cons_succ])
        refine stake (i := 12) (v := (.agg r1.cs.toArray)) 56 rfl (by kernel_rfl) (by kernel_rfl) (by kernel_rfl) (by kernel_rfl) (fun _ _ _ h => h) (yields_ro (by kernel_rfl) (.tmp 10) rfl b r1 (by kernel_rfl) (fun w hS => H11.out.box.below hS)) hHeld ?_
        (try simp only [Act.put, List.setIfInBounds_toArray, List.set_cons_zero, List.set_cons_succ])
        refine wpAnyH_ready (rs := [11]) (by kernel_rfl) (by simp) (AllReadyH.cons rfl (fun K hK => ?_) AllReadyH.nil)
        clear hHeld
        rw [if_pos (by kernel_rfl)]
        go_simp
        refine PR.mono ?_
        rintro e w13 ⟨⟨sa, sn, sc⟩, Y, rfl, hO, hI, hB, hfw⟩
        have HB13 := Lib.hid (HB12.out.trans (hB.mono HB12.out.size))
        have HOR := Lib.hid (And.intro hO (And.intro hI hfw))
        have PD := H11.out.rest w13 HB13.out
        refine hK.out _ _ HB13.out (fun hHeld => ?_)
        clear hK K PR hO hI hB hfw HB12
        (try simp only [Act.put, List.setIfInBounds_toArray, List.set_cons_zero, List.set_cons_succ])
        refine wpAnyH_ready (rs := [13]) (by kernel_rfl) (by simp) (AllReadyH.cons rfl (fun K hK => ?_) AllReadyH.nil)
        clear hHeld
        rw [if_pos (by kernel_rfl)]
        go_simp
        refine PD.mono ?_
        rintro e w14 ⟨ta, tn, tc, M, rfl, hM, hLM, hB⟩
        have HB14 := Lib.hid (HB13.out.trans (hB.mono HB13.out.size))
        have PALL := all_rows14 (sc := sc) (tc := tc) (HOR.out.1.slot.lst.below hB) hLM (fun x hx => ⟨((HOR.out.1.deps x hx).deps).below hB, (HOR.out.1.deps x hx).few⟩) (fun y hy => (H11.out.m.dp y (above_mem _ y ((hM.fil.mem y).1 (List.mem_filter.1 hy).1))).below HB14.out) (H11.out.rel.rest HOR.out.2.1 hM) (show sn ≤ 1048576 by have : sn ≤ 64000 := HOR.out.2.2; omega)
        refine hK.out _ _ HB14.out (fun hHeld => ?_)
        clear hK K PD hM hLM hB HB13 HOR
        (try simp only [Act.put, List.setIfInBounds_toArray, List.set_cons_zero, List.set_cons_succ])
        refine wpAnyH_ready (rs := [14]) (by kernel_rfl) (by simp) (AllReadyH.cons rfl (fun K hK => ?_) AllReadyH.nil)
        clear hHeld
        rw [if_pos (by kernel_rfl)]
        go_simp
        refine PALL.mono ?_
        rintro e w15 ⟨rfl, hG⟩
        have HB15 := Lib.hid (HB14.out.trans (hG.below.mono HB14.out.size))
        have PC := zclock (HA11.out.below HB15.out).hz
        rw [H11.out.rel.clk, ← HK.out] at PC
        refine hK.out _ _ HB15.out (fun hHeld => ?_)
        clear hK K PALL hG HB14
        (try simp only [Act.put, List.setIfInBounds_toArray, List.set_cons_zero, List.set_cons_succ])
        refine stake (i := 15) (v := (.bool false)) 59 rfl (by kernel_rfl) (by kernel_rfl) (by kernel_rfl) (by kernel_rfl) (fun _ _ _ h => h) (.inl ⟨by kernel_rfl, fun w' hS => by (go_simp)⟩) hHeld ?_
        (try simp only [Act.put, List.setIfInBounds_toArray, List.set_cons_zero, List.set_cons_succ])
        refine stake (i := 16) (v := (.bool false)) 60 rfl (by kernel_rfl) (by kernel_rfl) (by kernel_rfl) (by kernel_rfl) (fun _ _ _ h => h) (.inl ⟨by kernel_rfl, fun w' hS => by (go_simp)⟩) hHeld ?_
        (try simp only [Act.put, List.setIfInBounds_toArray, List.set_cons_zero, List.set_cons_succ])
        refine stake (i := 17) (v := (.bool false)) 61 rfl (by kernel_rfl) (by kernel_rfl) (by kernel_rfl) (by kernel_rfl) (fun _ _ _ h => h) (.inl ⟨by kernel_rfl, fun w' hS => by (go_simp)⟩) hHeld ?_
        (try simp only [Act.put, List.setIfInBounds_toArray, List.set_cons_zero, List.set_cons_succ])
        refine stake (i := 18) (v := (.pointer (some ⟨g, 0, none⟩))) 62 rfl (by kernel_rfl) (by kernel_rfl) (by kernel_rfl) (by kernel_rfl) (fun _ _ _ h => h) (.inl ⟨by kernel_rfl, fun w' hS => by (go_simp)⟩) hHeld ?_
        (try simp only [Act.put, List.setIfInBounds_toArray, List.set_cons_zero, List.set_cons_succ])
        refine stake (i := 19) (v := (.pointer (some ⟨g, 0, none⟩))) 63 rfl (by kernel_rfl) (by kernel_rfl) (by kernel_rfl) (by kernel_rfl) (fun _ _ _ h => h) (.inl ⟨by kernel_rfl, fun w' hS => by (go_simp)⟩) hHeld ?_
        (try simp only [Act.put, List.setIfInBounds_toArray, List.set_cons_zero, List.set_cons_succ])
        refine stake (i := 20) (v := (.pointer (some ⟨g, 1, none⟩))) 64 rfl (by kernel_rfl) (by kernel_rfl) (by kernel_rfl) (by kernel_rfl) (fun _ _ _ h => h) (.inl ⟨by kernel_rfl, fun w' hS => by (go_simp)⟩) hHeld ?_
        (try simp only [Act.put, List.setIfInBounds_toArray, List.set_cons_zero, List.set_cons_succ])
        refine stake (i := 21) (v := (.pointer (some ⟨gz, 0, none⟩))) 65 rfl (by kernel_rfl) (by kernel_rfl) (by kernel_rfl) (by kernel_rfl) (fun _ _ _ h => h) (.inl ⟨by kernel_rfl, fun w' hS => by (have e0 := cell_later hS hg1; go_simp)⟩) hHeld ?_
        (try simp only [Act.put, List.setIfInBounds_toArray, List.set_cons_zero, List.set_cons_succ])
        refine stake (i := 23) (v := (.pointer (some ⟨b, 67, none⟩))) 67 rfl (by kernel_rfl) (by kernel_rfl) (by kernel_rfl) (by kernel_rfl) (fun _ _ _ h => h) (.inl ⟨by kernel_rfl, fun w' hS => by (go_simp)⟩) hHeld ?_
        (try simp only [Act.put, List.setIfInBounds_toArray, List.set_cons_zero, List.set_cons_succ])
        refine stake (i := 24) (v := (.pointer (some ⟨b, 67, none⟩))) 68 rfl (by kernel_rfl) (by kernel_rfl) (by kernel_rfl) (by kernel_rfl) (fun _ _ _ h => h) (.inl ⟨by kernel_rfl, fun w' hS => by (go_simp)⟩) hHeld ?_
        (try simp only [Act.put, List.setIfInBounds_toArray, List.set_cons_zero, List.set_cons_succ])
        refine stake (i := 25) (v := (.int .u64 (ck : Int))) 69 rfl (by kernel_rfl) (by kernel_rfl) (by kernel_rfl) (by kernel_rfl) (fun _ _ _ h => h) (.inl ⟨by kernel_rfl, fun w' hS => by (have e0 := cell_later hS hcl; go_simp)⟩) hHeld ?_
        (try simp only [Act.put, List.setIfInBounds_toArray, List.set_cons_zero, List.set_cons_succ])
        refine wpAnyH_ready (rs := [22]) (by kernel_rfl) (by simp) (AllReadyH.cons rfl (fun K hK => ?_) AllReadyH.nil)
        clear hHeld
        rw [if_pos (by kernel_rfl)]
        go_simp
        refine PC.mono ?_
        rintro e w16 ⟨rfl, rfl⟩
        refine hK.out _ _ HB15.out (fun hHeld => ?_)
        clear hK K PC
        (try simp only [Act.put, List.setIfInBounds_toArray, List.set_cons_zero, List.set_cons_succ])
        refine stake (i := 26) (v := (.bool false)) 70 rfl (by kernel_rfl) (by kernel_rfl) (by kernel_rfl) (by kernel_rfl) (fun _ _ _ h => h) (.inl ⟨by kernel_rfl, fun w' hS => by (go_simp)⟩) hHeld ?_
        (try simp only [Act.put, List.setIfInBounds_toArray, List.set_cons_zero, List.set_cons_succ])
        refine stake (i := 27) (v := (.bool false)) 71 rfl (by kernel_rfl) (by kernel_rfl) (by kernel_rfl) (by kernel_rfl) (fun _ _ _ h => h) (.inl ⟨by kernel_rfl, fun w' hS => by (go_simp)⟩) hHeld ?_
        (try simp only [Act.put, List.setIfInBounds_toArray, List.set_cons_zero, List.set_cons_succ])
        refine wpAnyH_done (by kernel_rfl) ?_ _
        clear hHeld hl0 hl1 hcl hg1 hq
        have HF := Lib.hid (H11.out.later HB15.out)
        clear H11 HA11 HB15 HK
        go_wp2
        go_roundw
        case rel => exact ⟨i + 1, by omega, by go_num, ⟨E1, O1, r1, L1, T1, HF.out⟩⟩
        case measure => simp [intOf]; omega
    · obtain rfl : i = len := by omega
      have HW := Lib.hid hW
      have PD := odones hW.m.rep (fun k hk => hW.rel.done k hk) n n0 n1
      obtain ⟨c, hc⟩ : ∃ c, c = vecN n := ⟨_, rfl⟩
      have hc64 : c ≤ 64 := by rw [hc]; unfold vecN; omega
      obtain ⟨mn, hmn⟩ : ∃ mn : Int, mn = min n 64 := ⟨_, rfl⟩
      have HM1 := Lib.hid (show (if (64 : Int) < n then 64 else n) = mn by rw [hmn]; split <;> omega)
      have HM2 := Lib.hid (show (if mn > (0 : Int) then mn else 0) = (c : Int) by rw [hc, hmn]; unfold vecN; split <;> omega)
      rw [← hc] at PD
      clear HS hW hc hmn
      go_wp2_with fail
      refine PD.mono ?_
      rintro e w6 ⟨rfl, hcells, B6⟩
      have HX := Lib.hid (vec_lst (w := wr) hcells)
      have HW6 := Lib.hid (HW.out.later B6)
      have HBB := Lib.hid HW6.out.m.bel
      have HVD := Lib.hid (show Lst encV 1 w6 (some ⟨b, 133, none⟩) c (firstN O.dn c) by rw [HW6.out.rel.dn]; exact HW6.out.box.vec c hc64)
      have PV := vec14 (some ⟨wr.heap.size, 0, none⟩) (some ⟨b, 133, none⟩) c c 64 (firstN O.dn c) w6 HX.out HVD.out hc64
      clear PD hcells B6 HX HVD
      have hci : (c : Int) ≤ 64 := by omega
      have PD1 := fun (W : World) (hb : Below w6.heap.size w6 W) => odone (HW6.out.m.rep.below hb) (-1) (by decide) (by decide)
      have PD2 := fun (W : World) (hb : Below w6.heap.size w6 W) => odone (HW6.out.m.rep.below hb) 64 (by decide) (by decide)
      have hz1 : doneO O (-1) = 0 := by unfold doneO; rw [show mem O.ms (-1) = false from rfl]; rfl
      have hz2 : doneO O 64 = 0 := by unfold doneO; rw [show mem O.ms 64 = false by unfold mem; simp]; rfl
      rw [hz1] at PD1
      rw [hz2] at PD2
      have HPD := Lib.hid (And.intro PD1 PD2)
      clear hz1 hz2 PD1 PD2
      go_wp2_with (first | (with_reducible refine step_min2 rfl (.tmp 76) (.const (.int .i64 64)) _ _ rfl .i64 n 64 mn rfl rfl HM1.out ?_) | (with_reducible refine step_max2 rfl (.const (.int .i64 0)) (.tmp 77) _ _ rfl .i64 0 mn (c : Int) rfl rfl HM2.out ?_) | fail)
      refine PV.mono ?_
      rintro e w7 ⟨rfl, B7⟩
      have P1 := HPD.out.1 w7 B7
      have HB7 := Lib.hid B7
      clear PV B7
      go_wp2_with fail
      with_reducible refine P1.mono ?_
      rintro e w8 ⟨rfl, rfl⟩
      have P2 := HPD.out.2 w7 HB7.out
      clear P1
      go_wp2_with fail
      with_reducible refine P2.mono ?_
      rintro e w9 ⟨rfl, rfl⟩
      clear P2 HPD
      go_wp2
      go_ret
      exact ⟨rfl, HBB.out.trans (HB7.out.mono HBB.out.size)⟩
theorem walk_OrderPlays {w : World} (m : Int) (wm : (Lit.int .i64 m).wf = true) (a : Int) (wa : (Lit.int .u64 a).wf = true) (ao : Option Addr) (len cap : Nat) (l : List OA) (hl : Lst encO 10 w ao len l ∧ ∀ m ∈ l, m.ok w) (n : Int) (wn : (Lit.int .i64 n).wf = true) :
    Calls Try.prog 3 #[.int .i64 m, .int .u64 a, .slice ao len cap, .int .i64 n] w fun e w' => e = .returned (.bool true) ∧ Below w.heap.size w w' := by
  have a0 := Go.bounds_u64 wa
  have b0 := Go.bounds_i64 wn
  have c0 := Go.bounds_i64 wm
  obtain ⟨a, rfl⟩ := Int.eq_ofNat_of_zero_le (show 0 ≤ a by omega)
  exact plays_core m (by omega) (by omega) a (by omega) ao len cap l n (by omega) (by omega) w hl.1 hl.2
end Go.Proofs.Ytfocjcdfpnbkjaa
