/- The walk of 'StreamPlays'. (Written by wip/gen_streamplays.py.) -/
import Derived.Test.YtcnfkjjfegjecaaSPlays
set_option linter.unusedVariables false
set_option linter.unusedSimpArgs false
namespace Go.Proofs.Ytcnfkjjfegjecaa
open Go.RowKit Go.Sort Go.Maps

theorem out_few {S : Sm Mg} (hI : SmInv sqG S) (m : Mg) : (outS sqG S m).length ≤ 64 := by
  by_cases hc : codeS sqG S m = 0
  · have e : outS sqG S m = (drawnS sqG S m).2.2 := if_pos hc
    rw [e]
    have := (drawn_ok sqG hI hc).len
    have := hI.few
    simp at *
    omega
  · have e : outS sqG S m = [] := if_neg hc
    rw [e]
    exact Nat.zero_le _
theorem PlSt.below {w wr w' : World} {g b em k : Nat} {l : List Mg} {S : Sm Mg} {ho : Option Addr} {hc : Nat} (h : PlSt w wr g b em k l S ho hc) (hb : Below wr.heap.size wr w') : PlSt w w' g b em k l S ho hc :=
  ⟨h.rep.below hb, h.blk.below hb, h.row.below hb, h.nil, h.cap, h.ord, h.bel.trans (hb.mono h.bel.size)⟩
theorem rs_range {w : World} {g : Nat} {sz : Int} {c : Nat} {v : Value} (h : RsB w g sz c v) : w.rangeAt g 0 [.int .i64 sz, .int .u32 (c : Int), v] := fun j u hj => by
  rw [Nat.zero_add]
  exact h.own.at_ j u (by rw [← List.getElem?_toArray] at hj; exact hj)
set_option maxHeartbeats 16000000 in
set_option maxRecDepth 100000 in
theorem plays_core (n : Int) (n0 : -9223372036854775808 ≤ n) (n1 : n ≤ 9223372036854775807) (ao : Option Addr) (len cap : Nat) (l : List Mg) (u : Nat) (hu : u < 4294967296) (w : World) (hl : Lst encG 6 w ao len l) (hm : ∀ m ∈ l, DpIn w m ∧ 0 ≤ m.q ∧ m.q < 4294967296) :
    Calls Try.prog 3 #[.int .i64 n, .slice ao len cap, .int .u32 (u : Int)] w fun e w' => e = .returned (.bool true) ∧ Below w.heap.size w w' := by
  have HL := Lib.hid hl
  have HM := Lib.hid hm
  have HAW := Lib.hid (sawake w)
  have mixed : Try.prog.follows .mixedOrders = true := by kernel_rfl
  clear hl hm
  go_enter Try.func3, Try.ntmps3
  go_wp2_with fail
  refine HAW.out.mono ?_
  rintro e w1 ⟨rfl, L1⟩
  have HFE := Lib.hid (fewG_any ao len cap l w1 (HL.out.below L1))
  have HL1 := Lib.hid L1
  clear HAW L1
  go_wp2_with fail
  refine HFE.out.mono ?_
  rintro e w2 ⟨(rfl | ⟨rfl, h300, hdl⟩), L2⟩
  · have HL2 := Lib.hid (HL1.out.trans (L2.mono HL1.out.size))
    clear HFE HL1 L2
    go_wp2_with fail
    go_ret
    exact ⟨rfl, HL2.out⟩
  have HL2 := Lib.hid (HL1.out.trans (L2.mono HL1.out.size))
  have HNW := Lib.hid (snew_any n w2 n0 n1)
  have HDL := Lib.hid hdl
  have HRN := Lib.hid (fun W => rnew n W)
  clear HFE HL1 L2 hdl
  go_wp2_with (first
    | (go_at_call 9; refine HNW.out.mono ?_; rintro e w3 ⟨rfl, R3, L3⟩; have HR3 := Lib.hid R3; have HL3 := Lib.hid (HL2.out.trans (L3.mono HL2.out.size)); clear R3 L3)
    | (go_at_call 10; refine (HRN.out _).mono ?_; rintro e w4 ⟨rfl, L4⟩; have HR4 := Lib.hid (HR3.out.below L4); have HL4 := Lib.hid (HL3.out.trans (L4.mono HL3.out.size)); have hs34 := L4.size; clear L4)
    | (refine store_rs rfl (.tmp 8) (.tmp 27) rfl w4.heap.size (szN n : Int) 0 none 0 0 rfl rfl (RsB.new w4 0 0 (.slice none 0 0)) ?_))
  have h23 := HL2.out.size
  have h4 := HR4.out.lt
  obtain ⟨g, hge⟩ : ∃ g, g = w2.heap.size + 1 := ⟨_, rfl⟩
  obtain ⟨b, hbe⟩ : ∃ b, b = w2.heap.size := ⟨_, rfl⟩
  obtain ⟨em, hem⟩ : ∃ em, em = w4.heap.size := ⟨_, rfl⟩
  have L5 : Below w4.heap.size w4 ((w4.alloc (.cells #[.int .i64 0, .int .u32 0, .slice none 0 0] 29)).setRow w4.heap.size #[.int .i64 (szN n : Int), .int .u32 (0 : Nat), .slice none 0 0]) := belowRow10 ((Grw.refl w4).alloc _).below _ (Nat.le_refl _) _
  have B5 : RsB ((w4.alloc (.cells #[.int .i64 0, .int .u32 0, .slice none 0 0] 29)).setRow w4.heap.size #[.int .i64 (szN n : Int), .int .u32 (0 : Nat), .slice none 0 0]) w4.heap.size (szN n : Int) 0 (.slice none 0 0) := (RsB.new w4 0 0 (.slice none 0 0)).put _ _ _
  have HST := Lib.hid (show PlSt w ((w4.alloc (.cells #[.int .i64 0, .int .u32 0, .slice none 0 0] 29)).setRow w4.heap.size #[.int .i64 (szN n : Int), .int .u32 (0 : Nat), .slice none 0 0]) g b em 0 l (newS n) none 0 from by
    have hlt := B5.lt
    refine ⟨?_, by rw [hem]; exact B5, ⟨[], ⟨rfl, fun h => absurd h (Nat.lt_irrefl 0)⟩, rfl, fun i x m hx => by simp at hx⟩, fun _ => rfl, Nat.le_refl _, OrdL.start l n, HL4.out.trans (L5.mono HL4.out.size)⟩
    have h0 := HR4.out
    rw [← hge, ← hbe] at h0
    refine (h0.below L5).more (F' := F3 g b em) (fun k hk => by rcases hk with hk | hk; exact .inl hk; exact .inr (.inl hk)) (fun k hk => ?_) w4 L5 h0 (fun k hk => ?_)
    · have := L5.size
      rcases hk with hk | hk | hk <;> omega
    · rcases hk with hk | hk | hk
      · exact .inl (.inl hk)
      · exact .inl (.inr hk)
      · exact .inr (by omega))
  rw [← hge, ← hem]
  rw [← hem] at HST
  have hgw : w.heap.size ≤ g := by omega
  have hbw : w.heap.size ≤ b := by omega
  have hgm : g < em := by omega
  have hbm : b < em := by omega
  have hwm : w.heap.size ≤ em := by omega
  clear HNW HRN HR3 HL3 HR4 HL4 HL2 L5 B5 hge hbe h23 h4 hs34 hem
  generalize ((w4.alloc (.cells #[.int .i64 0, .int .u32 0, .slice none 0 0] 29)).setRow em #[.int .i64 (szN n : Int), .int .u32 (0 : Nat), .slice none 0 0]) = w5 at *
  have HST0 := HST
  clear HST
  go_loopw [9] (fun si wr => ∃ (k : Nat) (S : Sm Mg) (ho : Option Addr) (hc : Nat), k ≤ len ∧ si = .int .i64 k ∧ PlSt w wr g b em k l S ho hc) (fun si _ => len - (intOf si).toNat)
  case atStart => exact ⟨0, newS n, none, 0, Nat.zero_le _, rfl, HST0.out⟩
  case round =>
    clear HST0
    obtain ⟨k, S, ho, hc, hk, rfl, hst⟩ := hrel
    have HST := Lib.hid hst
    clear hst
    by_cases hlt : k < len
    · obtain ⟨b1, o1, m, rfl, hx, hb1, h1⟩ := HL.out.atG hlt
      have hmem := List.mem_of_getElem? hx
      obtain ⟨hmd, hq0, hq1⟩ := HM.out m hmem
      have hdm := HDL.out m hmem
      have hcnt := HST.out.ord.count
      have hbs := HST.out.bel.size
      have HINV := Lib.hid HST.out.ord.inv
      have HHELD := Lib.hid HST.out.ord.held
      have HT : Hid (Calls Try.prog 11 #[.pointer (some ⟨g, 0, none⟩), .agg #[.int .i64 m.f, .int .u32 m.q, .int .u64 m.s, .int .i64 m.v, .slice m.a m.dl m.dc, .string m.text]] wr (TookPost wr (F3 g b em) g b S m)) := Lib.hid (stake_any HST.out.rep HINV.out m (hmd.below HST.out.bel) hq0 hq1 (by omega) (by omega))
      have HNX := Lib.hid (HST.out.ord.step hmem)
      have HMW := Lib.hid (show ∀ W, Below w.heap.size w W → W.rangeAt b1 (o1 + k * 6) (encG m) ∧ DpOff W (newB w.heap.size) m from fun W hW => ⟨fun j v hv => cell_later hW (h1 j v hv), hmd.below hW, fun ad e h0 hf => by
        obtain ⟨b2, o2, e2, R2⟩ := hmd.src h0
        rw [e] at e2
        injection e2 with e2
        have hl2 := hmd.size
        have c1 := R2 0 _ (List.getElem?_eq_getElem (by omega)) 0 _ rfl
        have c2 := World.block_lt_of_cell? _ _ c1
        subst e2
        have hf2 : w.heap.size ≤ b2 := hf
        simp only at c2
        omega⟩)
      have HFITS : Hid (Fits S.held) := Lib.hid fun x hx => (HM.out x (HHELD.out x hx)).2
      have HOUT : Hid (∀ x ∈ outS sqG S m, x.dl ≤ 20000) := Lib.hid fun x hx => by
        rcases out_sub HINV.out m x hx with h | h
        · exact HDL.out x (HHELD.out x h)
        · rw [h]; exact hdm
      have HOLEN : Hid ((outS sqG S m).length ≤ 1048576) := Lib.hid (by have := out_few HINV.out m; omega)
      have hbw1 : b1 < wr.heap.size := by omega
      have a0 := cell_later HST.out.bel (h1 0 _ rfl)
      have a1 := cell_later HST.out.bel (h1 1 _ rfl)
      have a2 := cell_later HST.out.bel (h1 2 _ rfl)
      have a3 := cell_later HST.out.bel (h1 3 _ rfl)
      have a4 := cell_later HST.out.bel (h1 4 _ rfl)
      have a5 := cell_later HST.out.bel (h1 5 _ rfl)
      simp only [Nat.add_zero] at a0
      have HQ := Lib.hid (show 0 ≤ m.q ∧ m.q < 4294967296 ∧ S.count ≤ 1000000 from ⟨hq0, hq1, by omega⟩)
      clear h1 hx hmd hmem hq0 hq1 hdm hcnt
      go_upto_region 10 with (go_at_call 11; refine HT.out.mono ?_; rintro e w6 ⟨oo, oc, rfl, R6, O6, M6⟩; have HMID := Lib.hid (HST.out.took hgw hbw hgm hbm R6 O6 M6); clear R6 O6 M6)
      clear a0 a1 a2 a3 a4 a5 HT
      have HRT := Lib.hid (fun W (hW : Below w.heap.size w W) (hl2 : LikeAt W (newB w.heap.size) ho S.held) => rtake_any (B := w.heap.size) hl2 HST.out.nil HST.out.cap HINV.out m HQ.out.1 HQ.out.2.1 (HMW.out W hW).2 HFITS.out hW.size HQ.out.2.2)
      clear HST HINV HHELD HQ HFITS
      generalize takeS sqG S m = S2 at *
      generalize outS sqG S m = out at *
      generalize codeS sqG S m = cd at *
      go_cut [12, 13, 14] from 28 to 99 (fun s12 s13 s14 wx => ∃ (en : Nat) (h2 : Option Addr) (c2 : Nat) (o2 : Option Addr) (oc2 : Nat), s12 = .pointer (some ⟨en, 0, none⟩) ∧ s13 = .slice o2 out.length oc2 ∧ s14 = .int .i64 (cd : Int) ∧ RsB wx en (S2.size : Int) S2.count (.slice h2 S2.held.length c2) ∧ LikeAt wx (newB w.heap.size) h2 S2.held ∧ (h2 = none → c2 = 0) ∧ S2.held.length ≤ c2 ∧ LikeAt wx (newB w.heap.size) o2 out ∧ PlMid w wx g b em k l S S2 ho hc out wr.heap.size oo oc)
      case first =>
        have HM7 := Lib.hid (HMID.out.later (Grw.refl w6).drew.below)
        have hHH : RsB w6.drew em (S.size : Int) S.count (.slice ho S.held.length hc) ∧ w6.drew.rangeAt b1 (o1 + k * 6) (encG m) := ⟨HM7.out.blk, (HMW.out _ HM7.out.bel).1⟩
        refine wp_region_held_drew (S := fun w' => RsB w' em (S.size : Int) S.count (.slice ho S.held.length hc) ∧ w'.rangeAt b1 (o1 + k * 6) (encG m)) (by kernel_rfl) hHH (fun hHeld => ?_)
        clear hHH HMID
        generalize w6.drew = w7 at *
        have HSI : Hid (∀ W, Below w7.heap.size w7 W → RsB W em (S.size : Int) S.count (.slice ho S.held.length hc) ∧ W.rangeAt b1 (o1 + k * 6) (encG m)) := Lib.hid fun W hb => ⟨(HM7.out.later hb).blk, (HMW.out _ (HM7.out.later hb).bel).1⟩
        have hm7 := HM7.out.blk.lt
        have hw7 : w.heap.size ≤ w7.heap.size := HM7.out.bel.size
        have L : Below w7.heap.size w7 w7 := Below.refl _ _
        refine stake (i := 0) (v := (.agg #[.int .i64 (S.size : Int), .int .u32 (S.count : Int), .slice ho S.held.length hc])) 44 rfl (by kernel_rfl) (by kernel_rfl) (by kernel_rfl) (by kernel_rfl) (fun _ _ _ h => h) (yieldsIf_load_mid (by kernel_rfl) 29 (.tmp 8) rfl em 0 (by kernel_rfl) [.int .i64 (S.size : Int), .int .u32 (S.count : Int), .slice ho S.held.length hc] _ (fun w' hS => rs_range hS.1) Try.underlying29 rfl rs_size) hHeld ?_
        (try simp only [Act.put, List.setIfInBounds_toArray, List.set_cons_zero, List.set_cons_succ])
        refine stake (i := 1) (v := (.slice (some ⟨b1, o1, none⟩) len cap)) 45 rfl (by kernel_rfl) (by kernel_rfl) (by kernel_rfl) (by kernel_rfl) (fun _ _ _ h => h) (.inl ⟨by kernel_rfl, fun w' hS => by (go_simp)⟩) hHeld ?_
        (try simp only [Act.put, List.setIfInBounds_toArray, List.set_cons_zero, List.set_cons_succ])
        refine stake (i := 2) (v := (.int .i64 (k : Int))) 46 rfl (by kernel_rfl) (by kernel_rfl) (by kernel_rfl) (by kernel_rfl) (fun _ _ _ h => h) (.inl ⟨by kernel_rfl, fun w' hS => by (go_simp)⟩) hHeld ?_
        (try simp only [Act.put, List.setIfInBounds_toArray, List.set_cons_zero, List.set_cons_succ])
        refine stake (i := 3) (v := (.pointer (some ⟨b1, o1 + k * 6, none⟩))) 47 rfl (by kernel_rfl) (by kernel_rfl) (by kernel_rfl) (by kernel_rfl) (fun _ _ _ h => h) (.inl ⟨by kernel_rfl, fun w' hS => by (go_simp)⟩) hHeld ?_
        (try simp only [Act.put, List.setIfInBounds_toArray, List.set_cons_zero, List.set_cons_succ])
        refine stake (i := 4) (v := (.agg #[.int .i64 m.f, .int .u32 m.q, .int .u64 m.s, .int .i64 m.v, .slice m.a m.dl m.dc, .string m.text])) 48 rfl (by kernel_rfl) (by kernel_rfl) (by kernel_rfl) (by kernel_rfl) (fun _ _ _ h => h) (yieldsIf_load_mid (by kernel_rfl) 37 (.tmp 47) rfl b1 (o1 + k * 6) (by kernel_rfl) (encG m) _ (fun w' hS => hS.2) Try.underlying37 rfl msg_size) hHeld ?_
        (try simp only [Act.put, List.setIfInBounds_toArray, List.set_cons_zero, List.set_cons_succ])
        refine wpAnyH_ready (rs := [5, 10]) (by kernel_rfl) (by simp) (AllReadyH.cons rfl (fun K hK => ?_) (AllReadyH.cons rfl (fun K hK => ?_) AllReadyH.nil))
        · clear hHeld
          rw [if_pos (by kernel_rfl)]
          go_simp
          refine (HRT.out _ (HM7.out.later L).bel (HM7.out.later L).row).mono ?_
          rintro e w8 ⟨h2, c2, o2, oc2, rfl, LR, hn2, hcp2, LW, L8⟩
          have hsz := L.size
          have L := L.trans (L8.mono (by omega))
          refine hK.out _ _ (HSI.out _ L) (fun hHeld => ?_)
          clear hK K L8 hsz
          (try simp only [Act.put, List.setIfInBounds_toArray, List.set_cons_zero, List.set_cons_succ])
          refine stake (i := 6) (v := (.tuple #[.agg #[.int .i64 (S2.size : Int), .int .u32 (S2.count : Int), .slice h2 S2.held.length c2], .slice o2 out.length oc2, .int .i64 (cd : Int)])) 43 rfl (by kernel_rfl) (by kernel_rfl) (by kernel_rfl) (by kernel_rfl) (fun _ _ _ h => h) (.inl ⟨by kernel_rfl, fun w' hS => by (go_simp)⟩) hHeld ?_
          (try simp only [Act.put, List.setIfInBounds_toArray, List.set_cons_zero, List.set_cons_succ])
          refine stake (i := 7) (v := (.agg #[.int .i64 (S2.size : Int), .int .u32 (S2.count : Int), .slice h2 S2.held.length c2])) 50 rfl (by kernel_rfl) (by kernel_rfl) (by kernel_rfl) (by kernel_rfl) (fun _ _ _ h => h) (.inl ⟨by kernel_rfl, fun w' hS => by (go_simp)⟩) hHeld ?_
          (try simp only [Act.put, List.setIfInBounds_toArray, List.set_cons_zero, List.set_cons_succ])
          refine stake (i := 8) (v := (.slice o2 out.length oc2)) 51 rfl (by kernel_rfl) (by kernel_rfl) (by kernel_rfl) (by kernel_rfl) (fun _ _ _ h => h) (.inl ⟨by kernel_rfl, fun w' hS => by (go_simp)⟩) hHeld ?_
          (try simp only [Act.put, List.setIfInBounds_toArray, List.set_cons_zero, List.set_cons_succ])
          refine stake (i := 9) (v := (.int .i64 (cd : Int))) 52 rfl (by kernel_rfl) (by kernel_rfl) (by kernel_rfl) (by kernel_rfl) (fun _ _ _ h => h) (.inl ⟨by kernel_rfl, fun w' hS => by (go_simp)⟩) hHeld ?_
          (try simp only [Act.put, List.setIfInBounds_toArray, List.set_cons_zero, List.set_cons_succ])
          refine wpAnyH_ready (rs := [10]) (by kernel_rfl) (by simp) (AllReadyH.cons rfl (fun K hK => ?_) AllReadyH.nil)
          clear hHeld
          rw [if_pos (by kernel_rfl)]
          go_simp
          have hsz2 := L.size
          have E := RsB.new w8 0 0 (.slice none 0 0)
          have hen : w7.heap.size ≤ w8.heap.size := hsz2
          have LR := LR.below ((Grw.refl w8).alloc (.cells #[.int .i64 0, .int .u32 0, .slice none 0 0] 29)).below
          have LW := LW.below ((Grw.refl w8).alloc (.cells #[.int .i64 0, .int .u32 0, .slice none 0 0] 29)).below
          have L := L.alloc hsz2 (.cells #[.int .i64 0, .int .u32 0, .slice none 0 0] 29)
          generalize (w8.alloc (.cells #[.int .i64 0, .int .u32 0, .slice none 0 0] 29)) = w9 at *
          generalize w8.heap.size = en at *
          refine hK.out _ _ (HSI.out _ L) (fun hHeld => ?_)
          clear hK K
          (try simp only [Act.put, List.setIfInBounds_toArray, List.set_cons_zero, List.set_cons_succ])
          refine wpAnyH_ready (rs := [11]) (by kernel_rfl) (by simp) (AllReadyH.cons rfl (fun K hK => ?_) AllReadyH.nil)
          clear hHeld
          rw [if_pos (by kernel_rfl)]
          refine wp_store_mid 29 (.tmp 12) (.tmp 50) rfl en 0 #[.int .i64 (S2.size : Int), .int .u32 (S2.count : Int), .slice h2 S2.held.length c2] (by kernel_rfl) (by kernel_rfl) (rs_there E) rs_size (rs_one _ _ _ _ _) ?_
          have P3 := rs_put3 E (S2.size : Int) S2.count (.slice h2 S2.held.length c2)
          have LF := L.grown P3.2 L.size (fun k hk => by cases hk; exact hen)
          have FIN := Lib.hid (show RsB (w9.setCells en 0 [.int .i64 (S2.size : Int), .int .u32 (S2.count : Int), .slice h2 S2.held.length c2]) en (S2.size : Int) S2.count (.slice h2 S2.held.length c2) ∧ LikeAt (w9.setCells en 0 [.int .i64 (S2.size : Int), .int .u32 (S2.count : Int), .slice h2 S2.held.length c2]) (newB w.heap.size) h2 S2.held ∧ (h2 = none → c2 = 0) ∧ S2.held.length ≤ c2 ∧ LikeAt (w9.setCells en 0 [.int .i64 (S2.size : Int), .int .u32 (S2.count : Int), .slice h2 S2.held.length c2]) (newB w.heap.size) o2 out ∧ PlMid w (w9.setCells en 0 [.int .i64 (S2.size : Int), .int .u32 (S2.count : Int), .slice h2 S2.held.length c2]) g b em k l S S2 ho hc out wr.heap.size oo oc from ⟨P3.1, LR.off E P3.2 (by omega), hn2, hcp2, LW.off E P3.2 (by omega), HM7.out.later LF⟩)
          refine hK.out _ _ (HSI.out _ LF) (fun hHeld => ?_)
          clear hK K P3 LF E L LR LW
          (try simp only [Act.put, List.setIfInBounds_toArray, List.set_cons_zero, List.set_cons_succ])
          refine stake (i := 12) (v := (.slice o2 out.length oc2)) 13 rfl (by kernel_rfl) (by kernel_rfl) (by kernel_rfl) (by kernel_rfl) (fun _ _ _ h => h) (.inl ⟨by kernel_rfl, fun w' hS => by (go_simp)⟩) hHeld ?_
          (try simp only [Act.put, List.setIfInBounds_toArray, List.set_cons_zero, List.set_cons_succ])
          refine stake (i := 13) (v := (.int .i64 (cd : Int))) 14 rfl (by kernel_rfl) (by kernel_rfl) (by kernel_rfl) (by kernel_rfl) (fun _ _ _ h => h) (.inl ⟨by kernel_rfl, fun w' hS => by (go_simp)⟩) hHeld ?_
          (try simp only [Act.put, List.setIfInBounds_toArray, List.set_cons_zero, List.set_cons_succ])
          refine wpAnyH_done (by kernel_rfl) ?_ _
          clear hHeld
          go_wp2_with fail
          go_meet
          exact ⟨en, h2, c2, o2, oc2, rfl, rfl, rfl, FIN.out⟩
        · clear hHeld
          rw [if_pos (by kernel_rfl)]
          go_simp
          have hsz2 := L.size
          have E := RsB.new w7 0 0 (.slice none 0 0)
          have hen : w7.heap.size ≤ w7.heap.size := hsz2
          have L := L.alloc hsz2 (.cells #[.int .i64 0, .int .u32 0, .slice none 0 0] 29)
          have hel := E.lt
          have HSI2 := HSI
          obtain ⟨en, heq⟩ : ∃ en, en = w7.heap.size := ⟨_, rfl⟩
          have hen2 : w7.heap.size ≤ en := by omega
          rw [← heq] at E hen hel ⊢
          clear heq hen
          generalize (w7.alloc (.cells #[.int .i64 0, .int .u32 0, .slice none 0 0] 29)) = w8 at *
          refine hK.out _ _ (HSI.out _ L) (fun hHeld => ?_)
          clear hK K
          (try simp only [Act.put, List.setIfInBounds_toArray, List.set_cons_zero, List.set_cons_succ])
          refine wpAnyH_ready (rs := [5]) (by kernel_rfl) (by simp) (AllReadyH.cons rfl (fun K hK => ?_) AllReadyH.nil)
          clear hHeld
          rw [if_pos (by kernel_rfl)]
          go_simp
          refine (HRT.out _ (HM7.out.later L).bel (HM7.out.later L).row).mono ?_
          rintro e w9 ⟨h2, c2, o2, oc2, rfl, LR, hn2, hcp2, LW, L8⟩
          have hsz := L.size
          have E := E.below L8
          have L := L.trans (L8.mono (by omega))
          refine hK.out _ _ (HSI.out _ L) (fun hHeld => ?_)
          clear hK K L8 hsz
          (try simp only [Act.put, List.setIfInBounds_toArray, List.set_cons_zero, List.set_cons_succ])
          refine stake (i := 6) (v := (.tuple #[.agg #[.int .i64 (S2.size : Int), .int .u32 (S2.count : Int), .slice h2 S2.held.length c2], .slice o2 out.length oc2, .int .i64 (cd : Int)])) 43 rfl (by kernel_rfl) (by kernel_rfl) (by kernel_rfl) (by kernel_rfl) (fun _ _ _ h => h) (.inl ⟨by kernel_rfl, fun w' hS => by (go_simp)⟩) hHeld ?_
          (try simp only [Act.put, List.setIfInBounds_toArray, List.set_cons_zero, List.set_cons_succ])
          refine stake (i := 7) (v := (.agg #[.int .i64 (S2.size : Int), .int .u32 (S2.count : Int), .slice h2 S2.held.length c2])) 50 rfl (by kernel_rfl) (by kernel_rfl) (by kernel_rfl) (by kernel_rfl) (fun _ _ _ h => h) (.inl ⟨by kernel_rfl, fun w' hS => by (go_simp)⟩) hHeld ?_
          (try simp only [Act.put, List.setIfInBounds_toArray, List.set_cons_zero, List.set_cons_succ])
          refine stake (i := 8) (v := (.slice o2 out.length oc2)) 51 rfl (by kernel_rfl) (by kernel_rfl) (by kernel_rfl) (by kernel_rfl) (fun _ _ _ h => h) (.inl ⟨by kernel_rfl, fun w' hS => by (go_simp)⟩) hHeld ?_
          (try simp only [Act.put, List.setIfInBounds_toArray, List.set_cons_zero, List.set_cons_succ])
          refine stake (i := 9) (v := (.int .i64 (cd : Int))) 52 rfl (by kernel_rfl) (by kernel_rfl) (by kernel_rfl) (by kernel_rfl) (fun _ _ _ h => h) (.inl ⟨by kernel_rfl, fun w' hS => by (go_simp)⟩) hHeld ?_
          (try simp only [Act.put, List.setIfInBounds_toArray, List.set_cons_zero, List.set_cons_succ])
          have hen : w7.heap.size ≤ en := hen2
          refine wpAnyH_ready (rs := [11]) (by kernel_rfl) (by simp) (AllReadyH.cons rfl (fun K hK => ?_) AllReadyH.nil)
          clear hHeld
          rw [if_pos (by kernel_rfl)]
          refine wp_store_mid 29 (.tmp 12) (.tmp 50) rfl en 0 #[.int .i64 (S2.size : Int), .int .u32 (S2.count : Int), .slice h2 S2.held.length c2] (by kernel_rfl) (by kernel_rfl) (rs_there E) rs_size (rs_one _ _ _ _ _) ?_
          have P3 := rs_put3 E (S2.size : Int) S2.count (.slice h2 S2.held.length c2)
          have LF := L.grown P3.2 L.size (fun k hk => by cases hk; exact hen)
          have FIN := Lib.hid (show RsB (w9.setCells en 0 [.int .i64 (S2.size : Int), .int .u32 (S2.count : Int), .slice h2 S2.held.length c2]) en (S2.size : Int) S2.count (.slice h2 S2.held.length c2) ∧ LikeAt (w9.setCells en 0 [.int .i64 (S2.size : Int), .int .u32 (S2.count : Int), .slice h2 S2.held.length c2]) (newB w.heap.size) h2 S2.held ∧ (h2 = none → c2 = 0) ∧ S2.held.length ≤ c2 ∧ LikeAt (w9.setCells en 0 [.int .i64 (S2.size : Int), .int .u32 (S2.count : Int), .slice h2 S2.held.length c2]) (newB w.heap.size) o2 out ∧ PlMid w (w9.setCells en 0 [.int .i64 (S2.size : Int), .int .u32 (S2.count : Int), .slice h2 S2.held.length c2]) g b em k l S S2 ho hc out wr.heap.size oo oc from ⟨P3.1, LR.off E P3.2 (by omega), hn2, hcp2, LW.off E P3.2 (by omega), HM7.out.later LF⟩)
          refine hK.out _ _ (HSI.out _ LF) (fun hHeld => ?_)
          clear hK K P3 LF E L LR LW
          (try simp only [Act.put, List.setIfInBounds_toArray, List.set_cons_zero, List.set_cons_succ])
          refine stake (i := 12) (v := (.slice o2 out.length oc2)) 13 rfl (by kernel_rfl) (by kernel_rfl) (by kernel_rfl) (by kernel_rfl) (fun _ _ _ h => h) (.inl ⟨by kernel_rfl, fun w' hS => by (go_simp)⟩) hHeld ?_
          (try simp only [Act.put, List.setIfInBounds_toArray, List.set_cons_zero, List.set_cons_succ])
          refine stake (i := 13) (v := (.int .i64 (cd : Int))) 14 rfl (by kernel_rfl) (by kernel_rfl) (by kernel_rfl) (by kernel_rfl) (fun _ _ _ h => h) (.inl ⟨by kernel_rfl, fun w' hS => by (go_simp)⟩) hHeld ?_
          (try simp only [Act.put, List.setIfInBounds_toArray, List.set_cons_zero, List.set_cons_succ])
          refine wpAnyH_done (by kernel_rfl) ?_ _
          clear hHeld
          go_wp2_with fail
          go_meet
          exact ⟨en, h2, c2, o2, oc2, rfl, rfl, rfl, FIN.out⟩
      case rest =>
        obtain ⟨en, h2, c2, o2, oc2, rfl, rfl, rfl, E, LR, hn2, hcp2, LW, MID⟩ := hcut
        have HDONE := Lib.hid (MID.done hgm hbm hwm LR LW hn2 hcp2 HNX.out)
        have BK := MID.blk
        clear LR LW MID HMID
        go_upto_region 12 with (first
          | (refine load_rs rfl (.tmp 12) rfl en rfl E ?_)
          | (refine store_rs rfl (.tmp 8) (.tmp 53) rfl em (S2.size : Int) S2.count h2 S2.held.length c2 rfl rfl BK ?_))
        clear E BK
        generalize (wc.setRow em #[.int .i64 (S2.size : Int), .int .u32 (S2.count : Int), .slice h2 S2.held.length c2]) = w8 at *
        have HPL := Lib.hid HDONE.out.1
        have HWANT := Lib.hid HDONE.out.2.1
        have HPROG := Lib.hid HDONE.out.2.2
        have HLA := Lib.hid (slacks_any HPL.out.rep u hu)
        have HBK := HPL.out.blk
        have HRL := Lib.hid (fun W => rlacks (S2.size : Int) S2.count u (.slice h2 S2.held.length c2) W (by have := HPL.out.ord.count; omega))
        clear HDONE
        go_upto_region 14 with (first
          | (go_at_call 13; refine HLA.out.mono ?_; rintro e w9 ⟨rfl, rfl⟩)
          | (refine load_rs rfl (.tmp 8) rfl em rfl HBK ?_)
          | (go_at_call 14; refine (HRL.out _).mono ?_; rintro e w10 ⟨rfl, G10⟩))
        have HW : Hid (∀ n os, Below w8.heap.size w8 (grow (w10.drewN n) os)) := Lib.hid fun n os => G10.below.trans ((Grw.below ⟨n, os, rfl⟩).mono G10.below.size)
        have HAL : ∀ n os, Calls Try.prog 15 #[.slice oo out.length oc, .slice o2 out.length oc2] (grow (w10.drewN n) os) fun e w' => e = .returned (.bool true) ∧ ∃ q os', w' = grow ((grow (w10.drewN n) os).drewN q) os' := fun n os => by
          obtain ⟨LA, ha, hla, hea⟩ := (HPROG.out.below (HW.out n os)).lst
          obtain ⟨LB, hb, hlb, heb⟩ := HWANT.out.below (HW.out n os)
          have hmem : ∀ (x : Mg), x ∈ LA → ∃ (i : Nat) (y : Mg), LA[i]? = some x ∧ out[i]? = some y := fun x hx => by
            obtain ⟨i, hi⟩ := List.getElem?_of_mem hx
            have := (List.getElem?_eq_some_iff.1 hi).1
            exact ⟨i, out[i]'(by omega), hi, List.getElem?_eq_getElem (by omega)⟩
          have hmem2 : ∀ (x : Mg), x ∈ LB → ∃ (i : Nat) (y : Mg), LB[i]? = some x ∧ out[i]? = some y := fun x hx => by
            obtain ⟨i, hi⟩ := List.getElem?_of_mem hx
            have := (List.getElem?_eq_some_iff.1 hi).1
            exact ⟨i, out[i]'(by omega), hi, List.getElem?_eq_getElem (by omega)⟩
          exact allG_any oo o2 out.length oc oc2 LA LB _ ha hb (fun x hx => by obtain ⟨i, y, e1, e2⟩ := hmem x hx; exact (hea i x y e1 e2).2.deps) (fun x hx => by obtain ⟨i, y, e1, e2⟩ := hmem2 x hx; exact (heb i x y e1 e2).2.deps)
            (fun x hx => by obtain ⟨i, y, e1, e2⟩ := hmem x hx; rw [(hea i x y e1 e2).1.dl]; have := HOUT.out y (List.mem_of_getElem? e2); omega)
            (fun i x y hx hy => by
              have hi := (List.getElem?_eq_some_iff.1 hx).1
              have e2 : out[i]? = some (out[i]'(by omega)) := List.getElem?_eq_getElem (by omega)
              exact like_same (hea i x _ hx e2).1 (heb i y _ hy e2).1) (HOLEN.out)
        have HCO : ∀ n os, Calls Try.prog 16 #[.pointer (some ⟨g, 0, none⟩)] (grow (w10.drewN n) os) fun e w' => e = .returned (.int .u32 (S2.count : Int)) ∧ ∃ q os', w' = grow ((grow (w10.drewN n) os).drewN q) os' := fun n os =>
          (scount_any (HPL.out.rep.below (HW.out n os))).mono fun e w' ⟨he, hw⟩ => ⟨he, 0, #[], by rw [grow_empty]; exact hw.symm⟩
        have HHE : ∀ n os, Calls Try.prog 17 #[.pointer (some ⟨g, 0, none⟩)] (grow (w10.drewN n) os) fun e w' => e = .returned (.int .i64 (S2.held.length : Int)) ∧ ∃ q os', w' = grow ((grow (w10.drewN n) os).drewN q) os' := fun n os =>
          (sheld_any (HPL.out.rep.below (HW.out n os))).mono fun e w' ⟨he, hw⟩ => ⟨he, 0, #[], by rw [grow_empty]; exact hw.symm⟩
        have e1 : ∀ n os, (grow (w10.drewN n) os).cell? ⟨em, 1, none⟩ = some (.int .u32 (S2.count : Int)) := fun n os => (HBK.below (HW.out n os)).own.at_ 1 _ rfl
        have e2 : ∀ n os, (grow (w10.drewN n) os).cell? ⟨em, 2, none⟩ = some (.slice h2 S2.held.length c2) := fun n os => (HBK.below (HW.out n os)).own.at_ 2 _ rfl
        have HEND : Hid (∀ n os, PlSt w (grow (w10.drewN n) os) g b em (k + 1) l S2 h2 c2) := Lib.hid fun n os => HPL.out.below (HW.out n os)
        clear HPL HWANT HPROG HLA HBK HRL G10 HW
        generalize S2.count = cc at *
        generalize S2.held.length = hh at *
        generalize lackN cc u = lk at *
        generalize decide (cc < u) = db at *
        go_quiet_grown (first
          | (go_at_call 15; exact Calls.grown_of (HAL _ _))
          | (go_at_call 16; exact Calls.grown_of (HCO _ _))
          | (go_at_call 17; exact Calls.grown_of (HHE _ _)))
        go_wp2_with fail
        go_roundw
        case rel => exact ⟨k + 1, S2, h2, c2, by omega, by go_num, HEND.out _ _⟩
        case measure => simp [intOf]; omega
    · go_wp2_with fail
      go_ret
      exact ⟨rfl, HST.out.bel⟩
theorem walk_StreamPlays {w : World} (n : Int) (wn : (Lit.int .i64 n).wf = true) (ao : Option Addr) (len cap : Nat) (l : List Mg) (hl : Lst encG 6 w ao len l ∧ (ao = none → cap = 0) ∧ ∀ m ∈ l, DpIn w m ∧ 0 ≤ m.q ∧ m.q < 4294967296) (u : Int) (wu : (Lit.int .u32 u).wf = true) :
    Calls Try.prog 3 #[.int .i64 n, .slice ao len cap, .int .u32 u] w fun e w' => e = .returned (.bool true) ∧ Below w.heap.size w w' := by
  have b0 := Go.bounds_i64 wn
  have b1 := Go.bounds_u32 wu
  obtain ⟨k, rfl⟩ : ∃ k : Nat, u = (k : Int) := ⟨u.toNat, by omega⟩
  exact plays_core n (by omega) (by omega) ao len cap l k (by omega) w hl.1 hl.2.2
end Go.Proofs.Ytcnfkjjfegjecaa
