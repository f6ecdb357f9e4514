/- fed. (Written by gen_ofed.py.) -/
import Derived.Test.YtlkmenjalpmipaaZOrdFed2
set_option linter.unusedVariables false
set_option maxRecDepth 100000
set_option linter.unusedSimpArgs false
namespace Go.Proofs.Ytlkmenjalpmipaa
open Go.RowKit Go.Sort Go.Shelf

theorem FdW.start {w w2 w3 : World} {g ga : Nat} {O : Od} {aa : Option Addr} {n ac : Nat} {A Z : List Mg} {me : Nat} (hl : Lst encG 6 w aa n A) (hf : Fed1 A Z me (fun _ => 0) 0 O) (oa : Own w2 ga 29 #[.slice aa n ac]) (hga : w.heap.size ≤ ga) (hb : Below w.heap.size w w2) (hr : ORep w3 (newB w2.heap.size w3) g 0 O) (hB : Below w2.heap.size w2 w3) :
    FdW w (((w3.alloc (.cells #[.pointer (some ⟨g, 0, none⟩)] 26)).alloc (.cells #[.int .u32 0, .int .u32 0, .int .u32 0, .int .u32 0] 74)).alloc (.cells #[.slice none 0 0] 29)) g 0 ga (w3.heap.size + 1) w3.heap.size (w3.heap.size + 1 + 1) aa n ac A Z me (fun _ => 0) := by
  have L1 := (Grw.refl w3).alloc (.cells #[.pointer (some ⟨g, 0, none⟩)] 26)
  have U1 := Own.new w3 26 #[.pointer (some ⟨g, 0, none⟩)]
  have e1 : (w3.alloc (.cells #[.pointer (some ⟨g, 0, none⟩)] 26)).heap.size = w3.heap.size + 1 := by simp
  have U2 := Own.new (w3.alloc (.cells #[.pointer (some ⟨g, 0, none⟩)] 26)) 74 #[.int .u32 0, .int .u32 0, .int .u32 0, .int .u32 0]
  rw [e1] at U2
  generalize w3.alloc (.cells #[.pointer (some ⟨g, 0, none⟩)] 26) = w4 at *
  have L2 := (Grw.refl w4).alloc (.cells #[.int .u32 0, .int .u32 0, .int .u32 0, .int .u32 0] 74)
  have e2 : (w4.alloc (.cells #[.int .u32 0, .int .u32 0, .int .u32 0, .int .u32 0] 74)).heap.size = w3.heap.size + 1 + 1 := by simp [e1]
  have U3 := Own.new (w4.alloc (.cells #[.int .u32 0, .int .u32 0, .int .u32 0, .int .u32 0] 74)) 29 #[.slice none 0 0]
  rw [e2] at U3
  generalize w4.alloc (.cells #[.int .u32 0, .int .u32 0, .int .u32 0, .int .u32 0] 74) = w5 at *
  have L3 := (Grw.refl w5).alloc (.cells #[.slice none 0 0] 29)
  have s0 := hb.size
  have s1 := hB.size
  have la := oa.lt
  have B36 := L1.below.trans ((L2.below.mono L1.below.size).trans (L3.below.mono (Nat.le_trans L1.below.size L2.below.size)))
  refine ⟨_, O, ⟨none, 0, 0⟩, [], 0, ⟨hr.below B36, fun j hj => Nat.le_trans s0 hj.1, hb.trans ((hB.mono s0).trans (B36.mono (Nat.le_trans s0 s1))), hl, fun e => ?_, fun e => ?_, fun e => ?_, fun e => ?_, (oa.below hB la).below B36 (by omega), U2.below L3.below (by omega), (U1.below L2.below (by omega)).below L3.below (by omega), U3, by omega, hga, by omega, by omega, by omega, RowO.none _⟩, hf, by rw [List.take_zero]; rfl⟩
  · have := e.1; omega
  · have := e.2; omega
  · have := e.2; omega
  · have := e.2; omega
set_option maxHeartbeats 4000000 in
theorem ofed (aa : Option Addr) (n ac : Nat) (A Z : List Mg) (me : Nat) (bo : Option Addr) (blen bcap : Nat) (bs : List Nat) (fin : Bool) (w : World) (hl : Lst encG 6 w aa n A) (hb : InO w bo blen bs) (hn : n ≤ 30) (hbl : blen ≤ 100) (hA : Hon A) (hD : ∀ x ∈ A, x.dl = 0 ∧ x.deps = []) (hP : ∀ x ∈ A, 0 < x.s) (hZ : IsSrt Mg.key A Z) (m4 : 4 ≤ me) (m64 : me < 64) :
    Calls Try.prog 22 #[.int .i64 (me : Int), .slice aa n ac, .slice bo blen bcap, .bool fin] w (FedSaid w Z fin) := by
  have L1 := (Grw.refl w).alloc (.cells #[.slice aa n ac] 29)
  have V1 := Own.new w 29 #[.slice aa n ac]
  have L2 := (Grw.refl (w.alloc (.cells #[.slice aa n ac] 29))).alloc (.cells #[.int .i64 0, .int .i64 1, .int .i64 2, .int .i64 3] 3)
  have HO := of_any (some ⟨(w.alloc (.cells #[.slice aa n ac] 29)).heap.size, 0, none⟩) 4 4 [0, 1, 2, 3] _ (InI.four14 (w.alloc (.cells #[.slice aa n ac] 29))) (by decide)
  rw [w0123, show (w.alloc (.cells #[.slice aa n ac] 29)).heap.size = w.heap.size + 1 by simp] at HO
  have PN := onew (me : Int) 15 ((w.alloc (.cells #[.slice aa n ac] 29)).alloc (.cells #[.int .i64 0, .int .i64 1, .int .i64 2, .int .i64 3] 3)) (by decide) (by omega) (by omega)
  rw [show ((15 : Nat) : Int) = 15 from rfl] at PN HO
  have HB2 := Lib.hid (And.intro (V1.below L2.below V1.lt) (L1.below.trans (L2.below.mono L1.below.size)))
  have HL := Lib.hid hl
  have HB := Lib.hid hb
  have HA := Lib.hid hA
  have HD := Lib.hid hD
  have HNEW := Lib.hid (fed_new (Z := Z) hP m4 m64)
  have HZ := Lib.hid hZ
  clear hl hb hA hD hP hZ L1 V1 L2
  go_enter Try.func22, Try.ntmps22
  go_wp2_with fail
  with_reducible refine HO.mono ?_
  rintro e w' ⟨rfl, rfl⟩
  go_wp2_with fail
  with_reducible refine PN.mono ?_
  rintro e w3 hs
  obtain ⟨g, rfl, hr, hB⟩ := hs
  have H0 := Lib.hid (FdW.start HL.out HNEW.out HB2.out.1 (Nat.le_refl _) HB2.out.2 hr hB)
  clear HO PN hr hB HB2 HNEW
  go_wp2_with fail
  obtain ⟨ga, hga⟩ : ∃ ga, ga = w.heap.size := ⟨_, rfl⟩
  obtain ⟨ob, hob⟩ : ∃ ob, ob = w3.heap.size := ⟨_, rfl⟩
  obtain ⟨ab, hab⟩ : ∃ ab, ab = w3.heap.size + 1 := ⟨_, rfl⟩
  obtain ⟨xb, hxb⟩ : ∃ xb, xb = w3.heap.size + 1 + 1 := ⟨_, rfl⟩
  rw [← hxb, ← hab, ← hob] at H0
  try rw [← hxb]
  try rw [← hab]
  try rw [← hob]
  replace H0 := Lib.hid (show FdW w _ g 0 ga ab ob xb aa n ac A Z me (fun _ => 0) by rw [hga]; exact H0.out)
  generalize ((w3.alloc (.cells #[.pointer (some ⟨g, 0, none⟩)] 26)).alloc (.cells #[.int .u32 0, .int .u32 0, .int .u32 0, .int .u32 0] 74)).alloc (.cells #[.slice none 0 0] 29) = w6 at *
  try rw [← hga]
  clear hxb hab hob
  replace hga := Lib.hid hga
  go_loopw [13] (fun si wr => ∃ (i : Nat) (at_ : Nat → Nat), i ≤ blen ∧ si = .int .i64 i ∧ Hid (FdW w wr g i ga ab ob xb aa n ac A Z me at_)) (fun si _ => blen - (intOf si).toNat)
  case atStart => exact ⟨0, _, Nat.zero_le _, rfl, H0⟩
  case round =>
    clear H0
    obtain ⟨i, at_, hi, rfl, HS⟩ := hrel
    by_cases hlt : i < blen
    · obtain ⟨sb, hsb⟩ : ∃ sb, bs[i]? = some sb := ⟨_, List.getElem?_eq_getElem (by rw [HB.out.size]; exact hlt)⟩
      obtain ⟨b, o, e2, hcb⟩ := HB.out.src i sb hsb
      subst e2
      replace hcb := cell_later HS.out.bel hcb
      obtain ⟨p, hm1, hp, hw⟩ : ∃ p : Nat, (sb : Int).tmod 4 = (p : Int) ∧ p < 4 ∧ wrap64 (p : Int) = (p : Int) := ⟨sb % 4, by rw [Int.tmod_eq_emod_of_nonneg (by omega)]; omega, by omega, by unfold wrap64; omega⟩
      have PG := HS.out.give HA.out HD.out HZ.out m4 (by omega) p hp
      clear hsb HS hp
      go_wp2_with fail
      with_reducible refine PG.mono ?_
      rintro e w4 ⟨rfl, h4⟩
      have HS := Lib.hid h4
      clear PG h4 hcb
      go_wp2_with fail
      go_roundw
      case rel => exact ⟨i + 1, _, by omega, by go_num, HS⟩
      case measure => simp [intOf]; omega
    · obtain rfl : i = blen := by omega
      cases fin with
      | false =>
        obtain ⟨E, O, ⟨sa, sn, sc⟩, X, k, h1, h2, h3⟩ := HS.out.ex
        have ct : wr.cell? ⟨xb, 0, none⟩ = some (.slice sa sn sc) := h1.ox.at_ 0 _ rfl
        have HR := Lib.hid (And.intro h1.row (And.intro h1.bel h3))
        clear h1 h2 h3 HS
        go_wp2
        go_ret
        exact ⟨sa, sn, sc, X, E, k, rfl, HR.out.1, HR.out.2.2, fun e => by (cases e), HR.out.2.1⟩
      | true =>
        have HG := Lib.hid (Gvn.start (A := A) at_)
        have HT := Lib.hid (Tps.start (A := A))
        have HS := Lib.hid (show FdW w wr g (i + 4 * 0) ga ab ob xb aa n ac A Z me at_ from HS.out)
        go_wp2_with fail
        go_loopw [14, 15] (fun so si wr => ∃ (L j : Nat) (at_ : Nat → Nat), j ≤ n ∧ so = .int .u64 L ∧ si = .int .i64 j ∧ Hid (FdW w wr g (i + 4 * j) ga ab ob xb aa n ac A Z me at_) ∧ Hid (Gvn A at_ j 0) ∧ Hid (Tps A j L)) (fun _ si _ => n - (intOf si).toNat)
        case atStart => exact ⟨1, 0, at_, Nat.zero_le _, rfl, rfl, HS, HG, HT⟩
        case round =>
          clear HS HG HT
          obtain ⟨L, j, at_, hj, rfl, rfl, HS, HG, HT⟩ := hrel
          have c1 := HS.out.oa.at_ 0 _ rfl
          by_cases hlt : j < n
          · obtain ⟨x, hx⟩ : ∃ x, A[j]? = some x := ⟨_, List.getElem?_eq_getElem (by rw [HL.out.size]; exact hlt)⟩
            obtain ⟨ad, o3, e3, hr3⟩ := HL.out.src (show 0 < n by omega)
            subst e3
            have c0 := cell_later HS.out.bel (hr3 j x hx 2 _ rfl)
            have hs0 := HA.out.s0 x (List.mem_of_getElem? hx)
            obtain ⟨M, hM⟩ : ∃ M : Nat, max (L : Int) x.s = (M : Int) := ⟨(max (L : Int) x.s).toNat, by omega⟩
            have HT2 := Lib.hid (HT.out.step HA.out hx hM.symm)
            clear hx hr3 hs0 HT
            go_wp2_with fail
            go_loopw [16] (fun sp wr => ∃ (p : Nat) (at_ : Nat → Nat), p ≤ 4 ∧ sp = .int .i64 p ∧ Hid (FdW w wr g (i + 4 * j + p) ga ab ob xb (some ⟨ad, o3, none⟩) n ac A Z me at_) ∧ Hid (Gvn A at_ j p)) (fun sp _ => 4 - (intOf sp).toNat)
            case atStart => exact ⟨0, at_, Nat.zero_le _, rfl, HS, HG⟩
            case round =>
              clear HS HG c1 c0
              obtain ⟨p, at_, hp, rfl, HS, HG⟩ := hrel
              by_cases hp4 : p < 4
              · have hp' : (p : Int) < 4 := by omega
                have PG := HS.out.give HA.out HD.out HZ.out m4 (by omega) p hp4
                have HG2 := Lib.hid (HG.out.step hp4)
                clear HS HG
                go_wp2_with fail
                with_reducible refine PG.mono ?_
                rintro e w4 ⟨rfl, h4⟩
                have HS := Lib.hid h4
                clear PG h4
                go_wp2_with fail
                go_roundw
                case rel => exact ⟨p + 1, _, by omega, by go_num, HS, HG2⟩
                case measure => simp [intOf]; omega
              · obtain rfl : p = 4 := by omega
                have HG2 := Lib.hid HG.out.next
                have HS2 := Lib.hid (show FdW w _ g (i + 4 * (j + 1)) ga ab ob xb (some ⟨ad, o3, none⟩) n ac A Z me at_ from HS.out)
                clear HS HG
                go_wp2_with fail
                go_roundw
                case rel => exact ⟨M, j + 1, at_, by omega, rfl, by go_num, HS2, HG2, HT2⟩
                case measure => simp [intOf]; omega
          · obtain rfl : j = n := by omega
            have hAl : A.length = j := HL.out.size
            have hat := HG.out
            rw [← hAl] at hat
            have HTA := HT.out.all
            rw [← hAl, List.take_length] at HTA
            replace HTA := Lib.hid HTA
            have HS2 := Lib.hid (HS.out.all (hat.done HS.out.le) L)
            have HT2 := Lib.hid HT.out.lt
            clear HS HG hat hAl
            go_wp2_with fail
            clear c1
            go_loopw [17] (fun sp wr => ∃ p : Nat, p ≤ 4 ∧ sp = .int .i64 p ∧ Hid (FdP w wr g (i + 4 * j + 2 * p) ga ab ob xb aa j ac A Z me L p)) (fun sp _ => 4 - (intOf sp).toNat)
            case atStart => exact ⟨0, Nat.zero_le _, rfl, HS2⟩
            case round =>
              clear HS2
              obtain ⟨p, hp, rfl, HS⟩ := hrel
              obtain ⟨E, O, ⟨sa, sn, sc⟩, X, k, at_, h1, h2, h3, h4⟩ := HS.out.ex
              obtain ⟨gh, gz, F, zs, hA1⟩ := h1.rep.ex
              have b0 := h1.oo.at_ 0 _ rfl
              have b1 := hA1.c1
              have HSN := Lib.hid (show (⟨sa, sn, sc⟩ : Sl).n ≤ 100000 by
                have q1 := congrArg List.length h3
                rw [List.length_map, List.length_take, h1.row.len, HZ.out.fil.length] at q1
                have := HA.out.few
                omega)
              by_cases hp4 : p < 4
              · have hp' : (p : Int) < 4 := by omega
                have hq : at_ p = (sub A p).length := h4 p hp4
                have hq2 : (sub A p).length < 4294967296 := by have := sub_len A p; have := HA.out.few; omega
                have b2 := h1.oc.at_ p _ (cells4_at .u32 at_ p hp4)
                rw [hq] at b2
                obtain ⟨sl, hsl⟩ : ∃ sl, sl = (sub A p).length := ⟨_, rfl⟩
                rw [← hsl] at b2 hq2
                have HQ := Lib.hid (And.intro hsl hq2)
                have H := Lib.hid h1
                have HF := Lib.hid h2
                have HX := Lib.hid h3
                have H4 := Lib.hid h4
                have HA1 := Lib.hid hA1
                clear h1 h2 h3 h4 hA1 hq HS hsl
                go_upto_region 23 with fail
                go_still_tail 9, (by kernel_rfl)
                change wpList _ _ _ _ _ (wr.drewN 1)
                have HG := Lib.hid (H.out.later ((Grw.refl wr).drewN 1).below)
                have HA2 := HA1.out.below ((Grw.refl wr).drewN 1).below
                have P := zprom HA2.hz (Nat.le_trans HA2.wt (by omega)) (p : Int) (by omega) (by omega) L sl HT2.out hq2
                have HA2 := Lib.hid HA2
                clear b0 b1 b2 H HA1 hq2
                generalize wr.drewN 1 = w1 at *
                go_wp2_with fail
                with_reducible refine P.mono ?_
                rintro e w2 ⟨rfl, k2⟩
                obtain ⟨k4, k5⟩ := HA2.out.seen k2 (Nat.le_succ _) (Nat.le_trans (prom_wait _ _ _ _) (Nat.succ_le_succ HA2.out.wt))
                have G2 := HG.out.acted k4 k5
                obtain ⟨gh2, gz2, F2, zs2, hB2⟩ := G2.rep.ex
                have b0 := G2.oo.at_ 0 _ rfl
                have b1 := hB2.c1
                have P2 := zreached hB2.hz (p : Int) (by omega) (by omega) L HT2.out
                have HG2 := Lib.hid G2
                have HB2 := Lib.hid hB2
                clear P k2 k4 k5 HA2 HG G2 hB2
                go_wp2_with fail
                with_reducible refine P2.mono ?_
                rintro e w4 ⟨rfl, k6, k7⟩
                obtain ⟨k8, k9⟩ := HB2.out.seen (Gone13.mk' k6 k7) (Nat.le_succ _) (Nat.le_trans (reach_wait _ _ _) (Nat.succ_le_succ HB2.out.wt))
                have G3 := HG2.out.acted k8 k9
                have hst := HF.out.step hp4 HT2.out (by rw [← HQ.out.1]; exact HQ.out.2)
                rw [← HQ.out.1] at hst
                have HS := Lib.hid (show FdP w w4 g (i + 4 * j + 2 * (p + 1)) ga ab ob xb aa j ac A Z me L (p + 1) from ⟨_, _, _, X, k, at_, G3, hst, HX.out, H4.out⟩)
                clear P2 k6 k7 k8 k9 HB2 HG2 G3 hst b0 b1 HF H4 HQ
                go_wp2_with fail
                go_roundw
                case rel => exact ⟨p + 1, by omega, by go_num, HS⟩
                case measure => simp [intOf]; omega
              · obtain rfl : p = 4 := by omega
                have P := zsee hA1.hz L HT2.out
                have H1 := Lib.hid h1
                have HF := Lib.hid h2
                have HX := Lib.hid h3
                have HA1 := Lib.hid hA1
                have HN1000 := Lib.hid (show i + 4 * j + 2 * 4 + 1 ≤ 1000 by omega)
                clear h1 h2 h3 h4 hA1 HS
                go_wp2_with fail
                with_reducible refine P.mono ?_
                rintro e w5 ⟨rfl, k6, k7⟩
                obtain ⟨k8, k9⟩ := HA1.out.seen (Gone13.mk' k6 k7) (Nat.le_succ _) (Nat.le_succ_of_le HA1.out.wt)
                have H := Lib.hid (H1.out.acted k8 k9)
                clear P k6 k7 k8 k9 H1 HA1 b0 b1
                generalize newF E wr w5 = E at *
                go_upto_region 26 with fail
                have S6 := Lib.hid (H.out.later (Grw.refl w5).drew.below)
                clear H
                refine wp_region_held_drew (S := fun w' => Own w' ob 26 #[.pointer (some ⟨g, 0, none⟩)]) (by kernel_rfl) S6.out.oo (fun hHeld => ?_)
                generalize w5.drew = w7 at *
                refine stake (i := 1) (v := (.pointer (some ⟨g, 0, none⟩))) 88 rfl (by kernel_rfl) (by kernel_rfl) (by kernel_rfl) (by kernel_rfl) (fun _ _ _ h => h) (.inl ⟨by kernel_rfl, fun w' hS => by (have hc := hS.at_ 0 _ rfl; go_simp)⟩) hHeld ?_
                (try simp only [Act.put, List.setIfInBounds_toArray, List.set_cons_zero, List.set_cons_succ])
                refine wpAnyH_ready (rs := [0, 2]) (by kernel_rfl) (by simp) (AllReadyH.cons rfl (fun K hK => ?_) (AllReadyH.cons rfl (fun K hK => ?_) AllReadyH.nil))
                · clear hHeld
                  have ct : (w7).cell? ⟨xb, 0, none⟩ = some (.slice sa sn sc) := S6.out.ox.at_ 0 _ rfl
                  rw [if_pos (by kernel_rfl)]
                  go_simp
                  refine hK.out _ _ S6.out.oo (fun hHeld => ?_)
                  clear hK K ct
                  (try simp only [Act.put, List.setIfInBounds_toArray, List.set_cons_zero, List.set_cons_succ])
                  refine wpAnyH_ready (rs := [2]) (by kernel_rfl) (by simp) (AllReadyH.cons rfl (fun K hK => ?_) AllReadyH.nil)
                  clear hHeld
                  have PD := odrain S6.out.rep HN1000.out
                  rw [if_pos (by kernel_rfl)]
                  go_simp
                  refine PD.mono ?_
                  rintro e w8 hs
                  obtain ⟨da, dm, dc, Y, P, rfl, H8, R8, D8, n8⟩ := S6.out.drain0 HSN.out HN1000.out hs
                  have hb8 : w.heap.size ≤ w7.heap.size := S6.out.bel.size
                  have hlim : ∀ j, E j → j < w8.heap.size := H8.rep.lim
                  clear PD hs S6
                  refine hK.out _ _ H8.oo (fun hHeld => ?_)
                  clear hK K
                  (try simp only [Act.put, List.setIfInBounds_toArray, List.set_cons_zero, List.set_cons_succ])
                  refine wpAnyH_ready (rs := [3]) (by kernel_rfl) (by simp) (AllReadyH.cons rfl (fun K hK => ?_) AllReadyH.nil)
                  clear hHeld
                  rw [if_pos (by kernel_rfl)]
                  refine wp_append_at (.tmp 87) (.tmp 89) rfl w.heap.size (.slice sa sn sc) sn X rfl H8.row.own da dm dc Y rfl R8.lst (own_none R8.own) n8 H8.bel.size ?_
                  intro v9 w9 h1 h2 h3
                  obtain ⟨ta, tc, rfl⟩ := own_form' h1
                  have R9 := Lib.hid (H8.row.app R8 hb8 hlim h1 h2 h3)
                  have B9 := Lib.hid (H8.bel.grown h2 H8.bel.size (fun k e => own_behind H8.row.own k e))
                  have OO := H8.oo.grown h2 (own_ne H8.row.own H8.oo (by decide))
                  clear h1 h2 h3 H8 R8 hb8 n8 hlim
                  refine hK.out _ _ OO (fun hHeld => ?_)
                  clear hK K
                  (try simp only [Act.put, List.setIfInBounds_toArray, List.set_cons_zero, List.set_cons_succ])
                  refine stake (i := 4) (v := (.slice ta (sn + dm) tc)) 8 rfl (by kernel_rfl) (by kernel_rfl) (by kernel_rfl) (by kernel_rfl) (fun _ _ _ h => h) (.inl ⟨by kernel_rfl, fun w' hS => by (go_simp)⟩) hHeld ?_
                  (try simp only [Act.put, List.setIfInBounds_toArray, List.set_cons_zero, List.set_cons_succ])
                  refine wpAnyH_done (by kernel_rfl) ?_ _
                  clear hHeld
                  go_wp2
                  go_ret
                  have e9 : (X ++ Y).map strip = Z := by rw [List.map_append, HX.out]; exact HF.out.end_ HA.out HZ.out m4 HT2.out HTA.out D8
                  exact ⟨ta, sn + dm, tc, X ++ Y, E, Z.length, rfl, R9.out, by rw [e9, List.take_length], fun _ => e9, B9.out⟩
                · clear hHeld
                  have PD := odrain S6.out.rep HN1000.out
                  rw [if_pos (by kernel_rfl)]
                  go_simp
                  refine PD.mono ?_
                  rintro e w8 hs
                  obtain ⟨da, dm, dc, Y, P, rfl, H8, R8, D8, n8⟩ := S6.out.drain0 HSN.out HN1000.out hs
                  have hb8 : w.heap.size ≤ w7.heap.size := S6.out.bel.size
                  have hlim : ∀ j, E j → j < w8.heap.size := H8.rep.lim
                  clear PD hs S6
                  refine hK.out _ _ H8.oo (fun hHeld => ?_)
                  clear hK K
                  (try simp only [Act.put, List.setIfInBounds_toArray, List.set_cons_zero, List.set_cons_succ])
                  refine wpAnyH_ready (rs := [0]) (by kernel_rfl) (by simp) (AllReadyH.cons rfl (fun K hK => ?_) AllReadyH.nil)
                  clear hHeld
                  have ct : (w8).cell? ⟨xb, 0, none⟩ = some (.slice sa sn sc) := H8.ox.at_ 0 _ rfl
                  rw [if_pos (by kernel_rfl)]
                  go_simp
                  refine hK.out _ _ H8.oo (fun hHeld => ?_)
                  clear hK K ct
                  (try simp only [Act.put, List.setIfInBounds_toArray, List.set_cons_zero, List.set_cons_succ])
                  refine wpAnyH_ready (rs := [3]) (by kernel_rfl) (by simp) (AllReadyH.cons rfl (fun K hK => ?_) AllReadyH.nil)
                  clear hHeld
                  rw [if_pos (by kernel_rfl)]
                  refine wp_append_at (.tmp 87) (.tmp 89) rfl w.heap.size (.slice sa sn sc) sn X rfl H8.row.own da dm dc Y rfl R8.lst (own_none R8.own) n8 H8.bel.size ?_
                  intro v9 w9 h1 h2 h3
                  obtain ⟨ta, tc, rfl⟩ := own_form' h1
                  have R9 := Lib.hid (H8.row.app R8 hb8 hlim h1 h2 h3)
                  have B9 := Lib.hid (H8.bel.grown h2 H8.bel.size (fun k e => own_behind H8.row.own k e))
                  have OO := H8.oo.grown h2 (own_ne H8.row.own H8.oo (by decide))
                  clear h1 h2 h3 H8 R8 hb8 n8 hlim
                  refine hK.out _ _ OO (fun hHeld => ?_)
                  clear hK K
                  (try simp only [Act.put, List.setIfInBounds_toArray, List.set_cons_zero, List.set_cons_succ])
                  refine stake (i := 4) (v := (.slice ta (sn + dm) tc)) 8 rfl (by kernel_rfl) (by kernel_rfl) (by kernel_rfl) (by kernel_rfl) (fun _ _ _ h => h) (.inl ⟨by kernel_rfl, fun w' hS => by (go_simp)⟩) hHeld ?_
                  (try simp only [Act.put, List.setIfInBounds_toArray, List.set_cons_zero, List.set_cons_succ])
                  refine wpAnyH_done (by kernel_rfl) ?_ _
                  clear hHeld
                  go_wp2
                  go_ret
                  have e9 : (X ++ Y).map strip = Z := by rw [List.map_append, HX.out]; exact HF.out.end_ HA.out HZ.out m4 HT2.out HTA.out D8
                  exact ⟨ta, sn + dm, tc, X ++ Y, E, Z.length, rfl, R9.out, by rw [e9, List.take_length], fun _ => e9, B9.out⟩
end Go.Proofs.Ytlkmenjalpmipaa
