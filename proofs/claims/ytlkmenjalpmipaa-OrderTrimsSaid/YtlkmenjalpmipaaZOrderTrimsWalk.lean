/- The walk of OrderTrims. (Written by gen_otrims.py.) -/
import Derived.Test.YtlkmenjalpmipaaZOrdTwo
set_option linter.unusedVariables false
set_option maxRecDepth 100000
set_option linter.unusedSimpArgs false
namespace Go.Proofs.Ytlkmenjalpmipaa
open Go.RowKit Go.Sort Go.Shelf

def gPair (g1 g2 : Nat) : Nat → Nat := fun q => if q = 0 then g1 else g2
/-- The two orders of the law, and the array that names them. -/
structure TpSt (w wr : World) (G : Nat → Nat) (N : Nat) (St : Nat → Od) (ab : Nat) : Prop where
  ex : ∃ E, TwoF w wr G N St E ∧ Free E ab
  oab : Own wr ab 86 #[.pointer (some ⟨G 0, 0, none⟩), .pointer (some ⟨G 1, 0, none⟩)]
  rel : TRel (St 0) (St 1)
theorem TpSt.bel {w wr : World} {G : Nat → Nat} {N : Nat} {St : Nat → Od} {ab : Nat} (h : TpSt w wr G N St ab) : Below w.heap.size w wr := by
  obtain ⟨E, h1, _⟩ := h.ex
  exact h1.bel
theorem TpSt.round {w wr W : World} {G : Nat → Nat} {N : Nat} {St : Nat → Od} {ab vb lb : Nat} {a : OA} (h : TpSt w wr G N St ab) (hb : Below wr.heap.size wr W) (hv : Own W vb 49 (encO a).toArray) (hl : Own W lb 87 #[.slice none 0 0, .slice none 0 0]) (v0 : wr.heap.size ≤ vb) (l0 : wr.heap.size ≤ lb) : TrSt w W G N St ab vb lb a (fun _ => slNil) (fun _ => []) := by
  obtain ⟨E, h1, h2⟩ := h.ex
  have hs := h1.bel.size
  exact ⟨⟨E, h1.later hb, h2, Free.new h1 v0, Free.new h1 l0, h.oab.below hb h.oab.lt, hv, hl, by omega, fun k hk => RowO.none _⟩⟩
theorem TrSt.end_ {w wr : World} {G : Nat → Nat} {N : Nat} {St : Nat → Od} {ab vb lb : Nat} {a : OA} {s : Nat → Sl} {X : Nat → List Mg} (h : TrSt w wr G N St ab vb lb a s X) (hr : TRel (St 0) (St 1)) : TpSt w wr G N St ab := by
  obtain ⟨E, h⟩ := h.ex
  exact ⟨⟨E, h.two, h.fab⟩, h.oab, hr⟩
theorem TrSt.later {w wr w' : World} {G : Nat → Nat} {N : Nat} {St : Nat → Od} {ab vb lb : Nat} {a : OA} {s : Nat → Sl} {X : Nat → List Mg} (h : TrSt w wr G N St ab vb lb a s X) (hb : Below wr.heap.size wr w') : TrSt w w' G N St ab vb lb a s X := by
  obtain ⟨E, h⟩ := h.ex
  exact ⟨⟨E, h.later hb⟩⟩
theorem TrSt.le {w wr : World} {G : Nat → Nat} {N M : Nat} {St : Nat → Od} {ab vb lb : Nat} {a : OA} {s : Nat → Sl} {X : Nat → List Mg} (h : TrSt w wr G N St ab vb lb a s X) (hm : N ≤ M) : TrSt w wr G M St ab vb lb a s X := by
  obtain ⟨E, h⟩ := h.ex
  exact ⟨⟨E, h.two.le hm, h.fab, h.fvb, h.flb, h.oab, h.ovb, h.olb, h.bas, h.row⟩⟩
/-- How far the round is. -/
structure InT (k : Nat) (a : OA) (St St' : Nat → Od) (X : Nat → List Mg) : Prop where
  st : ∀ q, q < 2 → St' q = if q < k then (stepT (St q) a).1 else St q
  out : ∀ q, q < 2 → (X q).map strip = if q < k then (stepT (St q) a).2 else []
theorem InT.start (a : OA) (St : Nat → Od) : InT 0 a St St (fun _ => []) := ⟨fun q _ => by rw [if_neg (by omega)], fun q _ => by rw [if_neg (by omega)]; rfl⟩
theorem InT.now {k : Nat} {a : OA} {St St' : Nat → Od} {X : Nat → List Mg} (h : InT k a St St' X) (hk : k < 2) : St' k = St k := by rw [h.st k hk, if_neg (by omega)]
theorem InT.next {k : Nat} {a : OA} {St St' : Nat → Od} {X X' : Nat → List Mg} (h : InT k a St St' X) (hk : k < 2) (hX : (X' k).map strip = (stepT (St k) a).2) (ho : ∀ q, q ≠ k → X' q = X q) : InT (k + 1) a St (updF St' k (stepT (St k) a).1) X' := by
  refine ⟨fun q hq => ?_, fun q hq => ?_⟩
  · by_cases e : q = k
    · subst e; rw [updF_same, if_pos (by omega)]
    · rw [updF_other _ _ _ _ e, h.st q hq]
      by_cases e2 : q < k
      · rw [if_pos e2, if_pos (by omega)]
      · rw [if_neg e2, if_neg (by omega)]
  · by_cases e : q = k
    · subst e; rw [hX, if_pos (by omega)]
    · rw [ho q e, h.out q hq]
      by_cases e2 : q < k
      · rw [if_pos e2, if_pos (by omega)]
      · rw [if_neg e2, if_neg (by omega)]
theorem InT.none {k : Nat} {a : OA} {St St' : Nat → Od} {X : Nat → List Mg} (h : InT k a St St' X) (hk : k < 2) (h2 : (stepT (St k) a).2 = []) : InT (k + 1) a St (updF St' k (stepT (St k) a).1) X :=
  h.next hk (by rw [h.out k hk, if_neg (by omega), h2]) fun _ _ => rfl
theorem InT.fin {a : OA} {St St' : Nat → Od} {X : Nat → List Mg} (h : InT 2 a St St' X) (hr : TRel (St 0) (St 1)) (h0 : (St 0).ok) (h1 : (St 1).ok) : (X 0).map strip = (X 1).map strip ∧ TRel (St' 0) (St' 1) := by
  obtain ⟨e1, e2⟩ := hr.step h0 h1 a
  rw [h.out 0 (by decide), h.out 1 (by decide), h.st 0 (by decide), h.st 1 (by decide)]
  rw [if_pos (by decide), if_pos (by decide), if_pos (by decide), if_pos (by decide)]
  exact ⟨e1.symm, e2⟩
theorem stepT_few {O : Od} (h : O.ok) (a : OA) : (stepT O a).2.length ≤ leftO O := by
  unfold stepT
  split
  · exact Nat.zero_le _
  split
  · exact Nat.zero_le _
  split
  · exact Nat.zero_le _
  · have := (drainO_is h).left h
    show (drainO O).1.length ≤ _
    omega
set_option maxHeartbeats 8000000 in
theorem trims_core (ms : Nat) (hms : ms < 18446744073709551616) (ao : Option Addr) (len cap : Nat) (l : List OA) (w : World) (hl : Lst encO 10 w ao len l) (hok : ∀ a ∈ l, a.ok w) :
    Calls Try.prog 7 #[.int .u64 (ms : Int), .slice ao len cap] w fun e w' => e = .returned (.bool true) ∧ Below w.heap.size w w' := by
  have PA := oawake w
  have HL := Lib.hid hl
  have HO := Lib.hid hok
  clear hl hok
  go_enter Try.func7, Try.ntmps7
  go_wp2_with fail
  refine PA.mono ?_
  rintro e w1 ⟨rfl, B1⟩
  have PF := ofew ao len cap l w1 (HL.out.below B1)
  have HB1 := Lib.hid B1
  clear PA B1
  go_wp2_with fail
  refine PF.mono ?_
  rintro e w2 ⟨h2, B2⟩
  have HB2 := Lib.hid (HB1.out.trans (B2.mono HB1.out.size))
  clear PF B2 HB1
  rcases h2 with rfl | ⟨rfl, hlen, hdl⟩
  · go_wp2
    go_ret
    exact ⟨rfl, HB2.out⟩
  have HDL := Lib.hid hdl
  have PN := onew 0 ms w2 hms (by decide) (by decide)
  clear hdl
  go_wp2_with fail
  refine PN.mono ?_
  rintro e w3 ⟨g1, rfl, h3, B3⟩
  have PN2 := onew 0 ms w3 hms (by decide) (by decide)
  have H3 := Lib.hid (And.intro h3 B3)
  clear PN h3 B3
  go_wp2_with fail
  refine PN2.mono ?_
  rintro e w4 ⟨g2, rfl, h4, B4⟩
  have HT4 : Hid (TpSt w (w4.alloc (.cells #[.pointer (some ⟨g1, 0, none⟩), .pointer (some ⟨g2, 0, none⟩)] 86)) (gPair g1 g2) 0 (fun _ => newO 0 ms) w4.heap.size) := Lib.hid (by
    have L := ((Grw.refl w4).alloc (.cells #[.pointer (some ⟨g1, 0, none⟩), .pointer (some ⟨g2, 0, none⟩)] 86)).below
    have s2 := HB2.out.size
    have s3 := H3.out.2.size
    have s4 := B4.size
    have hE : TwoF w w4 (gPair g1 g2) 0 (fun _ => newO 0 ms) (fun q => if q = 0 then newB w2.heap.size w3 else newB w3.heap.size w4) := by
      refine ⟨fun k hk => ?_, fun k hk j hj => ?_, fun k q hk hq hkq j hj he => ?_, HB2.out.trans ((H3.out.2.trans (B4.mono s3)).mono s2)⟩
      · match k, hk with
        | 0, _ => exact H3.out.1.below B4
        | 1, _ => exact h4
      · match k, hk with
        | 0, _ => have := hj.1; omega
        | 1, _ => have := hj.1; omega
      · match k, q, hk, hq with
        | 0, 0, _, _ => exact hkq rfl
        | 0, 1, _, _ => have := hj.2; have := he.1; omega
        | 1, 0, _, _ => have := hj.1; have := he.2; omega
        | 1, 1, _, _ => exact hkq rfl
    exact ⟨⟨_, hE.later L, Free.new hE (Nat.le_refl _)⟩, Own.new w4 _ _, TRel.start 0 ms⟩)
  have hG0 : gPair g1 g2 0 = g1 := rfl
  have hG1 : gPair g1 g2 1 = g2 := rfl
  generalize gPair g1 g2 = G at *
  subst hG0 hG1
  clear PN2 h4 B4 H3 HB2
  go_wp2_with fail
  generalize w4.alloc (.cells #[.pointer (some ⟨G 0, 0, none⟩), .pointer (some ⟨G 1, 0, none⟩)] 86) = w5 at *
  generalize w4.heap.size = ab at *
  go_loopw [8] (fun si wr => ∃ (i : Nat) (St : Nat → Od), i ≤ len ∧ si = .int .i64 i ∧ Hid (TpSt w wr G (2 * i) St ab)) (fun si _ => len - (intOf si).toNat)
  case atStart => exact ⟨0, _, Nat.zero_le _, rfl, HT4⟩
  case round =>
    clear HT4
    obtain ⟨i, St, hi, rfl, HS⟩ := hrel
    by_cases hlt : i < len
    · obtain ⟨b, o, x, rfl, hx, hb, hc⟩ := HL.out.atO hlt
      have hxm := List.mem_of_getElem? hx
      have hcr : ∀ c v, (encO x)[c]? = some v → wr.cell? ⟨b, o + i * 10 + c, none⟩ = some v := fun c v hv => cell_later HS.out.bel (hc c v hv)
      have c0 := hcr 0 _ rfl
      have c1 := hcr 1 _ rfl
      have c2 := hcr 2 _ rfl
      have c3 := hcr 3 _ rfl
      have c4 := hcr 4 _ rfl
      have c5 := hcr 5 _ rfl
      have c6 := hcr 6 _ rfl
      have c7 := hcr 7 _ rfl
      have c8 := hcr 8 _ rfl
      have c9 := hcr 9 _ rfl
      rw [Nat.add_zero] at c0
      have hxo := HO.out x hxm
      have HXO := Lib.hid (And.intro hxo.p0 (And.intro hxo.p1 (And.intro hxo.q (And.intro hxo.s hxo.m))))
      have HDP := Lib.hid (show DpIn w x.m from hxo.d)
      have HXL := Lib.hid (HDL.out x hxm)
      clear hcr hc hx hxm hxo
      have LA := ((Grw.refl wr).alloc (.cells (encO x).toArray 49))
      have HIN : Hid (TrSt w ((wr.alloc (.cells (encO x).toArray 49)).alloc (.cells #[.slice none 0 0, .slice none 0 0] 87)) G (2 * i) St ab wr.heap.size (wr.heap.size + 1) x (fun _ => slNil) (fun _ => [])) := Lib.hid (by
        refine HS.out.round (LA.alloc _).below ?_ (by have h := Own.new (wr.alloc (.cells (encO x).toArray 49)) 87 #[.slice none 0 0, .slice none 0 0]; rw [show (wr.alloc (.cells (encO x).toArray 49)).heap.size = wr.heap.size + 1 by simp] at h; exact h) (Nat.le_refl _) (Nat.le_succ _)
        have V := Own.new wr 49 (encO x).toArray
        exact V.below ((Grw.refl _).alloc _).below V.lt)
      have HREL := Lib.hid HS.out.rel
      have HSO := Lib.hid (show (St 0).ok ∧ (St 1).ok ∧ leftO (St 0) ≤ 64000 from by
        obtain ⟨E, h1, _⟩ := HS.out.ex
        exact ⟨(h1.rep 0 (by decide)).ok, (h1.rep 1 (by decide)).ok, left_few (h1.rep 0 (by decide)) (by omega)⟩)
      obtain ⟨kind, p, ⟨f, q, s, v, da, dl, dc, deps, text⟩, seq, st⟩ := x
      simp only at c0 c1 c2 c3 c4 c5 c6 c7 c8 c9 HXO HDP HXL
      have HWB := Lib.hid HS.out.bel
      clear LA HS
      go_upto_region 12 with fail
      obtain ⟨vb, hvb⟩ : ∃ vb, vb = wr.heap.size := ⟨_, rfl⟩
      obtain ⟨lb, hlb⟩ : ∃ lb, lb = wr.heap.size + 1 := ⟨_, rfl⟩
      rw [← hlb, ← hvb] at HIN
      try rw [← hlb]
      try rw [← hvb]
      have HWS := Lib.hid (show w.heap.size ≤ vb by have := HWB.out.size; omega)
      clear hvb hlb c0 c1 c2 c3 c4 c5 c6 c7 c8 c9
      change Hid (TrSt w ((wr.alloc (.cells #[.int .i64 kind, .int .i64 p, .int .i64 f, .int .u32 q, .int .u64 s, .int .i64 v, .slice da dl dc, .string text, .int .u32 (seq : Int), .int .u64 (st : Int)] 49)).alloc (.cells #[.slice none 0 0, .slice none 0 0] 87)) G (2 * i) St ab vb lb ⟨kind, p, ⟨f, q, s, v, da, dl, dc, deps, text⟩, seq, st⟩ (fun _ => slNil) (fun _ => [])) at HIN
      generalize (wr.alloc (.cells #[.int .i64 kind, .int .i64 p, .int .i64 f, .int .u32 q, .int .u64 s, .int .i64 v, .slice da dl dc, .string text, .int .u32 (seq : Int), .int .u64 (st : Int)] 49)).alloc (.cells #[.slice none 0 0, .slice none 0 0] 87) = w6 at *
      have HI0 : Hid (InT 0 ⟨kind, p, ⟨f, q, s, v, da, dl, dc, deps, text⟩, seq, st⟩ St St (fun _ => [])) := Lib.hid (InT.start _ _)
      clear HWB
      go_wp2_with fail
      go_loopw [11] (fun si wr => ∃ (k : Nat) (St' : Nat → Od) (sx : Nat → Sl) (X : Nat → List Mg), k ≤ 2 ∧ si = .int .i64 k ∧ Hid (InT k ⟨kind, p, ⟨f, q, s, v, da, dl, dc, deps, text⟩, seq, st⟩ St St' X) ∧ Hid (TrSt w wr G (2 * i + k) St' ab vb lb ⟨kind, p, ⟨f, q, s, v, da, dl, dc, deps, text⟩, seq, st⟩ sx X)) (fun si _ => 2 - (intOf si).toNat)
      case atStart => exact ⟨0, St, _, _, Nat.zero_le _, rfl, HI0, HIN⟩
      case round =>
        clear HIN HI0
        obtain ⟨k, St', sx, X, hkl, rfl, HI, HS⟩ := hrel
        by_cases hk2 : k < 2
        · obtain ⟨E, hE⟩ := HS.out.ex
          have pk := hE.pab k hk2
          have VB : Own wr vb 49 #[.int .i64 kind, .int .i64 p, .int .i64 f, .int .u32 q, .int .u64 s, .int .i64 v, .slice da dl dc, .string text, .int .u32 (seq : Int), .int .u64 (st : Int)] := hE.ovb
          have hk2' : (k : Int) < 2 := by omega
          have hN : 2 * i + k ≤ 999 := by omega
          have HE := Lib.hid hE
          have HBW := Lib.hid hE.two.bel
          clear hE HS
          by_cases hq0 : kind = 0
          · subst hq0
            have e0 := VB.at_ 0 _ rfl
            have e2 := VB.at_ 2 _ rfl
            have e3 := VB.at_ 3 _ rfl
            have e4 := VB.at_ 4 _ rfl
            have e5 := VB.at_ 5 _ rfl
            have e6 := VB.at_ 6 _ rfl
            have e7 := VB.at_ 7 _ rfl
            have HIT := HI
            clear VB HI
            go_upto_region 18 with fail
            go_still_tail 5, (by kernel_rfl)
            change wpList _ _ _ _ _ (wr.drewN 1)
            have HW := Lib.hid (HE.out.later ((Grw.refl wr).drewN 1).below)
            have HDW := Lib.hid ((HDP.out.below HBW.out).below ((Grw.refl wr).drewN 1).below)
            clear pk e0 e2 e3 e4 e5 e6 e7 HE
            generalize wr.drewN 1 = wa at *
            have P := otake (HW.out.two.rep k hk2) hN ⟨f, q, s, v, da, dl, dc, deps, text⟩ HXO.out.2.2.2.2 HDW.out (Nat.le_trans HXL.out (by decide))
            unfold valG at P
            simp only [encG] at P
            go_wp2_with fail
            refine P.mono ?_
            rintro e wb ⟨rfl, r2, r3⟩
            have hnx : TrSt w wb G (2 * i + (k + 1)) (updF St' k (takeO (St' k) ⟨f, q, s, v, da, dl, dc, deps, text⟩)) ab vb lb ⟨0, p, ⟨f, q, s, v, da, dl, dc, deps, text⟩, seq, st⟩ sx X := HW.out.acted (by omega) k hk2 (r2.le (by omega)) r3 (fun j hj => hj)
            clear r2 r3
            have hnow := HIT.out.now hk2
            have HIN : Hid (InT (k + 1) ⟨0, p, ⟨f, q, s, v, da, dl, dc, deps, text⟩, seq, st⟩ St (updF St' k (stepT (St k) ⟨0, p, ⟨f, q, s, v, da, dl, dc, deps, text⟩, seq, st⟩).1) X) := Lib.hid (HIT.out.none hk2 (by rw [stepT_0 rfl]))
            rw [show (stepT (St k) ⟨0, p, ⟨f, q, s, v, da, dl, dc, deps, text⟩, seq, st⟩).1 = (stepT (St' k) ⟨0, p, ⟨f, q, s, v, da, dl, dc, deps, text⟩, seq, st⟩).1 by rw [hnow]] at HIN
            rw [stepT_0 rfl] at HIN
            have HNX := Lib.hid hnx
            clear P hnx hnow HIT
            clear HW HDW
            go_wp2
            go_roundw
            case rel => exact ⟨k + 1, _, sx, X, by omega, by go_num, HIN.out, HNX⟩
            case measure => simp [intOf]; omega
          by_cases hq1 : kind = 1
          · subst hq1
            have e0 := VB.at_ 0 _ rfl
            have e1 := VB.at_ 1 _ rfl
            have e8 := VB.at_ 8 _ rfl
            have e9 := VB.at_ 9 _ rfl
            have HIT := HI
            obtain ⟨gh, gz, F, zs, hA0⟩ := (HE.out.two.rep k hk2).ex
            have c1 := hA0.c1
            have HA0 := Lib.hid hA0
            clear VB HI hA0
            go_upto_region 20 with fail
            go_still_tail 12, (by kernel_rfl)
            change wpList _ _ _ _ _ (wr.drewN 1)
            have HW := Lib.hid (HE.out.later ((Grw.refl wr).drewN 1).below)
            have HDW := Lib.hid ((HDP.out.below HBW.out).below ((Grw.refl wr).drewN 1).below)
            have HA := Lib.hid (HA0.out.below ((Grw.refl wr).drewN 1).below)
            clear pk c1 HA0 e0 e1 e8 e9 HE
            generalize wr.drewN 1 = wa at *
            have P := zprom HA.out.hz (Nat.le_trans HA.out.wt (by omega)) p HXO.out.1 HXO.out.2.1 st seq HXO.out.2.2.2.1 HXO.out.2.2.1
            go_wp2_with fail
            refine P.mono ?_
            rintro e wb ⟨rfl, r2⟩
            obtain ⟨r3, r4⟩ := HA.out.seen r2 (Nat.le_succ _) (Nat.le_trans (prom_wait _ _ _ _) (Nat.succ_le_succ HA.out.wt))
            have hnx : TrSt w wb G (2 * i + (k + 1)) (updF St' k (promO (St' k) p st seq)) ab vb lb ⟨1, p, ⟨f, q, s, v, da, dl, dc, deps, text⟩, seq, st⟩ sx X := HW.out.acted (by omega) k hk2 (r3.le (by omega)) r4 (fun j hj => hj)
            clear r2 r3 r4 HA
            have hnow := HIT.out.now hk2
            have HIN : Hid (InT (k + 1) ⟨1, p, ⟨f, q, s, v, da, dl, dc, deps, text⟩, seq, st⟩ St (updF St' k (stepT (St k) ⟨1, p, ⟨f, q, s, v, da, dl, dc, deps, text⟩, seq, st⟩).1) X) := Lib.hid (HIT.out.none hk2 (by rw [stepT_1 rfl]))
            rw [show (stepT (St k) ⟨1, p, ⟨f, q, s, v, da, dl, dc, deps, text⟩, seq, st⟩).1 = (stepT (St' k) ⟨1, p, ⟨f, q, s, v, da, dl, dc, deps, text⟩, seq, st⟩).1 by rw [hnow]] at HIN
            rw [stepT_1 rfl] at HIN
            have HNX := Lib.hid hnx
            clear P hnx hnow HIT
            clear HW HDW
            go_wp2
            go_roundw
            case rel => exact ⟨k + 1, _, sx, X, by omega, by go_num, HIN.out, HNX⟩
            case measure => simp [intOf]; omega
          by_cases hq2 : kind = 2
          · subst hq2
            have e0 := VB.at_ 0 _ rfl
            have e1 := VB.at_ 1 _ rfl
            have e9 := VB.at_ 9 _ rfl
            have HIT := HI
            obtain ⟨gh, gz, F, zs, hA0⟩ := (HE.out.two.rep k hk2).ex
            have c1 := hA0.c1
            have HA0 := Lib.hid hA0
            clear VB HI hA0
            go_upto_region 22 with fail
            go_still_tail 10, (by kernel_rfl)
            change wpList _ _ _ _ _ (wr.drewN 1)
            have HW := Lib.hid (HE.out.later ((Grw.refl wr).drewN 1).below)
            have HDW := Lib.hid ((HDP.out.below HBW.out).below ((Grw.refl wr).drewN 1).below)
            have HA := Lib.hid (HA0.out.below ((Grw.refl wr).drewN 1).below)
            clear pk c1 HA0 e0 e1 e9 HE
            generalize wr.drewN 1 = wa at *
            have P := zreached HA.out.hz p HXO.out.1 HXO.out.2.1 st HXO.out.2.2.2.1
            go_wp2_with fail
            refine P.mono ?_
            rintro e wb ⟨rfl, r1, r2⟩
            obtain ⟨r3, r4⟩ := HA.out.seen (Gone13.mk' r1 r2) (Nat.le_succ _) (Nat.le_trans (reach_wait _ _ _) (Nat.succ_le_succ HA.out.wt))
            have hnx : TrSt w wb G (2 * i + (k + 1)) (updF St' k (reachO (St' k) p st)) ab vb lb ⟨2, p, ⟨f, q, s, v, da, dl, dc, deps, text⟩, seq, st⟩ sx X := HW.out.acted (by omega) k hk2 (r3.le (by omega)) r4 (fun j hj => hj)
            clear r1 r2 r3 r4 HA
            have hnow := HIT.out.now hk2
            have HIN : Hid (InT (k + 1) ⟨2, p, ⟨f, q, s, v, da, dl, dc, deps, text⟩, seq, st⟩ St (updF St' k (stepT (St k) ⟨2, p, ⟨f, q, s, v, da, dl, dc, deps, text⟩, seq, st⟩).1) X) := Lib.hid (HIT.out.none hk2 (by rw [stepT_2 rfl]))
            rw [show (stepT (St k) ⟨2, p, ⟨f, q, s, v, da, dl, dc, deps, text⟩, seq, st⟩).1 = (stepT (St' k) ⟨2, p, ⟨f, q, s, v, da, dl, dc, deps, text⟩, seq, st⟩).1 by rw [hnow]] at HIN
            rw [stepT_2 rfl] at HIN
            have HNX := Lib.hid hnx
            clear P hnx hnow HIT
            clear HW HDW
            go_wp2
            go_roundw
            case rel => exact ⟨k + 1, _, sx, X, by omega, by go_num, HIN.out, HNX⟩
            case measure => simp [intOf]; omega
          have t0 : (kind == 0) = false := beq_eq_false_iff_ne.2 hq0
          have t1 : (kind == 1) = false := beq_eq_false_iff_ne.2 hq1
          have t2 : (kind == 2) = false := beq_eq_false_iff_ne.2 hq2
          have HKK := Lib.hid (show ¬ (kind = 0 ∨ kind = 1 ∨ kind = 2) by omega)
          have e0 := VB.at_ 0 _ rfl
          have P := odrain (HE.out.two.rep k hk2) (by omega)
          have HIT := HI
          have HOK := Lib.hid (HE.out.two.rep k hk2).ok
          clear VB HI hq0 hq1 hq2
          go_wp2_with fail
          refine P.mono ?_
          rintro e wb ⟨bb, n, c, Y, P', rfl, r1, r2, r3, r4, r5, r6, r7⟩
          have hdr := r4.eq HOK.out
          obtain ⟨hT, hRow⟩ := HE.out.drained (M := 2 * i + (k + 1)) (by omega) k hk2 r5 r6 r1 r2 r3
          have lk := hT.plb k hk2
          have lf := hT.olb.free k
          have hnow := HIT.out.now hk2
          have HIN : Hid (InT (k + 1) ⟨kind, p, ⟨f, q, s, v, da, dl, dc, deps, text⟩, seq, st⟩ St (updF St' k (stepT (St k) ⟨kind, p, ⟨f, q, s, v, da, dl, dc, deps, text⟩, seq, st⟩).1) (updF X k Y)) := Lib.hid (HIT.out.next hk2 (by rw [updF_same, stepT_else HKK.out, ← hnow, hdr]) (fun q hq => updF_other _ _ _ _ hq))
          rw [show (stepT (St k) ⟨kind, p, ⟨f, q, s, v, da, dl, dc, deps, text⟩, seq, st⟩).1 = (stepT (St' k) ⟨kind, p, ⟨f, q, s, v, da, dl, dc, deps, text⟩, seq, st⟩).1 by rw [hnow], stepT_else HKK.out, hdr] at HIN
          have HNX := Lib.hid (hT.laid k hk2 hRow)
          generalize (sx k).v = oldv at lk
          clear P r1 r2 r3 r4 r5 r6 r7 hdr hT hRow hnow HE HIT pk e0
          go_wp2
          go_roundw
          case rel => exact ⟨k + 1, _, updF sx k ⟨bb, n, c⟩, updF X k Y, by omega, by go_num, HIN, HNX⟩
          case measure => simp [intOf]; omega
        · obtain rfl : k = 2 := by omega
          have hfin := HI.out.fin HREL.out HSO.out.1 HSO.out.2.1
          have hx0 : (X 0).length ≤ 64000 := by
            have h1 := congrArg List.length (HI.out.out 0 (by decide))
            rw [List.length_map, if_pos (by decide)] at h1
            have h2 := stepT_few HSO.out.1 ⟨kind, p, ⟨f, q, s, v, da, dl, dc, deps, text⟩, seq, st⟩
            have h3 := HSO.out.2.2
            omega
          have HFIN := Lib.hid (And.intro hfin.1 (And.intro hfin.2 hx0))
          have HT0 : Hid (St' 0 = St' 0 ∧ TRel (St' 0) (St' 1)) := Lib.hid ⟨rfl, hfin.2⟩
          have HS0 : Hid (TrSt w wr G (2 * i + 2) St' ab vb lb ⟨kind, p, ⟨f, q, s, v, da, dl, dc, deps, text⟩, seq, st⟩ sx X) := HS
          obtain ⟨u, hu⟩ : ∃ u : Nat, (u : Int) = 4294967295 := ⟨4294967295, rfl⟩
          have HU := Lib.hid hu
          clear hfin hx0 HI HREL HSO HS hu
          go_wp2_with fail
          go_loopw [12] (fun si wr => ∃ (pp : Nat) (Sz : Nat → Od), pp ≤ 64 ∧ si = .int .i64 pp ∧ Hid (Sz 0 = St' 0 ∧ TRel (St' 0) (Sz 1)) ∧ Hid (TrSt w wr G (2 * i + 2) Sz ab vb lb ⟨kind, p, ⟨f, q, s, v, da, dl, dc, deps, text⟩, seq, st⟩ sx X)) (fun si _ => 64 - (intOf si).toNat)
          case atStart => exact ⟨0, St', Nat.zero_le _, rfl, Lib.hid ⟨rfl, HT0.out.2⟩, HS0⟩
          case round =>
            clear HT0 HS0
            obtain ⟨pp, Sz, hpp, rfl, HZ, HS⟩ := hrel
            obtain ⟨E, hE⟩ := HS.out.ex
            by_cases hlt3 : pp < 64
            · have P := otrim (hE.two.rep 1 (by decide)) (by omega) (pp : Int) (by omega) (by omega) u (by have := HU.out; omega)
              rw [HU.out] at P
              have HE := Lib.hid hE
              clear HS hE
              go_wp2_with fail
              refine P.mono ?_
              rintro e wb ⟨rfl, r2, r3⟩
              have hnx : TrSt w wb G (2 * i + 2) (updF Sz 1 (trimO (Sz 1) (pp : Int) u)) ab vb lb ⟨kind, p, ⟨f, q, s, v, da, dl, dc, deps, text⟩, seq, st⟩ sx X := HE.out.acted (Nat.le_refl _) 1 (by decide) r2 r3 (fun j hj => hj)
              have HNX := Lib.hid hnx
              have HZ2 : Hid ((updF Sz 1 (trimO (Sz 1) (pp : Int) u)) 0 = St' 0 ∧ TRel (St' 0) ((updF Sz 1 (trimO (Sz 1) (pp : Int) u)) 1)) := Lib.hid ⟨by rw [updF_other _ _ _ _ (by decide)]; exact HZ.out.1, by rw [updF_same]; exact HZ.out.2.trim _ _⟩
              clear P r2 r3 hnx HE
              go_wp2
              go_roundw
              case rel => exact ⟨pp + 1, _, by omega, by go_num, HZ2, HNX⟩
              case measure => simp [intOf]; omega
            · have hrel : TRel (Sz 0) (Sz 1) := by rw [HZ.out.1]; exact HZ.out.2
              have l0 := hE.plb 0 (by decide)
              have l1 := hE.plb 1 (by decide)
              have hr0 := hE.row 0 (by decide)
              have hr1 := hE.row 1 (by decide)
              have hz0 := (hE.two.rep 0 (by decide)).ok
              have hz1 := (hE.two.rep 1 (by decide)).ok
              obtain ⟨⟨xa, xn, xc⟩, hs0⟩ : ∃ t, t = sx 0 := ⟨_, rfl⟩
              obtain ⟨⟨ya, yn, yc⟩, hs1⟩ : ∃ t, t = sx 1 := ⟨_, rfl⟩
              rw [← hs0] at l0 hr0
              rw [← hs1] at l1 hr1
              have hxn : xn ≤ 1048576 := by have h1 : (X 0).length = xn := hr0.len; have := HFIN.out.2.2; omega
              have PA := all_rows14 (sc := xc) (tc := yc) hr0.lst hr1.lst hr0.dps (fun y hy => (hr1.dps y hy).1) HFIN.out.1 hxn
              have HE := Lib.hid (And.intro hE.two (And.intro hrel (And.intro hz0 hz1)))
              unfold Sl.v at l0 l1
              simp only at l0 l1
              clear hE hr0 hr1 hz0 hz1 hrel hxn hs0 hs1 HFIN
              go_wp2_with (first | (go_at_call 14; (with_reducible refine PA.mono ?_); rintro e wa ⟨rfl, hG⟩) | fail)
              have hB1 := hG.below
              have PL := olast ((HE.out.1.rep 0 (by decide)).below hB1)
              have HB1 := Lib.hid hB1
              clear PA hG hB1
              go_wp2_with (first | (go_at_call 13; (with_reducible refine PL.mono ?_); rintro e wb ⟨rfl, hBb⟩) | fail)
              have hB2 := HB1.out.trans (hBb.mono HB1.out.size)
              have PL2 := olast ((HE.out.1.rep 1 (by decide)).below hB2)
              rw [HE.out.2.1.last] at PL2
              have HB2 := Lib.hid hB2
              have hq := held_key14
              clear PL hBb hB2 HB1
              go_wp2_with (first | (go_at_call 13; (with_reducible refine PL2.mono ?_); rintro e wc ⟨rfl, hBc⟩) | fail)
              have hB3 := HB2.out.trans (hBc.mono HB2.out.size)
              have PR := orest ((HE.out.1.rep 0 (by decide)).below hB3) (by omega)
              have HB3 := Lib.hid hB3
              clear PL2 hBc hB3 HB2
              go_wp2_with (first | (go_at_call 15; (with_reducible refine PR.mono ?_); rintro e wd ⟨⟨ta, tn, tc⟩, Y1, rfl, hO1, hI1, hBd, hfw1⟩) | fail)
              have hB4 := HB3.out.trans (hBd.mono HB3.out.size)
              have PR2 := orest ((HE.out.1.rep 1 (by decide)).below hB4) (by omega)
              have HO1 := Lib.hid (And.intro hO1 (And.intro hI1 hfw1))
              have HB4 := Lib.hid hB4
              clear PR hO1 hI1 hBd hfw1 hB4 HB3
              go_wp2_with (first | (go_at_call 15; (with_reducible refine PR2.mono ?_); rintro e we ⟨⟨ua, un, uc⟩, Y2, rfl, hO2, hI2, hBe, hfw2⟩) | fail)
              have hO1c := HO1.out.1.below hBe
              have PA := all_rows14 (sc := tc) (tc := uc) hO1c.slot.lst hO2.slot.lst (fun x hx => ⟨(hO1c.deps x hx).deps, (hO1c.deps x hx).few⟩) (fun y hy => (hO2.deps y hy).deps) ((HE.out.2.1.rest HE.out.2.2.1 HE.out.2.2.2 HO1.out.2.1).one hI2) (show tn ≤ 1048576 by have : tn ≤ 64000 := HO1.out.2.2; omega)
              have hB5 := HB4.out.trans (hBe.mono HB4.out.size)
              have HB5 := Lib.hid hB5
              clear PR2 hO2 hI2 hBe hfw2 hO1c hB5 HB4 HO1
              go_wp2_with (first | (go_at_call 14; (with_reducible refine PA.mono ?_); rintro e wf ⟨rfl, hG⟩) | fail)
              have hB6 := HB5.out.trans (hG.below.mono HB5.out.size)
              have HNX : Hid (TpSt w wf G (2 * (i + 1)) Sz ab) := Lib.hid ((((show 2 * i + 2 = 2 * (i + 1) by omega) ▸ HS.out).later hB6).end_ HE.out.2.1)
              clear PA hG hB6 HB5 HE HS
              go_wp2
              go_roundw
              case rel => exact ⟨i + 1, Sz, by omega, by go_num, HNX⟩
              case measure => simp [intOf]; omega
    · obtain rfl : i = len := by omega
      have HBF := Lib.hid HS.out.bel
      clear HS
      go_wp2
      go_ret
      exact ⟨rfl, HBF.out⟩
theorem walk_OrderTrims {w : World} (a : Int) (wa : (Lit.int .u64 a).wf = true) (ao : Option Addr) (len cap : Nat) (l : List OA) (hl : Lst encO 10 w ao len l ∧ ∀ m ∈ l, m.ok w) :
    Calls Try.prog 7 #[.int .u64 a, .slice ao len cap] w fun e w' => e = .returned (.bool true) ∧ Below w.heap.size w w' := by
  have a0 := Go.bounds_u64 wa
  obtain ⟨a, rfl⟩ := Int.eq_ofNat_of_zero_le (show 0 ≤ a by omega)
  exact trims_core a (by omega) ao len cap l w hl.1 hl.2
end Go.Proofs.Ytlkmenjalpmipaa
