/- The walk of GatherCopies. -/
import Derived.Test.YtmaiphgmnammgaaDoorZGaDo
import Derived.Test.YtmaiphgmnammgaaDoorZGrSame
set_option linter.unusedVariables false
set_option maxRecDepth 100000
set_option linter.unusedSimpArgs false
namespace Go.Proofs.YtmaiphgmnammgaaDoor
open Go.RowKit Go.Sort Go.Maps

set_option maxHeartbeats 8000000 in
theorem copies_core (M : Nat) (hM : M < 18446744073709551616) (so : Option Addr) (n c : Nat) (l : List GA) (at' : Int) (t0 : -9223372036854775808 ≤ at') (t1 : at' ≤ 9223372036854775807) (w : World) (hl : Lst encGA 8 w so n l) (hok : ∀ a ∈ l, a.ok w) (hn : n ≤ 1759218604390) (hTab : Tab w) :
    Calls Tryd.prog 6 #[.int .u64 (M : Int), .slice so n c, .int .i64 at'] w fun e w' => e = .returned (.bool true) ∧ Below w.heap.size w w' := by
  have PA := gawake w hTab
  have HL := Lib.hid hl
  have HOK := Lib.hid hok
  clear hl hok hTab
  go_enter Tryd.func6, Tryd.ntmps6
  go_wp2_with fail
  refine PA.mono ?_
  rintro e w1 ⟨rfl, B1⟩
  have PF := gfew (HL.out.below B1) hn c
  have HB1 := Lib.hid B1
  clear PA B1
  go_wp2_with fail
  refine PF.mono ?_
  rintro e w2 ⟨h2, B2⟩
  have HB2 := Lib.hid (HB1.out.trans (B2.mono HB1.out.size))
  clear PF B2 HB1
  rcases h2 with rfl | ⟨rfl, hn80⟩
  · go_wp2
    go_ret
    exact ⟨rfl, HB2.out⟩
  cases h3 : decide (at' < (0 : Int)) with
  | true =>
    go_wp2
    go_ret
    exact ⟨rfl, HB2.out⟩
  | false =>
  have h3' := of_decide_eq_false h3
  obtain ⟨t, rfl⟩ := Int.eq_ofNat_of_zero_le (show 0 ≤ at' by omega)
  cases h4 : decide (n < t) with
  | true =>
    go_wp2
    go_ret
    exact ⟨rfl, HB2.out⟩
  | false =>
  have htn : t ≤ n := by have := of_decide_eq_false h4; omega
  clear h3'
  have PG := gnew 1 0 M w2 hM
  go_wp2_with fail
  refine PG.mono ?_
  rintro e w3 ⟨g, mb, rfl, hg, hg0, hm0, B3⟩
  have N3 : Hid (GtN w w3 g mb (newG 1 0 M)) := Lib.hid (by
    have hs := HB2.out.size
    exact ⟨hg, by omega, by omega, HB2.out.trans (B3.mono HB2.out.size)⟩)
  clear PG hg hg0 hm0 B3 HB2
  go_wp2_with fail
  clear h3 h4
  go_loopw [9] (fun si wr => ∃ (i : Nat) (S : Gt), i ≤ t ∧ si = .int .i64 i ∧ Aside (GtN w wr g mb S) ∧ Aside (nS S = runN (newG 1 0 M) (l.take i))) (fun si _ => t - (intOf si).toNat)
  case atStart => exact ⟨0, _, Nat.zero_le _, rfl, N3.out, (by rw [List.take_zero]; exact (rfl : nS (newG 1 0 M) = newG 1 0 M))⟩
  case round =>
    clear N3
    obtain ⟨i, S, hi, rfl, HN, HS⟩ := hrel
    by_cases hlt : i < t
    · obtain ⟨b, o, e, hr⟩ := HL.out.src (show 0 < n by omega)
      subst e
      obtain ⟨a, ha⟩ : ∃ a, l[i]? = some a := ⟨_, List.getElem?_eq_getElem (by rw [HL.out.size]; omega)⟩
      have hrg := gam_range hr ha
      have HR := Lib.hid (show wr.rangeAt b (o + i * 8) (encGA a) from fun j u hj => cell_later HN.out.bel (hrg j u hj))
      have HNX := Lib.hid (runN_next (T := newG 1 0 M) ha)
      have PD := gdo HN.out.at_ a ((HOK.out a (List.mem_of_getElem? ha)).below HN.out.bel)
      have HN2 := Lib.hid HN.out
      have hin : i < n := by omega
      clear hr ha hrg HN
      obtain ⟨rd, p, f, oe, op, xa, xn, xc, ct, kn, kp⟩ := a
      unfold encGA at PD
      simp only at PD
      go_wp2_with (first | (refine load_gam rfl (.tmp 42) rfl b (o + i * 8) ⟨rd, p, ⟨f, oe, op, xa, xn, xc, ct, ⟨kn, kp⟩⟩⟩ rfl HR.out ?_) | fail)
      refine PD.mono ?_
      rintro e w6 ⟨rfl, S', hg, hs, hc⟩
      have N6 : Hid (GtN w w6 g mb S') := Lib.hid ⟨hg, HN2.out.g0, HN2.out.m0, HN2.out.bel.trans (hc.below HN2.out.bel.size fun k hk => by rcases hk with rfl | rfl; exact HN2.out.g0; exact HN2.out.m0)⟩
      have HS6 := Lib.hid (show nS S' = runN (newG 1 0 M) (l.take (i + 1)) by rw [HNX.out, hs, HS.out])
      clear PD hg hs hc HN2 HS HNX HR
      go_wp2
      go_roundw
      case rel => exact ⟨i + 1, S', by omega, by go_num, N6.out, HS6.out⟩
      case measure => simp [intOf]; omega
    · obtain rfl : i = t := by omega
      have PC := gcopy HN.out.at_
      have HN2 := Lib.hid HN.out
      have HS2 := Lib.hid HS.out
      clear HN HS
      go_wp2_with fail
      refine PC.mono ?_
      rintro e w4 ⟨g2, mb2, rfl, hg2, hg20, hm20, B4⟩
      have T4 : Hid (Gt2 w w4 g mb S g2 mb2 S) := Lib.hid (by
        have h1 := HN2.out.at_.lt
        have h2 := HN2.out.at_.map.lt
        have hs := HN2.out.bel.size
        exact ⟨HN2.out.later B4, ⟨hg2, by omega, by omega, HN2.out.bel.trans (B4.mono hs)⟩, by omega, by omega⟩)
      clear PC hg2 hg20 hm20 B4 HN2
      have PW := gwaits T4.out.a.at_
      obtain ⟨z, hz⟩ : ∃ z, z = waitG S := ⟨_, rfl⟩
      rw [← hz] at PW
      have HZ := Lib.hid hz
      clear hz
      go_wp2_with fail
      refine PW.mono ?_
      rintro e w5 ⟨rfl, B5⟩
      have T5 := Lib.hid (T4.out.later B5)
      have PX := gexch T5.out.a.at_
      clear PW B5 T4
      go_wp2_with fail
      refine PX.mono ?_
      rintro e w6 ⟨xa, xn, xc, X, rfl, hex⟩
      have T6 := Lib.hid (T5.out.later hex.bel)
      have R6 := Lib.hid (RowX.of hex)
      have HSX := Lib.hid hex.str
      have hxn : xn ≤ 64 := by
        have h1 := congrArg List.length hex.str
        rw [List.length_map, List.length_map] at h1
        have h2 := hex.len
        have h3 : (exL S).length ≤ 64 := by
          unfold exL exN
          refine Nat.le_trans (List.length_filterMap_le _ _) ?_
          rw [lst_length]; exact card_le _
        omega
      clear PX hex T5
      go_wp2_with fail
      go_loopw [13] (fun si wr => ∃ (j : Nat) (Sa : Gt), i ≤ j ∧ j ≤ n ∧ si = .int .i64 j ∧ Aside (Gt2 w wr g mb Sa g2 mb2 S) ∧ Aside (RowX wr xa xn X) ∧ Aside (nS Sa = runN (newG 1 0 M) (l.take j))) (fun si _ => n - (intOf si).toNat)
      case atStart => exact ⟨i, S, Nat.le_refl _, htn, rfl, T6.out, R6.out, HS2.out⟩
      case round =>
        clear T6 R6
        obtain ⟨j, Sa, hij, hj, rfl, HT, HR, HS⟩ := hrel
        by_cases hlt : j < n
        · obtain ⟨b, o, e, hr⟩ := HL.out.src (show 0 < n by omega)
          subst e
          obtain ⟨a, ha⟩ : ∃ a, l[j]? = some a := ⟨_, List.getElem?_eq_getElem (by rw [HL.out.size]; omega)⟩
          have hrg := gam_range hr ha
          have HRG := Lib.hid (show wr.rangeAt b (o + j * 8) (encGA a) from fun q u hj => cell_later HT.out.a.bel (hrg q u hj))
          have HNX := Lib.hid (runN_next (T := newG 1 0 M) ha)
          have PD := gdo HT.out.a.at_ a ((HOK.out a (List.mem_of_getElem? ha)).below HT.out.a.bel)
          have HT2 := Lib.hid HT.out
          have HR2 := Lib.hid HR.out
          clear hr ha hrg HT HR
          obtain ⟨rd, p, f, oe, op, xxa, xxn, xxc, ct, kn, kp⟩ := a
          unfold encGA at PD
          simp only at PD
          go_wp2_with (first | (refine load_gam rfl (.tmp 62) rfl b (o + j * 8) ⟨rd, p, ⟨f, oe, op, xxa, xxn, xxc, ct, ⟨kn, kp⟩⟩⟩ rfl HRG.out ?_) | fail)
          refine PD.mono ?_
          rintro e w7 ⟨rfl, S', hg, hs, hc⟩
          have T7 := Lib.hid (HT2.out.act hg hc)
          have R7 := Lib.hid (HR2.out.act HT2.out.a.at_ hc)
          have HS7 := Lib.hid (show nS S' = runN (newG 1 0 M) (l.take (j + 1)) by rw [HNX.out, hs, HS.out])
          clear PD hg hs hc HT2 HS HNX HRG HR2
          go_wp2
          go_roundw
          case rel => exact ⟨j + 1, S', by omega, by omega, by go_num, T7.out, R7.out, HS7.out⟩
          case measure => simp [intOf]; omega
        · obtain rfl : j = n := by omega
          have T8 := Lib.hid HT.out
          have R8 := Lib.hid HR.out
          have HS8 := Lib.hid HS.out
          clear HT HR HS
          have PW := gwaits T8.out.c.at_
          rw [← HZ.out] at PW
          have hzz : ((z : Int) != (z : Int)) = false := by simp
          go_wp2_with fail
          refine PW.mono ?_
          rintro e w9 ⟨rfl, B9⟩
          have T9 := Lib.hid (T8.out.later B9)
          have R9 := Lib.hid (R8.out.later B9)
          clear PW B9 T8 R8
          have PX := gexch T9.out.c.at_
          go_wp2_with fail
          refine PX.mono ?_
          rintro e w10 ⟨ya, yn, yc, Y, rfl, hex⟩
          have T10 := Lib.hid (T9.out.later hex.bel)
          have R10 := R9.out.later hex.bel
          have Y10 := RowX.of hex
          have HEQ := Lib.hid (show Y.map stripX = X.map stripX by rw [hex.str, HSX.out])
          have hyn : yn ≤ 64 := by
            have h1 := congrArg List.length HEQ.out
            rw [List.length_map, List.length_map] at h1
            have h2 := hex.len
            have h3 := R10.at_.size
            omega
          have PE := rexch ya xa yn xn yc xc Y X w10 Y10.at_ R10.at_ (fun x hx => (Y10.xs x hx).v) (fun x hx => (R10.xs x hx).v) (by omega)
          clear PX hex T9 R9 R10 Y10
          go_wp2_with fail
          refine PE.mono ?_
          rintro e w11 ⟨bb, rfl, hbb, B11⟩
          have hbt := hbb HEQ.out
          subst hbt
          have T11 := Lib.hid (T10.out.later B11)
          clear PE hbb B11 T10 HEQ hzz
          go_wp2_with fail
          go_loopw [14] (fun si wr => ∃ (q : Nat) (Sc : Gt), i ≤ q ∧ q ≤ j ∧ si = .int .i64 q ∧ Aside (Gt2 w wr g mb Sa g2 mb2 Sc) ∧ Aside (nS Sc = runN (newG 1 0 M) (l.take q))) (fun si _ => j - (intOf si).toNat)
          case atStart => exact ⟨i, S, Nat.le_refl _, htn, rfl, T11.out, HS2.out⟩
          case round =>
            clear T11
            obtain ⟨q, Sc, hiq, hq, rfl, HT, HS⟩ := hrel
            by_cases hlt : q < j
            · obtain ⟨b, o, e, hr⟩ := HL.out.src (show 0 < j by omega)
              subst e
              obtain ⟨a, ha⟩ : ∃ a, l[q]? = some a := ⟨_, List.getElem?_eq_getElem (by rw [HL.out.size]; omega)⟩
              have hrg := gam_range hr ha
              have HRG := Lib.hid (show wr.rangeAt b (o + q * 8) (encGA a) from fun q' u hj => cell_later HT.out.a.bel (hrg q' u hj))
              have HNX := Lib.hid (runN_next (T := newG 1 0 M) ha)
              have PD := gdo HT.out.c.at_ a ((HOK.out a (List.mem_of_getElem? ha)).below HT.out.a.bel)
              have HT2 := Lib.hid HT.out
              clear hr ha hrg HT 
              obtain ⟨rd, p, f, oe, op, xxa, xxn, xxc, ct, kn, kp⟩ := a
              unfold encGA at PD
              simp only at PD
              go_wp2_with (first | (refine load_gam rfl (.tmp 87) rfl b (o + q * 8) ⟨rd, p, ⟨f, oe, op, xxa, xxn, xxc, ct, ⟨kn, kp⟩⟩⟩ rfl HRG.out ?_) | fail)
              refine PD.mono ?_
              rintro e w7 ⟨rfl, S', hg, hs, hc⟩
              have T7 := Lib.hid ((HT2.out.swap.act hg hc).swap)
              have HS7 := Lib.hid (show nS S' = runN (newG 1 0 M) (l.take (q + 1)) by rw [HNX.out, hs, HS.out])
              clear PD hg hs hc HT2 HS HNX HRG 
              go_wp2
              go_roundw
              case rel => exact ⟨q + 1, S', by omega, by omega, by go_num, T7.out, HS7.out⟩
              case measure => simp [intOf]; omega
            · obtain rfl : q = j := by omega
              have T12 := Lib.hid HT.out
              have HSS := Lib.hid (show nS Sc = nS Sa by rw [HS.out, HS8.out])
              clear HT HS
              have hdone : doneG Sc = doneG Sa := by rw [← done_nS, HSS.out, done_nS]
              have hwait : waitG Sc = waitG Sa := by rw [← wait_nS, HSS.out, wait_nS]
              have hexx : (exL Sc).map stripX = (exL Sa).map stripX := by rw [← ex_nS, HSS.out, ex_nS]
              have HEX := Lib.hid hexx
              have PW := gwaits T12.out.c.at_
              rw [hwait] at PW
              obtain ⟨z2, hz2⟩ : ∃ z2, z2 = waitG Sa := ⟨_, rfl⟩
              rw [← hz2] at PW
              have HZ2 := Lib.hid hz2
              have HDN := Lib.hid hdone
              clear hz2 hwait hexx hdone
              have hzz : ((z2 : Int) == (z2 : Int)) = true := by simp
              go_wp2_with fail
              refine PW.mono ?_
              rintro e w13 ⟨rfl, B13⟩
              have T13 := Lib.hid (T12.out.later B13)
              clear PW B13 T12
              have PW := gwaits T13.out.a.at_
              rw [← HZ2.out] at PW
              go_wp2_with fail
              refine PW.mono ?_
              rintro e w14 ⟨rfl, B14⟩
              have T14 := Lib.hid (T13.out.later B14)
              clear PW B14 T13
              have PD := gdone T14.out.c.at_
              rw [HDN.out] at PD
              obtain ⟨db, hdb⟩ : ∃ db, db = doneG Sa := ⟨_, rfl⟩
              rw [← hdb] at PD
              have HDB := Lib.hid hdb
              clear hdb
              have hdd : (db == db) = true := by cases db <;> rfl
              go_wp2_with fail
              refine PD.mono ?_
              rintro e w15 ⟨rfl, B15⟩
              have T15 := Lib.hid (T14.out.later B15)
              clear PD B15 T14
              have PD := gdone T15.out.a.at_
              rw [← HDB.out] at PD
              go_wp2_with fail
              refine PD.mono ?_
              rintro e w16 ⟨rfl, B16⟩
              have T16 := Lib.hid (T15.out.later B16)
              clear PD B16 T15
              have PX := gexch T16.out.c.at_
              go_wp2_with fail
              refine PX.mono ?_
              rintro e w17 ⟨ya, yn, yc, Y, rfl, hex⟩
              have T17 := Lib.hid (T16.out.later hex.bel)
              have Y17 := Lib.hid (RowX.of hex)
              have HSY := Lib.hid hex.str
              have HLY := Lib.hid hex.len
              clear PX hex T16
              have PX := gexch T17.out.a.at_
              go_wp2_with fail
              refine PX.mono ?_
              rintro e w18 ⟨za, zn, zc, Z, rfl, hex⟩
              have T18 := Lib.hid (T17.out.later hex.bel)
              have Y18 := Y17.out.later hex.bel
              have Z18 := RowX.of hex
              have HEQ := Lib.hid (show Y.map stripX = Z.map stripX by rw [HSY.out, hex.str, HEX.out])
              have hyn : yn ≤ 64 := by
                have h1 := congrArg List.length HSY.out
                rw [List.length_map, List.length_map] at h1
                have h2 := HLY.out
                have h3 : (exL Sc).length ≤ 64 := by
                  unfold exL exN
                  refine Nat.le_trans (List.length_filterMap_le _ _) ?_
                  rw [lst_length]; exact card_le _
                omega
              have PE := rexch ya za yn zn yc zc Y Z w18 Y18.at_ Z18.at_ (fun x hx => (Y18.xs x hx).v) (fun x hx => (Z18.xs x hx).v) (by omega)
              clear PX hex T17 Y17 Y18 Z18
              go_wp2_with fail
              refine PE.mono ?_
              rintro e w19 ⟨bb, rfl, hbb, B19⟩
              have hbt := hbb HEQ.out
              subst hbt
              have T19 := Lib.hid (T18.out.later B19)
              clear PE hbb B19 T18 HEQ hzz hdd
              go_wp2
              go_ret
              exact ⟨rfl, T19.out.a.bel⟩
theorem walk_GatherCopies {w : World} (M : Int) (wM : (Lit.int .u64 M).wf = true) (so : Option Addr) (n c : Nat) (l : List GA) (hl : Lst encGA 8 w so n l ∧ (∀ a ∈ l, a.ok w) ∧ n ≤ 1759218604390) (at' : Int) (wt : (Lit.int .i64 at').wf = true) (hTab : Tab w) :
    Calls Tryd.prog 6 #[.int .u64 M, .slice so n c, .int .i64 at'] w fun e w' => e = .returned (.bool true) ∧ Below w.heap.size w w' := by
  have b1 := Go.bounds_u64 wM
  have b2 := Go.bounds_i64 wt
  obtain ⟨M, rfl⟩ := Int.eq_ofNat_of_zero_le b1.1
  exact copies_core M (by omega) so n c l at' b2.1 b2.2 w hl.1 hl.2.1 hl.2.2 hTab
end Go.Proofs.YtmaiphgmnammgaaDoor
