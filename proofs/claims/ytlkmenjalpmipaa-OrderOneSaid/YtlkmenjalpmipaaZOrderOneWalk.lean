/- The walk of OrderOne. (Written by gen_oone.py.) -/
import Derived.Test.YtlkmenjalpmipaaZOrdOneKit
set_option linter.unusedVariables false
set_option maxRecDepth 100000
set_option linter.unusedSimpArgs false
namespace Go.Proofs.Ytlkmenjalpmipaa
open Go.RowKit Go.Sort Go.Shelf

set_option maxHeartbeats 4000000 in
theorem one_core (ao : Option Addr) (len cap : Nat) (l : List Sn) (so : Option Addr) (slen scap : Nat) (sb : List Nat) (bo : Option Addr) (blen bcap : Nat) (bs : List Nat) (ro : Option Addr) (rlen rcap : Nat) (rs : List Nat) (w : World) (hl : Lst encS 4 w ao len l) (hok : ∀ x ∈ l, x.ok) (hs : InO w so slen sb) (hb : InO w bo blen bs) (hr : InO w ro rlen rs) :
    Calls Try.prog 4 #[.slice ao len cap, .slice so slen scap, .slice bo blen bcap, .slice ro rlen rcap] w fun e w' => e = .returned (.bool true) ∧ Below w.heap.size w w' := by
  have PA := oawake w
  have HL := Lib.hid hl
  have HOK := Lib.hid hok
  have HSB := Lib.hid hs
  have HBB := Lib.hid hb
  have HRB := Lib.hid hr
  clear hl hok hs hb hr
  go_enter Try.func4, Try.ntmps4
  go_wp2_with fail
  with_reducible refine PA.mono ?_
  rintro e w1 ⟨rfl, B1⟩
  have HB1 := Lib.hid B1
  clear PA B1
  by_cases h30 : 30 < len
  · have hz : (30 : Int) < (len : Int) := by omega
    go_wp2
    go_ret
    exact ⟨rfl, HB1.out⟩
  have hz : ¬ (30 : Int) < (len : Int) := by omega
  by_cases h100 : 100 < blen
  · have hz2 : (100 : Int) < (blen : Int) := by omega
    go_wp2
    go_ret
    exact ⟨rfl, HB1.out⟩
  have hz2 : ¬ (100 : Int) < (blen : Int) := by omega
  by_cases h101 : 100 < rlen
  · have hz3 : (100 : Int) < (rlen : Int) := by omega
    go_wp2
    go_ret
    exact ⟨rfl, HB1.out⟩
  have hz3 : ¬ (100 : Int) < (rlen : Int) := by omega
  go_wp2_with fail
  clear hz hz2 hz3
  go_loopw [9] (fun si wr => ∃ i : Nat, i ≤ len ∧ si = .int .i64 i ∧ wr = w1) (fun si _ => len - (intOf si).toNat)
  case atStart => exact ⟨0, Nat.zero_le _, rfl, rfl⟩
  case round =>
    obtain ⟨i, hi, rfl, rfl⟩ := hrel
    by_cases hlt : i < len
    · obtain ⟨b, o, x, rfl, hx, hc⟩ := lst_at HL.out hlt
      have c3 := cell_later HB1.out (hc 3 _ rfl)
      clear hc hx
      obtain ⟨frm, later, svc, pay⟩ := x
      simp only at c3
      by_cases h5 : (500 : Int) < (pay.size : Int)
      · go_wp2
        go_ret
        exact ⟨rfl, HB1.out⟩
      · go_wp2_with fail
        go_roundw
        case rel => exact ⟨i + 1, by omega, by go_num, trivial⟩
        case measure => simp [intOf]; omega
    · have PS := ostamped ao len cap l so slen scap sb wr (Lst.below HL.out HB1.out) (HSB.out.below HB1.out) (by omega) HOK.out
      go_wp2_with fail
      with_reducible refine PS.mono ?_
      rintro e w2 hs
      obtain ⟨ya, yc, A, clk, cnt, rfl, hown, hst, hB2⟩ := hs
      obtain ⟨Z, hZ⟩ := srt_is A
      have hA := hst.hon (by omega)
      have HLA := Lib.hid (own_lst' encG_length hst.len hown)
      have HB2 := Lib.hid (HB1.out.trans (hB2.mono HB1.out.size))
      have HA := Lib.hid hA
      have HD := Lib.hid hst.dep
      have HP := Lib.hid hst.s0
      have HZ := Lib.hid hZ
      have PF := ofed ya len yc A Z 4 bo blen bcap bs false w2 HLA.out (HBB.out.below HB2.out) (by omega) (by omega) HA.out HD.out HP.out HZ.out (by decide) (by decide)
      rw [show ((4 : Nat) : Int) = 4 from rfl] at PF
      clear PS hown hst hB2 hZ hA HB1
      go_wp2_with fail
      with_reducible refine PF.mono ?_
      rintro e w3 hs
      obtain ⟨xa, xn, xc, X, E, k, rfl, hrow, hXk, -, hB3⟩ := hs
      have HX := Lib.hid (And.intro hrow.rw (And.intro hXk hrow.len))
      have HB3 := Lib.hid (HB2.out.trans (hB3.mono HB2.out.size))
      replace HLA := Lib.hid (Lst.below HLA.out hB3)
      have PG := ofed ya len yc A Z 5 ro rlen rcap rs false w3 HLA.out (HRB.out.below HB3.out) (by omega) (by omega) HA.out HD.out HP.out HZ.out (by decide) (by decide)
      rw [show ((5 : Nat) : Int) = 5 from rfl] at PG
      clear PF hrow hXk hB3 HB2
      go_wp2_with fail
      with_reducible refine PG.mono ?_
      rintro e w4 hs
      obtain ⟨ya2, yn, yc2, Y, E2, k2, rfl, hrow, hYk, -, hB4⟩ := hs
      have HY := Lib.hid (And.intro hrow.rw (And.intro hYk hrow.len))
      replace HX := Lib.hid (And.intro (HX.out.1.below hB4) HX.out.2)
      have HB4 := Lib.hid (HB3.out.trans (hB4.mono HB3.out.size))
      replace HLA := Lib.hid (Lst.below HLA.out hB4)
      obtain ⟨m, hm⟩ : ∃ m : Nat, min (xn : Int) (yn : Int) = (m : Int) := ⟨min xn yn, by omega⟩
      clear PG hrow hYk hB4 HB3
      go_upto_region 13 with fail
      have hm1 : m ≤ xn := by omega
      have hm2 : m ≤ yn := by omega
      have hmx : m ≤ xc := Nat.le_trans hm1 HX.out.1.cap
      have hmy : m ≤ yc2 := Nat.le_trans hm2 HY.out.1.cap
      have hxl : m ≤ 1048576 := by
        have h1 := congrArg List.length HX.out.2.1
        rw [List.length_map, List.length_take, HZ.out.fil.length, HX.out.2.2] at h1
        have := HA.out.few
        omega
      have B5 := (Grw.refl w4).drew.below
      have PALL := all_rows14 (sc := xc) (tc := yc2) (lst_take14 (HX.out.1.below B5).lst hm1) (lst_take14 (HY.out.1.below B5).lst hm2) (fun x hx => (HX.out.1.below B5).dps x (List.mem_of_mem_take hx)) (fun y hy => ((HY.out.1.below B5).dps y (List.mem_of_mem_take hy)).1) (begun HX.out.2.1 HY.out.2.1 (by rw [HX.out.2.2]; exact hm1) (by rw [HY.out.2.2]; exact hm2)) hxl
      have HB5 := Lib.hid B5
      clear B5
      refine wp_region_held_drew (S := fun _ => True) (by kernel_rfl) trivial (fun hHeld => ?_)
      generalize w4.drew = w5 at *
      refine stake (i := 0) (v := (.slice xa xn xc)) 58 rfl (by kernel_rfl) (by kernel_rfl) (by kernel_rfl) (by kernel_rfl) (fun _ _ _ h => h) (.inl ⟨by kernel_rfl, fun w' hS => by (go_simp)⟩) hHeld ?_
      (try simp only [Act.put, List.setIfInBounds_toArray, List.set_cons_zero, List.set_cons_succ])
      refine stake (i := 1) (v := (.int .i64 (m : Int))) 59 rfl (by kernel_rfl) (by kernel_rfl) (by kernel_rfl) (by kernel_rfl) (fun _ _ _ h => h) (.inl ⟨by kernel_rfl, fun w' hS => by (go_simp)⟩) hHeld ?_
      (try simp only [Act.put, List.setIfInBounds_toArray, List.set_cons_zero, List.set_cons_succ])
      refine stake (i := 2) (v := (.slice xa m xc)) 60 rfl (by kernel_rfl) (by kernel_rfl) (by kernel_rfl) (by kernel_rfl) (fun _ _ _ h => h) (yields_cut (by kernel_rfl) (.tmp 58) (.tmp 59) rfl xa xn xc m (by kernel_rfl) (by kernel_rfl) hmx) hHeld ?_
      (try simp only [Act.put, List.setIfInBounds_toArray, List.set_cons_zero, List.set_cons_succ])
      refine stake (i := 3) (v := (.slice ya2 yn yc2)) 61 rfl (by kernel_rfl) (by kernel_rfl) (by kernel_rfl) (by kernel_rfl) (fun _ _ _ h => h) (.inl ⟨by kernel_rfl, fun w' hS => by (go_simp)⟩) hHeld ?_
      (try simp only [Act.put, List.setIfInBounds_toArray, List.set_cons_zero, List.set_cons_succ])
      refine stake (i := 4) (v := (.int .i64 (m : Int))) 62 rfl (by kernel_rfl) (by kernel_rfl) (by kernel_rfl) (by kernel_rfl) (fun _ _ _ h => h) (.inl ⟨by kernel_rfl, fun w' hS => by (go_simp)⟩) hHeld ?_
      (try simp only [Act.put, List.setIfInBounds_toArray, List.set_cons_zero, List.set_cons_succ])
      refine stake (i := 5) (v := (.slice ya2 m yc2)) 63 rfl (by kernel_rfl) (by kernel_rfl) (by kernel_rfl) (by kernel_rfl) (fun _ _ _ h => h) (yields_cut (by kernel_rfl) (.tmp 61) (.tmp 62) rfl ya2 yn yc2 m (by kernel_rfl) (by kernel_rfl) hmy) hHeld ?_
      (try simp only [Act.put, List.setIfInBounds_toArray, List.set_cons_zero, List.set_cons_succ])
      refine wpAnyH_ready (rs := [6]) (by kernel_rfl) (by simp) (AllReadyH.cons rfl (fun K hK => ?_) AllReadyH.nil)
      clear hHeld
      rw [if_pos (by kernel_rfl)]
      go_simp
      refine PALL.mono ?_
      rintro e w6 ⟨rfl, hG6⟩
      have HB6 := Lib.hid (HB4.out.trans ((HB5.out.trans (hG6.below.mono HB5.out.size)).mono HB4.out.size))
      have HLA6 := Lib.hid (Lst.below (Lst.below HLA.out HB5.out) hG6.below)
      clear PALL hG6 HB5 HB4 HLA HX HY hm1 hm2 hmx hmy hxl hm
      refine hK.out _ _ trivial (fun hHeld => ?_)
      clear hK K
      (try simp only [Act.put, List.setIfInBounds_toArray, List.set_cons_zero, List.set_cons_succ])
      refine stake (i := 7) (v := (.bool false)) 65 rfl (by kernel_rfl) (by kernel_rfl) (by kernel_rfl) (by kernel_rfl) (fun _ _ _ h => h) (.inl ⟨by kernel_rfl, fun w' hS => by (go_simp)⟩) hHeld ?_
      (try simp only [Act.put, List.setIfInBounds_toArray, List.set_cons_zero, List.set_cons_succ])
      refine wpAnyH_done (by kernel_rfl) ?_ _
      clear hHeld
      have PU := ofed ya len yc A Z 4 bo blen bcap bs true w6 HLA6.out (HBB.out.below HB6.out) (by omega) (by omega) HA.out HD.out HP.out HZ.out (by decide) (by decide)
      rw [show ((4 : Nat) : Int) = 4 from rfl] at PU
      go_wp2_with fail
      with_reducible refine PU.mono ?_
      rintro e w7 hs
      obtain ⟨ua, un, uc, U, E, k, rfl, hrow, -, hU, hB7⟩ := hs
      have hU := hU rfl
      have HU := Lib.hid (And.intro hrow.rw (And.intro hU hrow.len))
      have HB7 := Lib.hid (HB6.out.trans (hB7.mono HB6.out.size))
      have HLA7 := Lib.hid (Lst.below HLA6.out hB7)
      have PV := ofed ya len yc A Z 5 ro rlen rcap rs true w7 HLA7.out (HRB.out.below HB7.out) (by omega) (by omega) HA.out HD.out HP.out HZ.out (by decide) (by decide)
      rw [show ((5 : Nat) : Int) = 5 from rfl] at PV
      clear PU hrow hU hB7 HB6 HLA6
      go_wp2_with fail
      with_reducible refine PV.mono ?_
      rintro e w8 hs
      obtain ⟨va, vn, vc, V, E2, k2, rfl, hrow, -, hV, hB8⟩ := hs
      have hV := hV rfl
      have HV := Lib.hid (And.intro hrow.rw (And.intro hV hrow.len))
      replace HU := Lib.hid (And.intro (HU.out.1.below hB8) HU.out.2)
      have HB8 := Lib.hid (HB7.out.trans (hB8.mono HB7.out.size))
      have HLA8 := Lib.hid (Lst.below HLA7.out hB8)
      have PO := refSort_any ya len yc A w8 HLA8.out (by omega)
      clear PV hrow hV hB8 HB7 HLA7
      go_wp2_with fail
      with_reducible refine PO.mono ?_
      rintro e w9 hs
      obtain ⟨oa, oc, M, rfl, -, hMs, hMl, hB9⟩ := hs
      obtain rfl : M = Z := hMs.one HZ.out
      have hul : un ≤ 1048576 := by
        have h1 := congrArg List.length HU.out.2.1
        rw [List.length_map, HZ.out.fil.length, HU.out.2.2] at h1
        have := HA.out.few
        omega
      have hvl : vn ≤ 1048576 := by
        have h1 := congrArg List.length HV.out.2.1
        rw [List.length_map, HZ.out.fil.length, HV.out.2.2] at h1
        have := HA.out.few
        omega
      have P1 := all_rows14 (sc := uc) (tc := oc) (HU.out.1.below hB9).lst hMl (HU.out.1.below hB9).dps (fun y hy => dpIn_nil _ _ (HD.out y ((HZ.out.fil.mem y).1 hy))) (HU.out.2.1.trans (self_map HA.out HZ.out).symm) hul
      have HU9 := Lib.hid (HU.out.1.below hB9)
      have HV9 := Lib.hid (HV.out.1.below hB9)
      have HE := Lib.hid (HV.out.2.1.trans HU.out.2.1.symm)
      have HB9 := Lib.hid (HB8.out.trans (hB9.mono HB8.out.size))
      clear PO hMs hMl hB9 HB8 HLA8 HU HV hul
      go_wp2_with fail
      with_reducible refine P1.mono ?_
      rintro e w10 ⟨rfl, hG⟩
      have P2 := all_rows14 (sc := vc) (tc := uc) (HV9.out.below hG.below).lst (HU9.out.below hG.below).lst (HV9.out.below hG.below).dps (fun y hy => ((HU9.out.below hG.below).dps y hy).1) HE.out hvl
      have HB10 := Lib.hid (HB9.out.trans (hG.below.mono HB9.out.size))
      clear P1 hG HB9
      go_wp2_with fail
      with_reducible refine P2.mono ?_
      rintro e w11 ⟨rfl, hG⟩
      have HB11 := Lib.hid (HB10.out.trans (hG.below.mono HB10.out.size))
      clear P2 hG HB10
      go_wp2
      go_ret
      exact ⟨rfl, HB11.out⟩
theorem walk_OrderOne {w : World} (ao : Option Addr) (len cap : Nat) (l : List Sn) (hl : Lst encS 4 w ao len l ∧ ∀ m ∈ l, m.ok) (so : Option Addr) (slen scap : Nat) (sb : List Nat) (hs : InO w so slen sb) (bo : Option Addr) (blen bcap : Nat) (bs : List Nat) (hb : InO w bo blen bs) (ro : Option Addr) (rlen rcap : Nat) (rs : List Nat) (hr : InO w ro rlen rs) :
    Calls Try.prog 4 #[.slice ao len cap, .slice so slen scap, .slice bo blen bcap, .slice ro rlen rcap] w fun e w' => e = .returned (.bool true) ∧ Below w.heap.size w w' :=
  one_core ao len cap l so slen scap sb bo blen bcap bs ro rlen rcap rs w hl.1 hl.2 hs hb hr
end Go.Proofs.Ytlkmenjalpmipaa
