/- The walk of PlanFits. (Written by gen_plfits.py.) -/
import Derived.Test.YtfocjcdfpnbkjaaPlHas
import Derived.Test.YtfocjcdfpnbkjaaSAll
import Derived.Test.YtfocjcdfpnbkjaaSetFns
import Derived.Deep.DeepCutAuto
import Derived.BigQuiet
set_option linter.unusedVariables false
set_option maxRecDepth 100000
set_option linter.unusedSimpArgs false
namespace Go.Proofs.Ytfocjcdfpnbkjaa
open Go.RowKit Go.Sort Go.Shelf Go.Maps

/-- Does m lean on x, or on its sender's? -/
def leansB (m x : Mg) : Bool := (decide (x.f = m.f) && decide (x.q ≤ m.q)) || ((decide (0 ≤ x.f) && decide (x.f < (m.dl : Int))) && decide (x.q ≤ depAt m x.f))
theorem leans_kept {f : Nat → Wh} {R : List Mg} {m x : Mg} (hm : m ∈ keepL f R) (hx : x ∈ R) (h : leansB m x = true) (h0 : 0 < x.q) (h1 : x.q ≤ wholeP f x.f) (hf : WhOk f) : x ∈ keepL f R := by
  obtain ⟨hm1, hm2, hm3⟩ := keep_mem.1 hm
  have hc : countsP f x := by
    unfold wholeP at h1
    split at h1
    · exact ⟨by omega, by omega, by omega, h1⟩
    · omega
  refine keep_mem.2 ⟨hx, hc, fun hg => hm3 ?_⟩
  unfold leansB at h
  simp only [Bool.or_eq_true, Bool.and_eq_true, decide_eq_true_eq] at h
  rcases h with h | h
  · exact .same m x hm1 hm2 hg h.1 h.2
  · exact .lean m x hm1 hm2 hg h.2
/-- What is kept counts, and leans on nothing beyond what is there. -/
theorem kept_fits {f : Nat → Wh} {R : List Mg} {m : Mg} (hm : m ∈ keepL f R) (hf : WhOk f) : 1 ≤ m.q ∧ m.q ≤ wholeP f m.f ∧ ∀ (q : Nat) (d : Int), m.deps[q]? = some d → d ≤ wholeP f (q : Int) := by
  obtain ⟨hm1, ⟨c0, c1, c2, c3⟩, hm3⟩ := keep_mem.1 hm
  refine ⟨c2, by unfold wholeP; rw [if_pos ⟨c0, c1⟩]; exact c3, fun q d hd => ?_⟩
  by_cases h : d ≤ wholeP f (q : Int)
  · exact h
  · exfalso
    unfold wholeP at h
    refine hm3 (.deps m hm1 ⟨c0, c1, c2, c3⟩ q d hd ?_)
    by_cases h64 : q < 64
    · rw [if_pos (by omega), Int.toNat_natCast] at h
      exact .inr ⟨h64, by omega⟩
    · rw [if_neg (by omega)] at h
      exact .inl ⟨by omega, by omega⟩
theorem kept_of {f : Nat → Wh} {R X : List Mg} (h : X.map strip = (keepL f R).map strip) {y : Mg} (hy : y ∈ X) : ∃ m ∈ keepL f R, strip y = strip m := by
  have : strip y ∈ X.map strip := List.mem_map_of_mem hy
  rw [h] at this
  obtain ⟨m, hm, e⟩ := List.mem_map.1 this
  exact ⟨m, hm, e.symm⟩
theorem kept_to {f : Nat → Wh} {R X : List Mg} (h : X.map strip = (keepL f R).map strip) {m : Mg} (hm : m ∈ keepL f R) : ∃ y ∈ X, sameG y m = true := by
  have : strip m ∈ (keepL f R).map strip := List.mem_map_of_mem hm
  rw [← h] at this
  obtain ⟨y, hy, e⟩ := List.mem_map.1 this
  exact ⟨y, hy, strip_same e⟩
theorem strip_dp {x y : Mg} (h : strip x = strip y) : x.f = y.f ∧ x.q = y.q ∧ x.dl = y.dl ∧ x.deps = y.deps := ⟨strip_f h, strip_q h, by have := congrArg Mg.dl h; exact this, by have := congrArg Mg.deps h; exact this⟩
theorem leans_strip {x y z : Mg} (h : strip x = strip y) : leansB x z = leansB y z := by
  obtain ⟨h1, h2, h3, h4⟩ := strip_dp h
  unfold leansB depAt
  rw [h1, h2, h3, h4]
set_option maxHeartbeats 8000000 in
theorem fits_core (me : Int) (m0 : -9223372036854775808 ≤ me) (m1 : me ≤ 9223372036854775807) (ao : Option Addr) (n c : Nat) (l : List Xg) (ro : Option Addr) (rn rc : Nat) (R : List Mg) (w : World) (hl : XgL w ao n l) (hr : Lst encG 6 w ro rn R) (hd : ∀ m ∈ R, DpIn w m ∧ DepsOk m.deps ∧ -9223372036854775808 ≤ m.f ∧ m.f ≤ 9223372036854775807 ∧ 0 ≤ m.q ∧ m.q < 4294967296) :
    Calls Try.prog 11 #[.int .i64 me, .slice ao n c, .slice ro rn rc] w fun e w' => e = .returned (.bool true) ∧ Below w.heap.size w w' := by
  have PA := pawake w
  have HL := Lib.hid hl
  have HR := Lib.hid hr
  have HD := Lib.hid hd
  clear hl hr hd
  go_enter Try.func11, Try.ntmps11
  go_wp2_with fail
  refine PA.mono ?_
  rintro e w1 ⟨rfl, B1⟩
  have PF := pfew (HL.out.below B1) c
  have HB1 := Lib.hid B1
  clear PA B1
  go_wp2_with fail
  refine PF.mono ?_
  rintro e w1' ⟨h2, rfl⟩
  clear PF
  rcases h2 with rfl | ⟨rfl, hn⟩
  · go_wp2
    go_ret
    exact ⟨rfl, HB1.out⟩
  have PG := fewG_any ro rn rc R w1 (HR.out.below HB1.out)
  go_wp2_with fail
  refine PG.mono ?_
  rintro e w2 ⟨h2, B2⟩
  have HB2 := Lib.hid (HB1.out.trans (B2.mono HB1.out.size))
  clear PG B2 HB1
  rcases h2 with rfl | ⟨rfl, hrn, hdl⟩
  · go_wp2
    go_ret
    exact ⟨rfl, HB2.out⟩
  have HDL := Lib.hid hdl
  clear hdl
  cases h60 : decide ((60 : Int) < (rn : Int)) with
  | true =>
    go_wp2
    go_ret
    exact ⟨rfl, HB2.out⟩
  | false =>
  have h60' := of_decide_eq_false h60
  have PN := pnew (HL.out.below HB2.out) c (by omega) me m0 m1
  go_wp2_with fail
  refine PN.mono ?_
  rintro e w3 hs
  clear PN
  cases hs with
  | no _ hn1 hb1 =>
    have HB3 := Lib.hid (HB2.out.trans (hb1.mono HB2.out.size))
    clear hn1 hb1
    go_wp2
    go_ret
    exact ⟨rfl, HB3.out⟩
  | yes g y _ hy hp hg hb1 =>
    have HB3 := Lib.hid (HB2.out.trans (hb1.mono HB2.out.size))
    have HOK := Lib.hid (plan_ok HL.out hy)
    have HP3 := Lib.hid hp
    clear hy hp hg hb1 HB2
    generalize planL (compL y l) = PP at *
    have PK := pkeep HP3.out HOK.out ro rn rc R (HR.out.below HB3.out) (fun m hm => (MgN.of (HD.out m hm) (by have := HDL.out m hm; omega)).below HB3.out) (by omega)
    go_wp2_with fail
    refine PK.mono ?_
    rintro e w5 ⟨sa, sn, sc, X, rfl, hX1, hX2, hX3, hX4, B5⟩
    have HB5 := Lib.hid (HB3.out.trans (B5.mono HB3.out.size))
    have HP5 := Lib.hid (HP3.out.below B5)
    have HX := Lib.hid (And.intro (own_lst' encG_length hX2 hX1) (And.intro hX3 (And.intro hX4 hX2)))
    have hsn : sn ≤ rn := by
      have h1 := congrArg List.length hX4
      rw [List.length_map, List.length_map] at h1
      have h2 := keep_len (f := PP.f) (R := R)
      have h3 := HR.out.size
      omega
    have hgt : decide ((rn : Int) < (sn : Int)) = false := decide_eq_false (by omega)
    have hgt2 : decide (rn < sn) = false := decide_eq_false (by omega)
    clear PK B5 HP3 HB3 hX1 hX2 hX3 hX4
    have HXK := Lib.hid (fun (y : Mg) (hy : y ∈ X) => kept_of HX.out.2.2.1 hy)
    have HSN := Lib.hid hsn
    go_wp2
    clear hgt hgt2 hsn
    go_loopw [10] (fun si wr => ∃ i : Nat, i ≤ sn ∧ si = .int .i64 i ∧ Aside (Below w5.heap.size w5 wr)) (fun si _ => sn - (intOf si).toNat)
    case atStart => exact ⟨0, Nat.zero_le _, rfl, Below.refl _ _⟩
    case round =>
      obtain ⟨i, hi, rfl, HB⟩ := hrel
      have hsn2 := HSN.out
      by_cases hlt : i < sn
      · obtain ⟨b, o, rfl, hr⟩ := HX.out.1.src (by omega)
        have hlt' : i < X.length := by rw [HX.out.2.2.2]; exact hlt
        obtain ⟨m, hm⟩ : ∃ m, X[i]? = some m := ⟨_, List.getElem?_eq_getElem hlt'⟩
        have hmX := List.mem_of_getElem? hm
        obtain ⟨m0, hm0, hst⟩ := HXK.out m hmX
        obtain ⟨s1, s2, s3, s4⟩ := strip_dp hst
        have hfit := kept_fits hm0 HOK.out
        rw [← s1, ← s2, ← s4] at hfit
        obtain ⟨q1, q2, q3⟩ := hfit
        have hc0 := (keep_mem.1 hm0).2.1
        unfold countsP at hc0
        rw [← s1, ← s2] at hc0
        obtain ⟨f0, f1, c2', c3'⟩ := hc0
        clear c2' c3'
        have hR := (HD.out m0 (keep_mem.1 hm0).1)
        rw [← s2, ← s4] at hR
        have HDK := Lib.hid (And.intro hR.2.1 (And.intro q3 (show m.dl ≤ 20000 by rw [s3]; exact HDL.out m0 (keep_mem.1 hm0).1)))
        have hqb := hR.2.2.2.2
        have HKX := Lib.hid (fun (x : Mg) (hx : x ∈ R) (h : leansB m x = true) (h0 : 0 < x.q) (h1 : x.q ≤ wholeP PP.f x.f) => kept_to HX.out.2.2.1 (leans_kept hm0 hx (by rw [← leans_strip hst]; exact h) h0 h1 HOK.out))
        have HRM := Lib.hid (show wr.rangeAt b (o + i * 6) (encG m) from fun j u hj => cell_later HB.out (hr i m hm j u hj))
        have HDM := Lib.hid (((HX.out.2.1 m hmX).below HB.out).deps)
        have B6 := ((Grw.refl wr).alloc (.cells (encG m).toArray 47)).below
        have M6 := Lib.hid (MgB.new wr m)
        have HB6 := Lib.hid (HB.out.trans (B6.mono HB.out.size))
        have HDM6 := Lib.hid (HDM.out.below B6)
        clear hr hlt' hm hmX hm0 hst s1 s2 s3 s4 hR B6 HDM HB q3
        obtain ⟨f, q, s, v, a, dl, dc, deps, text⟩ := m
        unfold encG at HB6 HRM HDM6
        simp only at q1 q2 f0 f1 hqb HDK HB6 HRM HDM6 M6
        go_upto_region 15 with (first | (refine load_mgm rfl (.tmp 59) rfl b (o + i * 6) ⟨f, q, s, v, a, dl, dc, deps, text⟩ rfl HRM.out ?_) | fail)
        generalize wr.alloc (.cells #[.int .i64 f, .int .u32 q, .int .u64 s, .int .i64 v, .slice a dl dc, .string text] 47) = w6 at *
        generalize wr.heap.size = mb at *
        clear HRM
        have c0 : w6.cell? ⟨mb, 0, none⟩ = some (.int .i64 f) := M6.out.own.at_ 0 _ rfl
        have c1 : w6.cell? ⟨mb, 1, none⟩ = some (.int .u32 q) := M6.out.own.at_ 1 _ rfl
        have PW := fun n' => pwhole ((HP5.out.below HB6.out).below ((Grw.refl w6).drewN n').below) f (by omega) (by omega)
        have hd1 : decide (q < 1) = false := decide_eq_false (by omega)
        obtain ⟨u, hu⟩ : ∃ u, u = wholeP PP.f f := ⟨_, rfl⟩
        rw [← hu] at PW q2
        have hd2 : decide (u < q) = false := decide_eq_false (by omega)
        clear hu
        go_quiet ((go_at_call 46; exact Calls.quiet_of_same ((PW _).mono fun _ _ ⟨he, hw⟩ => ⟨he, hw.symm⟩)))
        have D7 := ((Grw.refl w6).drewN nq).below
        have M7 := Lib.hid (M6.out.later D7)
        have HB7 := Lib.hid (HB6.out.trans (D7.mono HB6.out.size))
        have HDM7 := Lib.hid (HDM6.out.below D7)
        clear D7 M6 HB6 HDM6 c0 c1 PW hd1 hd2 q2
        generalize w6.drewN nq = w7 at *
        have c4 : w7.cell? ⟨mb, 4, none⟩ = some (.slice a dl dc) := M7.out.own.at_ 4 _ rfl
        go_wp2
        go_loopw [12] (fun si wr => ∃ k : Nat, k ≤ dl ∧ si = .int .i64 k ∧ Aside (Below w7.heap.size w7 wr)) (fun si _ => dl - (intOf si).toNat)
        case atStart => exact ⟨0, Nat.zero_le _, rfl, Below.refl _ _⟩
        case round =>
          obtain ⟨k, hk, rfl, HK⟩ := hrel
          have hdl := HDK.out.2.2
          have c4' : wr.cell? ⟨mb, 4, none⟩ = some (.slice a dl dc) := cell_later HK.out c4
          by_cases hlt2 : k < dl
          · obtain ⟨bd, od, rfl, hrd⟩ := HDM7.out.src (show 0 < dl by omega)
            have hkd : k < deps.length := by have := HDM7.out.size; simp only at this; omega
            obtain ⟨z, hz⟩ : ∃ z, deps[k]? = some z := ⟨_, List.getElem?_eq_getElem hkd⟩
            have e0 : wr.cell? ⟨bd, od + k, none⟩ = some (.int .u32 z) := by
              have := cell_later HK.out (hrd k z hz 0 _ rfl)
              simpa using this
            have hzb := HDK.out.1 z (List.mem_of_getElem? hz)
            have hzw := HDK.out.2.1 k z hz
            have PW := fun n' => pwhole (((HP5.out.below HB7.out).below HK.out).below ((Grw.refl wr).drewN n').below) (k : Int) (by omega) (by omega)
            obtain ⟨u, hu⟩ : ∃ u, u = wholeP PP.f (k : Int) := ⟨_, rfl⟩
            rw [← hu] at PW hzw
            have hd2 : decide (u < z) = false := decide_eq_false (by omega)
            clear hu hrd hkd hz hzw
            go_upto_region 20 with fail
            go_quiet ((go_at_call 46; exact Calls.quiet_of_same ((PW _).mono fun _ _ ⟨he, hw⟩ => ⟨he, hw.symm⟩)))
            have HK2 := Lib.hid (HK.out.trans (((Grw.refl wr).drewN nq).below.mono HK.out.size))
            clear HK PW e0 hd2 c4'
            go_wp2
            go_roundw
            case rel => exact ⟨k + 1, by omega, by go_num, HK2.out⟩
            case measure => simp [intOf]; omega
          · obtain rfl : k = dl := by omega
            have HB8 := Lib.hid (HB7.out.trans (HK.out.mono HB7.out.size))
            have M8 := Lib.hid (M7.out.later HK.out)
            have HDM8 := Lib.hid (HDM7.out.below HK.out)
            go_wp2
            clear HK HB7 M7 HDM7 c4 c4'
            obtain ⟨w8, hw8⟩ : ∃ w8, w8 = wr := ⟨_, rfl⟩
            subst hw8
            go_loopw [13] (fun si wr => ∃ j : Nat, j ≤ rn ∧ si = .int .i64 j ∧ Aside (Below w8.heap.size w8 wr)) (fun si _ => rn - (intOf si).toNat)
            case atStart => exact ⟨0, Nat.zero_le _, rfl, Below.refl _ _⟩
            case round =>
              obtain ⟨j, hj, rfl, HJ⟩ := hrel
              by_cases hlt3 : j < rn
              · obtain ⟨bx, ox, rfl, hrx⟩ := HR.out.src (show 0 < rn by omega)
                have hjl : j < R.length := by rw [HR.out.size]; exact hlt3
                obtain ⟨x, hx⟩ : ∃ x, R[j]? = some x := ⟨_, List.getElem?_eq_getElem hjl⟩
                have hxR := List.mem_of_getElem? hx
                have hxd := HD.out x hxR
                have HWJ := Lib.hid (HB5.out.trans ((HB8.out.trans (HJ.out.mono HB8.out.size)).mono HB5.out.size))
                have HRX := Lib.hid (show wr.rangeAt bx (ox + j * 6) (encG x) from fun i' u' hj' => cell_later HWJ.out (hrx j x hx i' u' hj'))
                have HKY := Lib.hid (HKX.out x hxR)
                have B9 := ((Grw.refl wr).alloc (.cells (encG x).toArray 47)).below
                have X9 := Lib.hid (MgB.new wr x)
                have HJ9 := Lib.hid (HJ.out.trans (B9.mono HJ.out.size))
                have M9 := Lib.hid (M8.out.later HJ9.out)
                have HDX9 := Lib.hid ((hxd.1.below HWJ.out).below B9)
                have HXD := Lib.hid hxd
                clear hrx hjl hx hxR hxd B9 HJ
                obtain ⟨xf, xq, xs, xv, xa, xl, xc, xd, xt⟩ := x
                unfold encG at HJ9 HRX HDX9 M9
                simp only at HJ9 HRX HDX9 X9 HKY HXD M9
                have hxb := HXD.out.2.2
                obtain ⟨x0, x1, x2, x3⟩ := hxb
                go_upto_region 26 with (first | (refine load_mgm rfl (.tmp 97) rfl bx (ox + j * 6) ⟨xf, xq, xs, xv, xa, xl, xc, xd, xt⟩ rfl HRX.out ?_) | fail)
                generalize wr.alloc (.cells #[.int .i64 xf, .int .u32 xq, .int .u64 xs, .int .i64 xv, .slice xa xl xc, .string xt] 47) = w9 at *
                generalize wr.heap.size = xb at *
                clear HRX HWJ
                have c0 : w9.cell? ⟨mb, 0, none⟩ = some (.int .i64 f) := M9.out.own.at_ 0 _ rfl
                have c1 : w9.cell? ⟨mb, 1, none⟩ = some (.int .u32 q) := M9.out.own.at_ 1 _ rfl
                have c4 : w9.cell? ⟨mb, 4, none⟩ = some (.slice a k dc) := M9.out.own.at_ 4 _ rfl
                have y0 : w9.cell? ⟨xb, 0, none⟩ = some (.int .i64 xf) := X9.out.own.at_ 0 _ rfl
                have y1 : w9.cell? ⟨xb, 1, none⟩ = some (.int .u32 xq) := X9.out.own.at_ 1 _ rfl
                obtain ⟨lb, hlb⟩ : ∃ lb, lb = leansB ⟨f, q, s, v, a, k, dc, deps, text⟩ ⟨xf, xq, xs, xv, xa, xl, xc, xd, xt⟩ := ⟨_, rfl⟩
                rw [← hlb] at HKY
                have HLB := Lib.hid hlb
                clear hlb
                go_cut [15] from 99 to 134 (fun s15 wx => s15 = .bool lb ∧ Below w9.heap.size w9 wx)
                case first =>
                  clear HKX HKY HXK HX HR HL
                  have HDD := Lib.hid (HDM8.out.below HJ9.out)
                  cases t1 : (xf == f) with
                  | false =>
                    have t1' : decide (xf = f) = false := decide_eq_false (by simpa using t1)
                    cases t3 : decide (0 ≤ xf) with
                    | false =>
                      have HV := Lib.hid (show leansB ⟨f, q, s, v, a, k, dc, deps, text⟩ ⟨xf, xq, xs, xv, xa, xl, xc, xd, xt⟩ = false by unfold leansB; simp only [t1', t3, Bool.false_and, Bool.or_false, Bool.and_false, Bool.true_and, Bool.and_true])
                      rw [HV.out] at HLB
                      go_quiet (fail)
                      have HB := Lib.hid ((Grw.refl w9).drewN nq).below
                      go_wp2_with fail
                      go_meet
                      exact ⟨by rw [HLB.out], HB.out⟩
                    | true =>
                      cases t4 : decide (xf < (k : Int)) with
                      | false =>
                        have HV := Lib.hid (show leansB ⟨f, q, s, v, a, k, dc, deps, text⟩ ⟨xf, xq, xs, xv, xa, xl, xc, xd, xt⟩ = false by unfold leansB; simp only [t1', t3, t4, Bool.false_and, Bool.or_false, Bool.and_false, Bool.true_and, Bool.and_true])
                        rw [HV.out] at HLB
                        go_quiet (fail)
                        have HB := Lib.hid ((Grw.refl w9).drewN nq).below
                        go_wp2_with fail
                        go_meet
                        exact ⟨by rw [HLB.out], HB.out⟩
                      | true =>
                        have t4' := of_decide_eq_true t4
                        obtain ⟨p, rfl⟩ := Int.eq_ofNat_of_zero_le (of_decide_eq_true t3)
                        have hpk : p < k := by omega
                        obtain ⟨bd, od, rfl, hrd⟩ := HDD.out.src (show 0 < k by omega)
                        have hkd : p < deps.length := by have := HDD.out.size; simp only at this; omega
                        obtain ⟨z, hz⟩ : ∃ z, deps[p]? = some z := ⟨_, List.getElem?_eq_getElem hkd⟩
                        have e0 : w9.cell? ⟨bd, od + p, none⟩ = some (.int .u32 z) := by
                          have := hrd p z hz 0 _ rfl
                          simpa using this
                        have HDP := Lib.hid (show depAt ⟨f, q, s, v, some ⟨bd, od, none⟩, k, dc, deps, text⟩ (p : Int) = z by
                          unfold depAt
                          rw [if_pos (by omega), Int.toNat_natCast, List.getD_eq_getElem?_getD, hz]; rfl)
                        clear hrd hkd hz
                        cases t5 : decide (xq ≤ z) with
                        | false =>
                          have HV := Lib.hid (show leansB ⟨f, q, s, v, some ⟨bd, od, none⟩, k, dc, deps, text⟩ ⟨(p : Int), xq, xs, xv, xa, xl, xc, xd, xt⟩ = false by unfold leansB; simp only [t1', t3, t4, HDP.out, t5, Bool.false_and, Bool.or_false, Bool.and_false, Bool.true_and, Bool.and_true])
                          rw [HV.out] at HLB
                          go_quiet (fail)
                          have HB := Lib.hid ((Grw.refl w9).drewN nq).below
                          go_wp2_with fail
                          go_meet
                          exact ⟨by rw [HLB.out], HB.out⟩
                        | true =>
                          have HV := Lib.hid (show leansB ⟨f, q, s, v, some ⟨bd, od, none⟩, k, dc, deps, text⟩ ⟨(p : Int), xq, xs, xv, xa, xl, xc, xd, xt⟩ = true by unfold leansB; simp only [t1', t3, t4, HDP.out, t5, Bool.false_and, Bool.or_true, Bool.and_false, Bool.true_and, Bool.and_true, Bool.and_self, Bool.or_self])
                          rw [HV.out] at HLB
                          go_quiet (fail)
                          have HB := Lib.hid ((Grw.refl w9).drewN nq).below
                          go_wp2_with fail
                          go_meet
                          exact ⟨by rw [HLB.out], HB.out⟩
                  | true =>
                    have t1' : decide (xf = f) = true := decide_eq_true (by simpa using t1)
                    cases t2 : decide (xq ≤ q) with
                    | true =>
                      have HV := Lib.hid (show leansB ⟨f, q, s, v, a, k, dc, deps, text⟩ ⟨xf, xq, xs, xv, xa, xl, xc, xd, xt⟩ = true by unfold leansB; simp only [t1', t2, Bool.and_self, Bool.true_or])
                      rw [HV.out] at HLB
                      go_quiet (fail)
                      have HB := Lib.hid ((Grw.refl w9).drewN nq).below
                      go_wp2_with fail
                      go_meet
                      exact ⟨by rw [HLB.out], HB.out⟩
                    | false =>
                      cases t3 : decide (0 ≤ xf) with
                      | false =>
                        have HV := Lib.hid (show leansB ⟨f, q, s, v, a, k, dc, deps, text⟩ ⟨xf, xq, xs, xv, xa, xl, xc, xd, xt⟩ = false by unfold leansB; simp only [t1', t2, t3, Bool.false_and, Bool.or_false, Bool.and_false, Bool.true_and, Bool.and_true])
                        rw [HV.out] at HLB
                        go_quiet (fail)
                        have HB := Lib.hid ((Grw.refl w9).drewN nq).below
                        go_wp2_with fail
                        go_meet
                        exact ⟨by rw [HLB.out], HB.out⟩
                      | true =>
                        cases t4 : decide (xf < (k : Int)) with
                        | false =>
                          have HV := Lib.hid (show leansB ⟨f, q, s, v, a, k, dc, deps, text⟩ ⟨xf, xq, xs, xv, xa, xl, xc, xd, xt⟩ = false by unfold leansB; simp only [t1', t2, t3, t4, Bool.false_and, Bool.or_false, Bool.and_false, Bool.true_and, Bool.and_true])
                          rw [HV.out] at HLB
                          go_quiet (fail)
                          have HB := Lib.hid ((Grw.refl w9).drewN nq).below
                          go_wp2_with fail
                          go_meet
                          exact ⟨by rw [HLB.out], HB.out⟩
                        | true =>
                          have t4' := of_decide_eq_true t4
                          obtain ⟨p, rfl⟩ := Int.eq_ofNat_of_zero_le (of_decide_eq_true t3)
                          have hpk : p < k := by omega
                          obtain ⟨bd, od, rfl, hrd⟩ := HDD.out.src (show 0 < k by omega)
                          have hkd : p < deps.length := by have := HDD.out.size; simp only at this; omega
                          obtain ⟨z, hz⟩ : ∃ z, deps[p]? = some z := ⟨_, List.getElem?_eq_getElem hkd⟩
                          have e0 : w9.cell? ⟨bd, od + p, none⟩ = some (.int .u32 z) := by
                            have := hrd p z hz 0 _ rfl
                            simpa using this
                          have HDP := Lib.hid (show depAt ⟨f, q, s, v, some ⟨bd, od, none⟩, k, dc, deps, text⟩ (p : Int) = z by
                            unfold depAt
                            rw [if_pos (by omega), Int.toNat_natCast, List.getD_eq_getElem?_getD, hz]; rfl)
                          clear hrd hkd hz
                          cases t5 : decide (xq ≤ z) with
                          | false =>
                            have HV := Lib.hid (show leansB ⟨f, q, s, v, some ⟨bd, od, none⟩, k, dc, deps, text⟩ ⟨(p : Int), xq, xs, xv, xa, xl, xc, xd, xt⟩ = false by unfold leansB; simp only [t1', t2, t3, t4, HDP.out, t5, Bool.false_and, Bool.or_false, Bool.and_false, Bool.true_and, Bool.and_true])
                            rw [HV.out] at HLB
                            go_quiet (fail)
                            have HB := Lib.hid ((Grw.refl w9).drewN nq).below
                            go_wp2_with fail
                            go_meet
                            exact ⟨by rw [HLB.out], HB.out⟩
                          | true =>
                            have HV := Lib.hid (show leansB ⟨f, q, s, v, some ⟨bd, od, none⟩, k, dc, deps, text⟩ ⟨(p : Int), xq, xs, xv, xa, xl, xc, xd, xt⟩ = true by unfold leansB; simp only [t1', t2, t3, t4, HDP.out, t5, Bool.false_and, Bool.or_true, Bool.and_false, Bool.true_and, Bool.and_true, Bool.and_self, Bool.or_self])
                            rw [HV.out] at HLB
                            go_quiet (fail)
                            have HB := Lib.hid ((Grw.refl w9).drewN nq).below
                            go_wp2_with fail
                            go_meet
                            exact ⟨by rw [HLB.out], HB.out⟩
                case rest =>
                  obtain ⟨rfl, hbw⟩ := hcut
                  have HJW := Lib.hid (HJ9.out.trans (hbw.mono HJ9.out.size))
                  have XW := Lib.hid (X9.out.later hbw)
                  have HDXW := Lib.hid (HDX9.out.below hbw)
                  clear hbw X9 M9 HJ9 HDX9 c0 c1 c4 y0 y1 HLB
                  have y0 : wc.cell? ⟨xb, 0, none⟩ = some (.int .i64 xf) := XW.out.own.at_ 0 _ rfl
                  have y1 : wc.cell? ⟨xb, 1, none⟩ = some (.int .u32 xq) := XW.out.own.at_ 1 _ rfl
                  go_upto_region 27 with fail
                  cases lb with
                  | false =>
                    go_quiet (fail)
                    have HJ2 := Lib.hid (HJW.out.trans (((Grw.refl wc).drewN nq).below.mono HJW.out.size))
                    clear HJW
                    go_wp2
                    go_roundw
                    case rel => exact ⟨j + 1, by omega, by go_num, HJ2.out⟩
                    case measure => simp [intOf]; omega
                  | true =>
                    cases t1 : decide (0 < xq) with
                    | false =>
                      go_quiet (fail)
                      have HJ2 := Lib.hid (HJW.out.trans (((Grw.refl wc).drewN nq).below.mono HJW.out.size))
                      clear HJW
                      go_wp2
                      go_roundw
                      case rel => exact ⟨j + 1, by omega, by go_num, HJ2.out⟩
                      case measure => simp [intOf]; omega
                    | true =>
                      have HPW := Lib.hid ((HP5.out.below HB8.out).below HJW.out)
                      obtain ⟨u, hu⟩ : ∃ u, u = wholeP PP.f xf := ⟨_, rfl⟩
                      have HU := Lib.hid hu
                      clear hu
                      cases t2 : decide (xq ≤ u) with
                      | false =>
                        have PW := fun n' => pwhole (HPW.out.below ((Grw.refl wc).drewN n').below) xf x0 x1
                        rw [← HU.out] at PW
                        go_quiet ((go_at_call 46; exact Calls.quiet_of_same ((PW _).mono fun _ _ ⟨he, hw⟩ => ⟨he, hw.symm⟩)))
                        have HJ2 := Lib.hid (HJW.out.trans (((Grw.refl wc).drewN nq).below.mono HJW.out.size))
                        clear HJW
                        go_wp2
                        go_roundw
                        case rel => exact ⟨j + 1, by omega, by go_num, HJ2.out⟩
                        case measure => simp [intOf]; omega
                      | true =>
                        obtain ⟨yk, hyk, hsame⟩ := HKY.out rfl (of_decide_eq_true t1) (by rw [← HU.out]; exact of_decide_eq_true t2)
                        have HW5 := Lib.hid ((HB8.out.trans (HJW.out.mono HB8.out.size)))
                        have K1 : Hid (∀ n' os', Calls Try.prog 46 #[.pointer (some ⟨g, 0, none⟩), .int .i64 xf] (grow (atD wc n') os') fun e w'' => e = .returned (.int .u32 u) ∧ Below (grow (atD wc n') os').heap.size (grow (atD wc n') os') w'') := Lib.hid (fun n' os' => by
                          have := pwhole (HPW.out.below (below_of_form wc n' os')) xf x0 x1
                          rw [← HU.out] at this
                          exact this.mono fun e w'' ⟨h1, h2⟩ => ⟨h1, by rw [← h2]; exact Below.refl _ _⟩)
                        have K2 : Hid (∀ n' os', Calls Try.prog 58 #[.slice (some ⟨b, o, none⟩) sn sc, .agg #[.int .i64 xf, .int .u32 xq, .int .u64 xs, .int .i64 xv, .slice xa xl xc, .string xt]] (grow (atD wc n') os') fun e w'' => e = .returned (.bool true) ∧ Below (grow (atD wc n') os').heap.size (grow (atD wc n') os') w'') := Lib.hid (fun n' os' =>
                          phas (some ⟨b, o, none⟩) sn sc X ⟨xf, xq, xs, xv, xa, xl, xc, xd, xt⟩ _ ((HX.out.1.below HW5.out).below (below_of_form wc n' os')) (fun z hz => ⟨(((HX.out.2.1 z hz).below HW5.out).below (below_of_form wc n' os')).deps, (HX.out.2.1 z hz).few⟩) (HDXW.out.below (below_of_form wc n' os')) ⟨yk, hyk, hsame⟩ (by omega))
                        have hxl := XW.out.lt
                        have v0 := fun n' os' => cell_form hxl y0 n' os'
                        have v1 := fun n' os' => cell_form hxl y1 n' os'
                        have v2 := fun n' os' => cell_form hxl (show wc.cell? ⟨xb, 2, none⟩ = some (.int .u64 xs) from XW.out.own.at_ 2 _ rfl) n' os'
                        have v3 := fun n' os' => cell_form hxl (show wc.cell? ⟨xb, 3, none⟩ = some (.int .i64 xv) from XW.out.own.at_ 3 _ rfl) n' os'
                        have v4 := fun n' os' => cell_form hxl (show wc.cell? ⟨xb, 4, none⟩ = some (.slice xa xl xc) from XW.out.own.at_ 4 _ rfl) n' os'
                        have v5 := fun n' os' => cell_form hxl (show wc.cell? ⟨xb, 5, none⟩ = some (.string xt) from XW.out.own.at_ 5 _ rfl) n' os'
                        clear y0 y1 hyk hsame HPW
                        refine wp_region_quiet_below (by kernel_rfl) (by kernel_rfl) ?_
                        repeat (quiet_step (first | (go_at_call 46; exact calls_below (K1.out _ _)) | (go_at_call 58; exact calls_below (K2.out _ _))))
                        refine wpQuiet_nil ?_
                        intro _ hw'
                        obtain ⟨⟨nq, osq⟩, hw''⟩ := hw'
                        subst hw''
                        have HJ2 := Lib.hid (HJW.out.trans ((below_of_form wc nq osq).mono HJW.out.size))
                        clear HJW K1 K2 v0 v1 v2 v3 v4 v5
                        generalize (grow (atD wc nq) osq) = wz at *
                        go_wp2
                        go_roundw
                        case rel => exact ⟨j + 1, by omega, by go_num, HJ2.out⟩
                        case measure => simp [intOf]; omega
              · obtain rfl : j = rn := by omega
                have HF := Lib.hid (HB8.out.trans (HJ.out.mono HB8.out.size))
                go_wp2
                go_roundw
                case rel => exact ⟨i + 1, by omega, by go_num, HF.out⟩
                case measure => simp [intOf]; omega
      · obtain rfl : i = sn := by omega
        have HF := Lib.hid (HB5.out.trans (HB.out.mono HB5.out.size))
        go_wp2
        go_ret
        exact ⟨rfl, HF.out⟩
theorem walk_PlanFits {w : World} (a : Int) (wa : (Lit.int .i64 a).wf = true) (ao : Option Addr) (n c : Nat) (l : List Xg) (hl : Lst encXg 6 w ao n l ∧ (ao = none → c = 0) ∧ n ≤ c ∧ ∀ m ∈ l, XgIn w m ∧ m.ok) (ro : Option Addr) (rn rc : Nat) (R : List Mg) (hr : Lst encG 6 w ro rn R ∧ (ro = none → rc = 0) ∧ rn ≤ rc ∧ ∀ m ∈ R, DpIn w m ∧ DepsOk m.deps ∧ -9223372036854775808 ≤ m.f ∧ m.f ≤ 9223372036854775807 ∧ 0 ≤ m.q ∧ m.q < 4294967296) :
    Calls Try.prog 11 #[.int .i64 a, .slice ao n c, .slice ro rn rc] w fun e w' => e = .returned (.bool true) ∧ Below w.heap.size w w' := by
  have a0 := Go.bounds_i64 wa
  exact fits_core a a0.1 a0.2 ao n c l ro rn rc R w ⟨hl.1, hl.2.2.2⟩ hr.1 hr.2.2.2
end Go.Proofs.Ytfocjcdfpnbkjaa
