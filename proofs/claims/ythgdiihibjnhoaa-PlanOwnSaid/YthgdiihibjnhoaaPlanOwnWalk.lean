/- The walk of PlanOwn. -/
import Derived.Test.YthgdiihibjnhoaaPlOwn
import Derived.Test.YthgdiihibjnhoaaPlAwake2
set_option linter.unusedVariables false
set_option maxRecDepth 100000
set_option linter.unusedSimpArgs false
namespace Go.Proofs.Ythgdiihibjnhoaa
open Go.RowKit Go.Sort Go.Shelf Go.Maps

set_option maxHeartbeats 4000000 in
theorem own_core (ao : Option Addr) (n c : Nat) (DL : List Int) (so : Option Addr) (m sc : Nat) (SL : List Int) (me : Int) (m0 : -9223372036854775808 ≤ me) (m1 : me ≤ 9223372036854775807) (w : World)
    (hd : Lst (fun n : Int => [.int .u32 n]) 1 w ao n DL ∧ (ao = none → c = 0) ∧ n ≤ c ∧ ∀ v ∈ DL, 0 ≤ v ∧ v < 4294967296) (hs : Lst (fun n : Int => [.int .u32 n]) 1 w so m SL ∧ (so = none → sc = 0) ∧ m ≤ sc ∧ ∀ v ∈ SL, 0 ≤ v ∧ v < 4294967296) :
    Calls Try.prog 3 #[.slice ao n c, .slice so m sc, .int .i64 me] w fun e w' => e = .returned (.bool true) ∧ Below w.heap.size w w' := by
  have PA := pawake w
  have HD := Lib.hid hd
  have HS := Lib.hid hs
  clear hd hs
  go_enter Try.func3, Try.ntmps3
  go_wp2_with fail
  refine PA.mono ?_
  rintro e w1 ⟨rfl, B1⟩
  have HB1 := Lib.hid B1
  clear PA B1
  cases h1 : decide ((8 : Int) < (n : Int)) with
  | true =>
    go_wp2
    go_ret
    exact ⟨rfl, HB1.out⟩
  | false =>
  cases h2 : decide ((8 : Int) < (m : Int)) with
  | true =>
    go_wp2
    go_ret
    exact ⟨rfl, HB1.out⟩
  | false =>
  cases h3 : decide (me < (0 : Int)) with
  | true =>
    go_wp2
    go_ret
    exact ⟨rfl, HB1.out⟩
  | false =>
  have h1' := of_decide_eq_false h1
  have h2' := of_decide_eq_false h2
  have h3' := of_decide_eq_false h3
  obtain ⟨p, rfl⟩ := Int.eq_ofNat_of_zero_le (show 0 ≤ me by omega)
  cases h4 : decide (m ≤ p) with
  | true =>
    go_wp2
    go_ret
    exact ⟨rfl, HB1.out⟩
  | false =>
  have h4' := of_decide_eq_false h4
  have hpm : p < m := by omega
  have hm8 : m ≤ 8 := by omega
  have hn8 : n ≤ 8 := by omega
  clear h1' h2' h3' h4'
  obtain ⟨C, hC⟩ : ∃ C, C = DL ++ List.replicate (m - n) 0 := ⟨_, rfl⟩
  have HC := Lib.hid hC
  obtain ⟨D, hD⟩ : ∃ D, D = C.map f5 := ⟨_, rfl⟩
  have HDD := Lib.hid hD
  have S1 := Lib.hid (OwM.start w w1 D HB1.out)
  clear hC hD
  go_wp2_with fail
  clear h1 h2 h3 h4
  go_loopw [7, 8, 9, 10] (fun sl sr ss si wr => ∃ (i : Nat) (al : Option Addr) (cl : Nat) (ar : Option Addr) (rn cr st : Nat) (L : List Xg) (R : List Mg), i ≤ m ∧ sl = .slice al i cl ∧ sr = .slice ar rn cr ∧ ss = .int .u64 (st : Int) ∧ si = .int .i64 i ∧ st ≤ 5 * i ∧ rn ≤ 5 * i ∧ Aside (OwM w wr D i (.slice al i cl) L (.slice ar rn cr) rn R)) (fun _ _ _ si _ => m - (intOf si).toNat)
  case atStart => exact ⟨0, none, 0, none, 0, 0, 0, [], [], Nat.zero_le _, rfl, rfl, rfl, rfl, Nat.zero_le _, Nat.zero_le _, S1.out⟩
  case round =>
    clear S1
    obtain ⟨i, al, cl, ar, rn, cr, st, L, R, hi, rfl, rfl, rfl, rfl, hst, hrn, HM⟩ := hrel
    obtain ⟨W, hW⟩ : ∃ W, W = wr := ⟨_, rfl⟩
    subst hW
    by_cases hlt : i < m
    · obtain ⟨b, o, hso, hr⟩ := HS.out.1.src (show 0 < m by omega)
      subst hso
      obtain ⟨sv, hsv⟩ : ∃ sv, SL[i]? = some sv := ⟨_, List.getElem?_eq_getElem (by rw [HS.out.1.size]; exact hlt)⟩
      have c0 : W.cell? ⟨b, o + i, none⟩ = some (.int .u32 sv) := cell_later HM.out.bel (by have := hr i sv hsv 0 _ rfl; simpa using this)
      have hsb := HS.out.2.2.2 sv (List.mem_of_getElem? hsv)
      obtain ⟨d, hd5, hd⟩ := mod5 sv hsb.1 hsb.2
      clear hr hsv
      have hl := HM.out.bel.size
      obtain ⟨B, hB⟩ : ∃ B, B = W.heap.size := ⟨_, rfl⟩
      have E12 := World.ownsRow_lit (base := B) (e := 27) (size := 1) W #[] 0 (by omega) (by decide) rfl
      have K12 := Lib.hid ((Grw.refl W).alloc (.cells #[] 27)).below
      have HDW := Lib.hid ((HD.out.1.below HM.out.bel).below K12.out)
      go_upto_region 12 with fail
      go_wp2_with (at_builtin; refine append_ow _ rfl (.tmp 50) (.tmp 51) rfl B _ 0 [] rfl E12 ao n c DL rfl HD.out.2.1 HDW.out (by omega) (by simp; omega) ?_; intro v2 w2 hown hgrow)
      rw [Nat.zero_add, List.nil_append] at hown
      have C2 : Hid (CtM W w2 v2 n DL) := Lib.hid (by
        subst hB
        exact ⟨hown, HD.out.1.size, K12.out.grown hgrow K12.out.size fun k e => Nat.le_of_eq (Option.some.inj e)⟩)
      clear hown hgrow E12 K12 HDW hl
      obtain ⟨a2, c2, rfl⟩ := own_form' C2.out.own
      go_loopw [12] (fun sc wq => ∃ (k : Nat) (a2 : Option Addr) (c2 : Nat), n ≤ k ∧ k ≤ max n m ∧ sc = .slice a2 k c2 ∧ Aside (CtM W wq (.slice a2 k c2) k (DL ++ List.replicate (k - n) 0))) (fun sc _ => m - lenOf sc)
      case atStart => exact ⟨n, a2, c2, Nat.le_refl _, by omega, rfl, by rw [Nat.sub_self, List.replicate_zero, List.append_nil]; exact C2.out⟩
      case round =>
        clear C2
        obtain ⟨k, a2, c2, hk1, hk2, rfl, H2⟩ := hrel
        have hbs := H2.out.bel.size
        by_cases hkm : k < m
        · have L3 := ((Grw.refl wr).alloc (.cells #[.int .u32 0] 27)).below
          have C3 := Lib.hid (H2.out.later L3)
          have HL3 := Lib.hid (lst_u1 wr 0)
          clear H2 L3
          go_wp2_with (at_builtin; refine append_ow _ rfl (.tmp 58) (.tmp 59) rfl W.heap.size (.slice a2 k c2) k _ rfl C3.out.own (some ⟨wr.heap.size, 0, none⟩) 1 1 [0] rfl (fun h => by cases h) HL3.out (by omega) C3.out.bel.size ?_; intro v4 w4 hown hgrow)
          obtain ⟨a4, c4, rfl⟩ := own_form' hown
          have C4 := Lib.hid (C3.out.app hown hgrow rfl)
          have HE := Lib.hid (show DL ++ List.replicate (k - n) 0 ++ [0] = DL ++ List.replicate (k + 1 - n) 0 by
            rw [show k + 1 - n = (k - n) + 1 by omega, List.replicate_succ', List.append_assoc])
          clear hown hgrow C3 HL3
          go_roundw
          case rel => exact ⟨k + 1, a4, c4, by omega, by omega, rfl, by rw [← HE.out]; exact C4.out⟩
          case measure => simp [lenOf]; omega
        · have HCL : Hid (DL ++ List.replicate (k - n) 0 = C) := Lib.hid (by rw [HC.out]; congr 1; congr 1; omega)
          have C4 := H2.out
          rw [HCL.out] at C4
          obtain ⟨g, cc, hv, hkc, hbg, cur, hcur⟩ := C4.form (by omega)
          injection hv with e1 e2 e3
          subst e1 e3
          have C5 := Lib.hid C4
          have hkM : k = max n m := by omega
          have hk8 : k ≤ 8 := by omega
          have hik : i < k := by omega
          clear C4 H2 HCL hcur hkM hk1 hk2
          go_wp2_with fail
          go_loopw [13] (fun sj wq => ∃ j : Nat, j ≤ k ∧ sj = .int .i64 j ∧ Aside (CtM W wq (.slice (some ⟨g, 0, none⟩) k c2) k (modK C j))) (fun sj _ => k - (intOf sj).toNat)
          case atStart => exact ⟨0, Nat.zero_le _, rfl, by rw [modK_zero]; exact C5.out⟩
          case round =>
            obtain ⟨j, hj, rfl, H3⟩ := hrel
            by_cases hjk : j < k
            · obtain ⟨z, hz⟩ : ∃ z, C[j]? = some z := ⟨_, List.getElem?_eq_getElem (by rw [C5.out.len]; exact hjk)⟩
              have hzb : 0 ≤ z ∧ z < 4294967296 := by
                have hm := List.mem_of_getElem? hz
                rw [HC.out] at hm
                rcases List.mem_append.1 hm with h | h
                · exact HD.out.2.2.2 z h
                · rw [(List.mem_replicate.1 h).2]; decide
              obtain ⟨y, hy5, hy⟩ := mod5 z hzb.1 hzb.2
              have g0 := H3.out.at_ j z (modK_at C j z hz)
              have f0 := H3.out.own.frozenAt j
              have H4 := Lib.hid (H3.out.set j (f5 z))
              have HE := Lib.hid (modK_set C j z hz)
              have HF := Lib.hid (show f5 z = (y : Int) from hy5)
              rw [HE.out, HF.out] at H4
              clear H3 hz hzb HE HF
              go_wp2_with fail
              go_roundw
              case rel => exact ⟨j + 1, by omega, by go_num, H4.out⟩
              case measure => simp [intOf]; omega
            · obtain rfl : j = k := by omega
              have C6 := H3.out
              rw [modK_all C j (by rw [C5.out.len]), ← HDD.out] at C6
              have C7 := Lib.hid C6
              clear C6 H3 C5
              have hs7 := C7.out.bel.size
              have hg7 := own_lt C7.out.own
              have N7 := World.ownsRow_nil wr wr.heap.size 27 1
              obtain ⟨z, hz⟩ : ∃ z, D[i]? = some z := ⟨_, List.getElem?_eq_getElem (by rw [C7.out.len]; exact hik)⟩
              have hz5 : 0 ≤ z ∧ z < 5 := by
                have hm := List.mem_of_getElem? hz
                rw [HDD.out] at hm
                obtain ⟨y, hy, rfl⟩ := List.mem_map.1 hm
                rw [HC.out] at hy
                have hyb : 0 ≤ y ∧ y < 4294967296 := by
                  rcases List.mem_append.1 hy with h | h
                  · exact HD.out.2.2.2 y h
                  · rw [(List.mem_replicate.1 h).2]; decide
                obtain ⟨q, h1, h2⟩ := mod5 y hyb.1 hyb.2
                unfold f5
                omega
              obtain ⟨z0, rfl⟩ := Int.eq_ofNat_of_zero_le hz5.1
              have hz5' : z0 < 5 := by omega
              have HZ := Lib.hid hz
              have HDB : Hid (∀ v ∈ D, 0 ≤ v ∧ v < 5) := Lib.hid fun v hv => by
                rw [HDD.out] at hv
                obtain ⟨y, hy, rfl⟩ := List.mem_map.1 hv
                rw [HC.out] at hy
                have hyb : 0 ≤ y ∧ y < 4294967296 := by
                  rcases List.mem_append.1 hy with h | h
                  · exact HD.out.2.2.2 y h
                  · rw [(List.mem_replicate.1 h).2]; decide
                obtain ⟨q, h1, h2⟩ := mod5 y hyb.1 hyb.2
                unfold f5
                omega
              clear hz hz5
              go_upto_region 21 with (at_builtin; refine append_ow _ rfl (.tmp 75) (.tmp 76) rfl wr.heap.size _ 0 [] rfl N7 (some ⟨g, 0, none⟩) j c2 D rfl (fun h => by cases h) C7.out.lst (by omega) (Nat.le_refl _) ?_; intro v8 w8 hown hgrow)
              rw [Nat.zero_add, List.nil_append] at hown
              have B8 : Hid (Below wr.heap.size wr w8) := Lib.hid (((Grw.refl wr).below).grown hgrow (Nat.le_refl _) fun k e => by cases e)
              have D8 : Hid (CtM wr w8 v8 j D) := Lib.hid ⟨hown, C7.out.len, B8.out⟩
              have C8 := Lib.hid (C7.out.later B8.out)
              clear hown hgrow N7 C7
              obtain ⟨g2, c8, hv8, hc8, hg8, _⟩ := D8.out.form (by omega)
              subst hv8
              have e8 := C8.out.at_ i _ HZ.out
              have f8 := C8.out.own.frozenAt i
              obtain ⟨y0, hy0⟩ : ∃ y0, y0 = z0 + d := ⟨_, rfl⟩
              have hw8 : IntKind.u32.wrap ((z0 : Int) + (d : Int)) = (y0 : Int) := by rw [IntKind.wrap_u32']; omega
              have HY := Lib.hid hy0
              have hy9 : y0 < 10 := by omega
              have hy8 : z0 ≤ y0 := by omega
              clear hy0
              have hgg : g2 ≠ g := by omega
              have P8 := D8.out.dp (by omega) 0 0 0 0 { data := #[] }
              have P9 : Hid (DpT (w8.setCell ⟨g, i, none⟩ (.int .u32 (y0 : Int))) (fun _ => True) ⟨0, 0, 0, 0, some ⟨g2, 0, none⟩, j, c8, D, { data := #[] }⟩) := Lib.hid (P8.kept fun ad ea => by
                injection ea with ea
                subst ea
                exact heap_setCell_other w8 ⟨g, i, none⟩ g2 _ hgg)
              have C9 := Lib.hid (C8.out.set i (y0 : Int))
              have hb8 := B8.out.size
              have M9 := Lib.hid (HM.out.later C9.out.bel)
              clear HM C8 D8 P8
              go_upto_region 23 with fail
              clear e8 f8
              generalize w8.setCell ⟨g, i, none⟩ (.int .u32 (y0 : Int)) = w9 at *
              have L10 := ((Grw.refl w9).alloc (.cells (encXg ⟨(i : Int), 0, 0, some ⟨g, 0, none⟩, j, c2, D.set i (y0 : Int), ⟨1, 0⟩⟩).toArray 33)).below
              have X10 := Lib.hid (XgB.new w9 ⟨(i : Int), 0, 0, some ⟨g, 0, none⟩, j, c2, D.set i (y0 : Int), ⟨1, 0⟩⟩)
              have M10 := Lib.hid (M9.out.later L10)
              have P10 := Lib.hid (P9.out.below L10)
              have Q10 := Lib.hid (C9.out.dp (by omega) 0 0 0 0 { data := #[] } |>.below L10)
              have HCV := Lib.hid (show ∀ v ∈ D.set i (y0 : Int), 0 ≤ v ∧ v < 4294967296 from fun v hv => by
                rcases List.mem_or_eq_of_mem_set hv with h | h
                · have := HDB.out v h; omega
                · rw [h]; omega)
              clear C9 M9 P9 L10
              unfold encXg at X10 M10 P10 Q10
              simp only at X10 M10 P10 Q10
              go_upto_region 24 with (at_builtin; go_loud (refine append_xg _ rfl (.tmp 88) (.tmp 93) rfl w.heap.size (.slice al i cl) i _ rfl M10.out.lx (some ⟨w9.heap.size, 0, none⟩) 1 1 [⟨(i : Int), 0, 0, some ⟨g, 0, none⟩, j, c2, D.set i (y0 : Int), ⟨1, 0⟩⟩] rfl (fun h => by cases h) (lst_xg1 X10.out) (by omega) M10.out.bel.size ?_); intro v11 w11 hown hgrow)
              rw [← flat_append] at hown
              obtain ⟨al, cl, rfl⟩ := own_form' hown
              have OP := Lib.hid (M10.out.p.addX ⟨(i : Int), 0, 0, some ⟨g, 0, none⟩, j, c2, D.set i (y0 : Int), ⟨1, 0⟩⟩ rfl rfl rfl rfl (own_of HZ.out hy8))
              have M11 := Lib.hid (M10.out.addX _ OP.out ⟨Q10.out.as 0 0 0 0 _, hkc, HCV.out⟩ hown hgrow)
              have P11 := Lib.hid (M10.out.depX hgrow P10.out)
              obtain ⟨L1, hL1⟩ : ∃ L1, L1 = L ++ [⟨(i : Int), 0, 0, some ⟨g, 0, none⟩, j, c2, D.set i (y0 : Int), ⟨1, 0⟩⟩] := ⟨_, rfl⟩
              have HX1 : Hid (∃ x ∈ L1, x.w = (i : Int) ∧ x.of i = (y0 : Int)) := Lib.hid (by
                rw [hL1]
                exact ⟨_, List.mem_append_right _ (List.mem_singleton.2 rfl), rfl, own_of_i HZ.out⟩)
              rw [← hL1] at M11
              clear hown hgrow OP M10 P10 Q10 X10 HCV hL1 HZ
              go_wp2_with fail
              go_loopw [8, 9, 16] (fun sr ss sk wq => ∃ (q : Nat) (ar : Option Addr) (rn2 cr st2 : Nat) (R2 : List Mg), q ≤ d ∧ sr = .slice ar rn2 cr ∧ ss = .int .u64 (st2 : Int) ∧ sk = .int .u32 (q : Int) ∧ rn2 = rn + q ∧ st2 = st + q ∧ Aside (OwM w wq D (i + 1) (.slice al (i + 1) cl) L1 (.slice ar rn2 cr) rn2 R2) ∧ Aside (DpT wq (fun _ => True) ⟨0, 0, 0, 0, some ⟨g2, 0, none⟩, j, c8, D, { data := #[] }⟩)) (fun _ _ sk _ => d - (intOf sk).toNat)
              case atStart => exact ⟨0, ar, rn, cr, st, R, Nat.zero_le _, rfl, rfl, rfl, rfl, rfl, M11.out, P11.out⟩
              case round =>
                clear M11 P11
                obtain ⟨q, ar, rn2, cr, st2, R2, hq, rfl, rfl, rfl, hr2, hs2, HM2, HP2⟩ := hrel
                have hrn2 : rn2 ≤ 50 := by omega
                have hst2 : st2 ≤ 50 := by omega
                have HR2 := Lib.hid hr2
                have HS2 := Lib.hid hs2
                clear hr2 hs2
                by_cases hqd : q < d
                · obtain ⟨s1, hs1⟩ : ∃ s1, s1 = st2 + 1 := ⟨_, rfl⟩
                  obtain ⟨s2, hs2⟩ : ∃ s2, s2 = st2 + 2 := ⟨_, rfl⟩
                  obtain ⟨t1, ht1⟩ : ∃ t1, t1 = z0 + q := ⟨_, rfl⟩
                  obtain ⟨t2, ht2⟩ : ∃ t2, t2 = z0 + q + 1 := ⟨_, rfl⟩
                  obtain ⟨q1, hq1⟩ : ∃ q1, q1 = q + 1 := ⟨_, rfl⟩
                  have hw1 : IntKind.u64.wrap ((st2 : Int) + 1) = (s1 : Int) := by rw [IntKind.wrap_u64]; omega
                  have hw2 : IntKind.u64.wrap ((s1 : Int) + 1) = (s2 : Int) := by rw [IntKind.wrap_u64]; omega
                  have hw3 : IntKind.u32.wrap ((z0 : Int) + (q : Int)) = (t1 : Int) := by rw [IntKind.wrap_u32']; omega
                  have hw4 : IntKind.u32.wrap ((t1 : Int) + 1) = (t2 : Int) := by rw [IntKind.wrap_u32']; omega
                  have hw5 : IntKind.u32.wrap ((q : Int) + 1) = (q1 : Int) := by rw [IntKind.wrap_u32']; omega
                  have HQ1 := Lib.hid hq1
                  have HS1 := Lib.hid hs1
                  have HT2 := Lib.hid ht2
                  clear hq1 hs1 hs2 ht1 ht2
                  go_upto_region 28 with fail
                  have L12 := ((Grw.refl wr).alloc (.cells (encG ⟨(i : Int), (t2 : Int), (s2 : Int), 0, some ⟨g2, 0, none⟩, j, c8, D, { data := #[] }⟩).toArray 35)).below
                  have X12 := Lib.hid (MgB.new wr ⟨(i : Int), (t2 : Int), (s2 : Int), 0, some ⟨g2, 0, none⟩, j, c8, D, { data := #[] }⟩)
                  have M12 := Lib.hid (HM2.out.later L12)
                  have P12 := Lib.hid (HP2.out.below L12)
                  clear HM2 HP2 L12
                  unfold encG at X12 M12 P12
                  simp only at X12 M12 P12
                  go_wp2_with (at_builtin; go_loud (refine append_mg _ rfl (.tmp 102) (.tmp 112) rfl w.heap.size (.slice ar rn2 cr) rn2 _ rfl M12.out.lm (some ⟨wr.heap.size, 0, none⟩) 1 1 [⟨(i : Int), (t2 : Int), (s2 : Int), 0, some ⟨g2, 0, none⟩, j, c8, D, { data := #[] }⟩] rfl (fun h => by cases h) (lst_one X12.out) (by omega) M12.out.bel.size ?_); intro v13 w13 hown hgrow)
                  rw [← flat_append] at hown
                  obtain ⟨ar3, cr3, rfl⟩ := own_form' hown
                  have OP := Lib.hid (M12.out.p.addM ⟨(i : Int), (t2 : Int), (s2 : Int), 0, some ⟨g2, 0, none⟩, j, c8, D, { data := #[] }⟩ rfl (show (0 : Int) < (t2 : Int) by have := HT2.out; omega) (show (t2 : Int) < 100 by have := HT2.out; omega) (by
                    obtain ⟨x, hx, h1, h2⟩ := HX1.out
                    refine ⟨x, hx, h1, ?_⟩
                    show (t2 : Int) ≤ x.of (i : Int).toNat
                    rw [Int.toNat_natCast, h2]
                    have := HT2.out
                    have := HY.out
                    omega))
                  have M13 := Lib.hid (M12.out.addM _ OP.out (P12.out.as (i : Int) (t2 : Int) (s2 : Int) 0 _) hown hgrow)
                  have P13 := Lib.hid (M12.out.depM hgrow P12.out)
                  clear hown hgrow OP M12 P12 X12
                  go_roundw
                  case rel => exact ⟨q1, ar3, rn2 + 1, cr3, s1, _, by have := HQ1.out; omega, rfl, rfl, rfl, by have := HQ1.out; have := HR2.out; omega, by have := HQ1.out; have := HS1.out; have := HS2.out; omega, M13.out, P13.out⟩
                  case measure => simp [intOf]; have := HQ1.out; omega
                · obtain rfl : q = d := by omega
                  have M14 := Lib.hid HM2.out
                  clear HM2 HP2
                  go_wp2
                  go_roundw
                  case rel => exact ⟨i + 1, al, cl, ar, rn2, cr, st2, L1, R2, by omega, rfl, rfl, rfl, by go_num, by have := HS2.out; omega, by have := HR2.out; omega, M14.out⟩
                  case measure => simp [intOf]; omega
    · obtain rfl : i = m := by omega
      have HE := Lib.hid HM.out
      clear HM
      go_wp2_with fail
      have XL := Lib.hid (HE.out.xgl (by omega))
      have PN := pnew XL.out cl (by omega) (p : Int) m0 m1
      refine PN.mono ?_
      rintro e w3 hs
      clear PN
      cases hs with
      | no _ hn hb =>
        exfalso
        obtain ⟨y, hy⟩ := HE.out.p.plan (by omega) p hpm
        rcases hn with hn | hn
        · exact hn y hy.mem hy.me
        · exact hn hy.ap
      | yes g y _ hy hp hg hb =>
        have hcm := HE.out.p.comp hy.mem
        have HOK := Lib.hid (plan_ok XL.out hy)
        rw [hcm] at hp HOK
        have HP3 := Lib.hid hp
        have M3 := Lib.hid (HE.out.later hb)
        have HB3 := Lib.hid M3.out.bel
        have HK := Lib.hid (HE.out.p.all (w := W) (by omega) (by omega) (by have := HE.out; rw [HDD.out, HC.out]; simp; have := HD.out.1.size; omega) fun x hx => (XL.out.in_ x hx).1)
        have HBD := Lib.hid (HE.out.p.bound (by omega))
        clear hp hg hb hy hcm HE XL
        have HR3 := M3.out.mgl (by omega) (fun v hv => by
          rw [HDD.out] at hv
          obtain ⟨y, hy, rfl⟩ := List.mem_map.1 hv
          rw [HC.out] at hy
          have hyb : 0 ≤ y ∧ y < 4294967296 := by
            rcases List.mem_append.1 hy with h | h
            · exact HD.out.2.2.2 y h
            · rw [(List.mem_replicate.1 h).2]; decide
          obtain ⟨q, h1, h2⟩ := mod5 y hyb.1 hyb.2
          unfold f5
          omega)
        have HRL := Lib.hid M3.out.rl
        have PK := pkeep HP3.out HOK.out ar rn cr R HR3.1 HR3.2 (by omega)
        clear M3 HR3
        go_wp2_with fail
        refine PK.mono ?_
        rintro e w4 ⟨ka, kn, kc, X, rfl, _, hxl, _, hxs, B4⟩
        have hkn : kn = rn := by
          have h1 := congrArg List.length hxs
          rw [List.length_map, List.length_map, show keepL (planL L).f R = R from HK.out] at h1
          have := HRL.out
          omega
        subst hkn
        have PB := pbound (HP3.out.below B4)
        rw [show (planL L).bd = ⟨1, 0⟩ from HBD.out] at PB
        have HB4 := Lib.hid (HB3.out.trans (B4.mono HB3.out.size))
        clear PK hxs hxl B4
        go_wp2_with fail
        refine PB.mono ?_
        rintro e w5 ⟨rfl, G5⟩
        have PC := compare_any ⟨1, 0⟩ ⟨1, 0⟩ w5
        rw [(kcmp_zero ⟨1, 0⟩ ⟨1, 0⟩).2 rfl] at PC
        have HB5 := Lib.hid (HB4.out.trans (G5.below.mono HB4.out.size))
        clear PB G5
        go_wp2_with fail
        refine PC.mono ?_
        rintro e w6 ⟨rfl, G6⟩
        clear PC
        go_wp2_with fail
        go_ret
        exact ⟨rfl, HB5.out.trans (G6.below.mono HB5.out.size)⟩
theorem walk_PlanOwn {w : World} (ao : Option Addr) (n c : Nat) (DL : List Int) (hd : Lst (fun n : Int => [.int .u32 n]) 1 w ao n DL ∧ (ao = none → c = 0) ∧ n ≤ c ∧ ∀ v ∈ DL, 0 ≤ v ∧ v < 4294967296) (so : Option Addr) (m sc : Nat) (SL : List Int) (hs : Lst (fun n : Int => [.int .u32 n]) 1 w so m SL ∧ (so = none → sc = 0) ∧ m ≤ sc ∧ ∀ v ∈ SL, 0 ≤ v ∧ v < 4294967296) (me : Int) (wm : (Lit.int .i64 me).wf = true) :
    Calls Try.prog 3 #[.slice ao n c, .slice so m sc, .int .i64 me] w fun e w' => e = .returned (.bool true) ∧ Below w.heap.size w w' := by
  have b := Go.bounds_i64 wm
  exact own_core ao n c DL so m sc SL me b.1 b.2 w hd hs
end Go.Proofs.Ythgdiihibjnhoaa
