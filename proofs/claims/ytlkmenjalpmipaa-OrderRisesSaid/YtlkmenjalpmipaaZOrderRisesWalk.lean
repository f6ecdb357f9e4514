/- The walk of OrderRises. (Written by gen_orises.py.) -/
import Derived.Test.YtlkmenjalpmipaaZOrdFedAll
import Derived.Test.YtlkmenjalpmipaaZOrdRows
import Derived.Test.YtlkmenjalpmipaaZOrdAwake
set_option linter.unusedVariables false
set_option maxRecDepth 100000
set_option linter.unusedSimpArgs false
namespace Go.Proofs.Ytlkmenjalpmipaa
open Go.RowKit Go.Sort Go.Shelf

/-- Amid the last loop: behind w4, the counts. -/
structure RiS (w w4 wr : World) (cb : Nat) (f : Nat → Nat) : Prop where
  bel : Below w.heap.size w wr
  bel4 : Below w4.heap.size w4 wr
  own : Own wr cb 74 (cells4 .u32 f).toArray
  c0 : w4.heap.size ≤ cb
theorem RiS.later {w w4 wr w' : World} {cb : Nat} {f : Nat → Nat} (h : RiS w w4 wr cb f) (hb : Below wr.heap.size wr w') : RiS w w4 w' cb f :=
  ⟨h.bel.trans (hb.mono h.bel.size), h.bel4.trans (hb.mono h.bel4.size), h.own.below hb h.own.lt, h.c0⟩
theorem RiS.count {w w4 wr : World} {cb : Nat} {f : Nat → Nat} (h : RiS w w4 wr cb f) (h4 : w.heap.size ≤ w4.heap.size) (p c : Nat) (hp : p < 4) : RiS w w4 (wr.setCell ⟨cb, p, none⟩ (.int .u32 (c : Int))) cb (updF f p c) := by
  have hg := grown_set13 wr cb p (.int .u32 (c : Int))
  have ho := h.own.set p (.int .u32 (c : Int))
  rw [cells4_set _ _ _ _ hp] at ho
  exact ⟨h.bel.grown hg h.bel.size (fun k e => by cases e; exact Nat.le_trans h4 h.c0), h.bel4.grown hg h.bel4.size (fun k e => by cases e; exact h.c0), ho, h.c0⟩
set_option maxHeartbeats 4000000 in
theorem rises_core (ao : Option Addr) (len cap : Nat) (l : List Sn) (so : Option Addr) (slen scap : Nat) (sb : List Nat) (bo : Option Addr) (blen bcap : Nat) (bs : List Nat) (w : World) (hl : Lst encS 4 w ao len l) (hok : ∀ x ∈ l, x.ok) (hs : InO w so slen sb) (hb : InO w bo blen bs) :
    Calls Try.prog 5 #[.slice ao len cap, .slice so slen scap, .slice bo blen bcap] w fun e w' => e = .returned (.bool true) ∧ Below w.heap.size w w' := by
  have mixed : Try.prog.follows .mixedOrders = true := by kernel_rfl
  have PA := oawake w
  have HL := Lib.hid hl
  have HOK := Lib.hid hok
  have HSB := Lib.hid hs
  have HBB := Lib.hid hb
  clear hl hok hs hb
  go_enter Try.func5, Try.ntmps5
  go_wp2_with fail
  with_reducible refine PA.mono ?_
  rintro e w1 ⟨rfl, B1⟩
  have HB1 := Lib.hid B1
  clear PA B1
  by_cases h30 : 30 < len
  · have hz : (30 : Int) < (len : Int) := by omega
    go_wp2
    go_ret
    exact ⟨rfl, HB1.out⟩
  have hz : ¬ (30 : Int) < (len : Int) := by omega
  by_cases h100 : 100 < blen
  · have hz2 : (100 : Int) < (blen : Int) := by omega
    go_wp2
    go_ret
    exact ⟨rfl, HB1.out⟩
  have hz2 : ¬ (100 : Int) < (blen : Int) := by omega
  go_wp2_with fail
  clear hz hz2
  go_loopw [7] (fun si wr => ∃ i : Nat, i ≤ len ∧ si = .int .i64 i ∧ wr = w1) (fun si _ => len - (intOf si).toNat)
  case atStart => exact ⟨0, Nat.zero_le _, rfl, rfl⟩
  case round =>
    obtain ⟨i, hi, rfl, rfl⟩ := hrel
    by_cases hlt : i < len
    · obtain ⟨b, o, x, rfl, hx, hc⟩ := lst_at HL.out hlt
      have c3 := cell_later HB1.out (hc 3 _ rfl)
      clear hc hx
      obtain ⟨frm, later, svc, pay⟩ := x
      simp only at c3
      by_cases h5 : (500 : Int) < (pay.size : Int)
      · go_wp2
        go_ret
        exact ⟨rfl, HB1.out⟩
      · go_wp2_with fail
        go_roundw
        case rel => exact ⟨i + 1, by omega, by go_num, trivial⟩
        case measure => simp [intOf]; omega
    · have PS := ostamped ao len cap l so slen scap sb wr (Lst.below HL.out HB1.out) (HSB.out.below HB1.out) (by omega) HOK.out
      go_wp2_with fail
      with_reducible refine PS.mono ?_
      rintro e w2 hs
      obtain ⟨ya, yc, A, clk, cnt, rfl, hown, hst, hB2⟩ := hs
      obtain ⟨Z, hZ⟩ := srt_is A
      have hA := hst.hon (by omega)
      have hla := own_lst' encG_length hst.len hown
      have PF := ofed ya len yc A Z 6 bo blen bcap bs true w2 hla ((HBB.out.below HB1.out).below hB2) (by omega) (by omega) hA hst.dep hst.s0 hZ (by decide) (by decide)
      rw [show ((6 : Nat) : Int) = 6 from rfl] at PF
      have HB2 := Lib.hid (HB1.out.trans (hB2.mono HB1.out.size))
      have HA := Lib.hid hA
      have HZ := Lib.hid hZ
      have HLN := Lib.hid hst.len
      clear PS hown hst hB2 hZ hA hla HB1
      go_wp2_with fail
      with_reducible refine PF.mono ?_
      rintro e w3 hs
      obtain ⟨xa, xn, xc, X, E, k, rfl, hrow, -, hXZ, hB3⟩ := hs
      have hXZ := hXZ rfl
      have hX : Lst encG 6 w3 xa xn X := hrow.lst
      have hxl : xn = len := by
        have h1 := hrow.len
        have h2 := congrArg List.length hXZ
        rw [List.length_map, HZ.out.fil.length, HLN.out] at h2
        omega
      subst hxl
      have HX := Lib.hid hX
      have HXZ := Lib.hid hXZ
      have L4 := ((Grw.refl w3).alloc (.cells #[.int .u32 0, .int .u32 0, .int .u32 0, .int .u32 0] 74)).below
      have HB3 := HB2.out.trans (hB3.mono HB2.out.size)
      have H0 := Lib.hid (show RiS w w3 _ w3.heap.size (fun q => (sub (Z.take 0) q).length) from ⟨HB3.trans (L4.mono HB3.size), L4, Own.new w3 74 #[.int .u32 0, .int .u32 0, .int .u32 0, .int .u32 0], Nat.le_refl _⟩)
      have HSZ := Lib.hid HB3.size
      clear PF hrow hXZ hX hB3 L4 HB3 HB2
      go_wp2_with fail
      obtain ⟨cb, hcb⟩ : ∃ cb, cb = w3.heap.size := ⟨_, rfl⟩
      rw [← hcb] at H0
      try rw [← hcb]
      generalize w3.alloc (.cells #[.int .u32 0, .int .u32 0, .int .u32 0, .int .u32 0] 74) = w4 at *
      clear hcb
      go_loopw [11] (fun si wr => ∃ i : Nat, i ≤ xn ∧ si = .int .i64 i ∧ Hid (RiS w w3 wr cb (fun q => (sub (Z.take i) q).length))) (fun si _ => xn - (intOf si).toNat)
      case atStart => exact ⟨0, Nat.zero_le _, rfl, H0⟩
      case round =>
        clear H0 hi hlt
        obtain ⟨i, hi, rfl, HS⟩ := hrel
        by_cases hlt : i < xn
        · obtain ⟨lb, lf, x, rfl, hx, hc⟩ := lst_at HX.out hlt
          have hb := World.block_lt_of_cell? _ _ (hc 0 _ rfl)
          have hxz := row_at HXZ.out hx
          obtain ⟨p, hp, hxf⟩ := srt_frm HA.out HZ.out hxz
          have hxq := srt_num HA.out HZ.out hp hxz hxf
          have hcn := cnt_next hxz hxf
          obtain ⟨c, hcc⟩ : ∃ c, c = (sub (Z.take i) p).length := ⟨_, rfl⟩
          rw [← hcc] at hxq hcn
          have hc31 : c ≤ 30 := by
            have h1 : c ≤ (Z.take i).length := by rw [hcc]; exact List.length_filter_le _ _
            rw [List.length_take] at h1
            omega
          have HC := Lib.hid hcn
          have hp' : (p : Int) < 4 := by omega
          obtain ⟨f, q, s, v, a, dl, dc, deps, text⟩ := x
          change f = (p : Int) at hxf
          change q = (c : Int) + 1 at hxq
          subst hxf
          subst hxq
          have hw : IntKind.u32.wrap ((c : Int) + 1) = (c : Int) + 1 := by rw [IntKind.wrap_u32']; omega
          have hyl : lb < wr.heap.size := Nat.lt_of_lt_of_le hb HS.out.bel4.size
          have hyc : ∀ c' v', (encG ⟨(p : Int), (c : Int) + 1, s, v, a, dl, dc, deps, text⟩)[c']? = some v' → wr.cell? ⟨lb, lf + i * 6 + c', none⟩ = some v' := fun c' v' hv => cell_later HS.out.bel4 (hc c' v' hv)
          have y0 := fun n os => cell_grown (a := ⟨lb, lf + i * 6 + 0, none⟩) (n := n) (os := os) hyl (hyc 0 _ rfl)
          have y1 := fun n os => cell_grown (a := ⟨lb, lf + i * 6 + 1, none⟩) (n := n) (os := os) hyl (hyc 1 _ rfl)
          have y2 := fun n os => cell_grown (a := ⟨lb, lf + i * 6 + 2, none⟩) (n := n) (os := os) hyl (hyc 2 _ rfl)
          have y3 := fun n os => cell_grown (a := ⟨lb, lf + i * 6 + 3, none⟩) (n := n) (os := os) hyl (hyc 3 _ rfl)
          have y4 := fun n os => cell_grown (a := ⟨lb, lf + i * 6 + 4, none⟩) (n := n) (os := os) hyl (hyc 4 _ rfl)
          have y5 := fun n os => cell_grown (a := ⟨lb, lf + i * 6 + 5, none⟩) (n := n) (os := os) hyl (hyc 5 _ rfl)
          simp only [Nat.add_zero] at y0
          simp only at y1 y2 y3 y4 y5
          have hcl := HS.out.own.at_ p _ (cells4_at .u32 _ p hp)
          rw [← hcc] at hcl
          have hclt := HS.out.own.lt
          have cc := fun n os => cell_grown (a := ⟨cb, p, none⟩) (n := n) (os := os) hclt hcl
          have ho : ∀ (f q s v : Int) (a : Option Addr) (dl dc : Nat) (text : ByteArray) W, Calls Try.prog 25 #[.agg #[.int .i64 f, .int .u32 q, .int .u64 s, .int .i64 v, .slice a dl dc, .string text]] W fun e w' => e = .returned (.agg #[.int .u64 s, .int .i64 f]) ∧ Grw W w' :=
            fun f q s v a dl dc text W => of12_any ⟨f, q, s, v, a, dl, dc, [], text⟩ W
          clear hclt hcc hcn
          rcases Nat.eq_zero_or_pos i with hi0 | hi0
          · have hd1 : decide (0 < i) = false := by rw [hi0]; rfl
            have hd2 : decide ((0 : Int) < (i : Int)) = false := by rw [hi0]; rfl
            clear hi0 ho hxz hx hc
            have p0 := hyc 0 _ rfl
            have p1 := hyc 1 _ rfl
            rw [Nat.add_zero] at p0
            clear y0 y1 y2 y3 y4 y5 cc hyc
            go_upto_region 16 with fail
            go_quiet (fail)
            have HS2 := Lib.hid (HS.out.later ((Grw.refl wr).drewN nq).below)
            have e0 : (wr.drewN nq).cell? ⟨lb, lf + i * 6, none⟩ = some (.int .i64 (p : Int)) := p0
            have e1 : (wr.drewN nq).cell? ⟨cb, p, none⟩ = some (.int .u32 (c : Int)) := hcl
            have ff := HS2.out.own.free p
            have H3 := HS2.out.count HSZ.out p (c + 1) hp
            rw [← HC.out, show ((c + 1 : Nat) : Int) = (c : Int) + 1 by omega] at H3
            have HS3 := Lib.hid H3
            clear HS HS2 H3 HC hd1 hd2 p0 p1 hcl
            generalize wr.drewN nq = w5 at *
            go_wp2_with fail
            go_roundw
            case rel => exact ⟨i + 1, by omega, by go_num, HS3⟩
            case measure => simp [intOf]; omega
          · obtain ⟨j, hij⟩ : ∃ j, i = j + 1 := ⟨i - 1, by omega⟩
            obtain ⟨z, hzx⟩ : ∃ z, X[j]? = some z := ⟨_, List.getElem?_eq_getElem (by rw [HX.out.size]; omega)⟩
            have hzz := row_at HXZ.out hzx
            have hless := srt_step HA.out HZ.out hzz (by rw [← hij]; exact hxz)
            clear hyc hcl
            have hjz : (i : Int) - 1 = (j : Int) := by omega
            have hW : IntKind.i64.wrap (j : Int) = (j : Int) := by rw [IntKind.wrap_i64]; omega
            have hjl : j < xn := by omega
            have hjlz : (j : Int) < (xn : Int) := by omega
            obtain ⟨lb2, lf2, ze, hr⟩ := HX.out.src (show 0 < xn by omega)
            obtain ⟨rfl, rfl⟩ : lb2 = lb ∧ lf2 = lf := by cases ze; exact ⟨rfl, rfl⟩
            have hzc : ∀ c' v', (encG z)[c']? = some v' → wr.cell? ⟨lb2, lf2 + j * 6 + c', none⟩ = some v' := fun c' v' hv => cell_later HS.out.bel4 (hr j z hzx c' v' hv)
            obtain ⟨zf, zq, zs, zv, za, zdl, zdc, zdeps, zt⟩ := z
            have z0 := fun n os => cell_grown (a := ⟨lb2, lf2 + j * 6 + 0, none⟩) (n := n) (os := os) hyl (hzc 0 _ rfl)
            have z1 := fun n os => cell_grown (a := ⟨lb2, lf2 + j * 6 + 1, none⟩) (n := n) (os := os) hyl (hzc 1 _ rfl)
            have z2 := fun n os => cell_grown (a := ⟨lb2, lf2 + j * 6 + 2, none⟩) (n := n) (os := os) hyl (hzc 2 _ rfl)
            have z3 := fun n os => cell_grown (a := ⟨lb2, lf2 + j * 6 + 3, none⟩) (n := n) (os := os) hyl (hzc 3 _ rfl)
            have z4 := fun n os => cell_grown (a := ⟨lb2, lf2 + j * 6 + 4, none⟩) (n := n) (os := os) hyl (hzc 4 _ rfl)
            have z5 := fun n os => cell_grown (a := ⟨lb2, lf2 + j * 6 + 5, none⟩) (n := n) (os := os) hyl (hzc 5 _ rfl)
            simp only [Nat.add_zero] at z0
            simp only at z1 z2 z3 z4 z5
            have hc1 : ∀ W, Calls Try.prog 24 #[.agg #[.int .u64 zs, .int .i64 zf], .agg #[.int .u64 s, .int .i64 (p : Int)]] W fun e w' => e = .returned (.int .i64 (-1)) ∧ Grw W w' := fun W => by
              have := compare_any ⟨zs, zf⟩ ⟨s, (p : Int)⟩ W
              rw [show kcmp ⟨zs, zf⟩ ⟨s, (p : Int)⟩ = -1 from kcmp_lt hless] at this
              exact this
            clear hzc hr ze hzx hzz hless hij hx hxz hc
            go_upto_region 16 with fail
            go_quiet_grown (first
              | (go_at_call 25; exact Calls.grown_of (ho _ _ _ _ _ _ _ _ _))
              | (go_at_call 24; with_reducible exact Calls.grown_of (hc1 _)))
            have HS2 := Lib.hid (HS.out.later (Grw.below (w := wr) ⟨nq, osq, rfl⟩))
            have e0 := y0 nq osq
            have e1 := cc nq osq
            have ff := HS2.out.own.free p
            have H3 := HS2.out.count HSZ.out p (c + 1) hp
            rw [← HC.out, show ((c + 1 : Nat) : Int) = (c : Int) + 1 by omega] at H3
            have HS3 := Lib.hid H3
            clear HS HS2 H3 HC ho hc1 y0 y1 y2 y3 y4 y5 z0 z1 z2 z3 z4 z5 cc hjz hW
            generalize grow (wr.drewN nq) osq = w5 at *
            go_wp2_with fail
            go_roundw
            case rel => exact ⟨i + 1, by omega, by go_num, HS3⟩
            case measure => simp [intOf]; omega
        · obtain rfl : i = xn := by omega
          go_wp2
          go_ret
          exact ⟨rfl, HS.out.bel⟩
theorem walk_OrderRises {w : World} (ao : Option Addr) (len cap : Nat) (l : List Sn) (hl : Lst encS 4 w ao len l ∧ ∀ m ∈ l, m.ok) (so : Option Addr) (slen scap : Nat) (sb : List Nat) (hs : InO w so slen sb) (bo : Option Addr) (blen bcap : Nat) (bs : List Nat) (hb : InO w bo blen bs) :
    Calls Try.prog 5 #[.slice ao len cap, .slice so slen scap, .slice bo blen bcap] w fun e w' => e = .returned (.bool true) ∧ Below w.heap.size w w' :=
  rises_core ao len cap l so slen scap sb bo blen bcap bs w hl.1 hl.2 hs hb
end Go.Proofs.Ytlkmenjalpmipaa
