/- VoteMore: the walk. (Written by wip/gen_vomore.py.) -/
import Derived.Test.YtlaenabckpjikaaVoOpen
set_option linter.unusedVariables false
set_option maxRecDepth 100000
set_option linter.unusedSimpArgs false
namespace Go.Proofs.Ytlaenabckpjikaa
open Go.RowKit Go.Sort Go.Maps

theorem lastR_one (r : Rp) : lastR [r] = r.last := rfl
theorem pend_one (r : Rp) (v : Vw) : v ∈ pendV [r] ↔ v ∈ r.pend ∧ r.last.n < v.n := by
  rw [pendV_mem, lastR_one]
  constructor
  · rintro ⟨q, hq, h⟩
    rw [List.mem_singleton.1 hq] at h; exact h
  · intro h; exact ⟨r, List.mem_singleton.2 rfl, h⟩
/-- A pending view more never lets a set that mayn't. -/
theorem may_less (s : Nat) (r : Rp) (v : Vw) (h : mayV s [⟨r.last, r.pend ++ [v]⟩] = true) : mayV s [r] = true := by
  rw [mayV_iff] at h ⊢
  refine ⟨h.1, fun u hu => h.2 u ?_⟩
  rw [pend_one] at hu ⊢
  exact ⟨List.mem_append_left _ hu.1, hu.2⟩
theorem next_above (r : Rp) (n : Nat) (hn : n ∈ numsR r) (hm : nextV [r] ≠ 18446744073709551615) : n < nextV [r] := by
  have h1 : numsV [r] = numsR r := by unfold numsV; simp
  have h2 := mxN_le _ n (h1.symm ▸ hn)
  unfold nextV upN at hm ⊢
  split
  · rename_i e
    rw [if_pos e] at hm
    omega
  · omega
theorem may_new (s : Nat) (v : Vw) : mayV s [⟨v, []⟩] = most s v.m := by
  unfold mayV
  rw [lastR_one]
  have : pendV [⟨v, []⟩] = [] := by
    refine List.eq_nil_iff_forall_not_mem.2 fun u hu => ?_
    have := ((pend_one _ _).1 hu).1
    cases this
  rw [this]
  simp
theorem form_above (r : Rp) (v u : Vw) (h : u ∈ (formR r v).pend) : v.n < u.n := ((behindV_mem _ _ _).1 h).2
/-- A record in a block that holds it, loaded. -/
structure RcC (w : World) (g : Nat) (x : Rc) : Prop where
  d0 : w.cell? ⟨g, 0, none⟩ = some (.int .u64 (x.p.last.n : Int))
  d1 : w.cell? ⟨g, 1, none⟩ = some (.int .u64 (x.p.last.e : Int))
  d2 : w.cell? ⟨g, 2, none⟩ = some (.int .i64 x.p.last.r)
  d3 : w.cell? ⟨g, 3, none⟩ = some (.int .u64 (x.p.last.m : Int))
  d4 : w.cell? ⟨g, 4, none⟩ = some (.slice x.a x.k x.c)
theorem RcB.cs {w : World} {g : Nat} {x : Rc} (h : RcB w g x) : RcC w g x := ⟨h.own.at_ 0 _ rfl, h.own.at_ 1 _ rfl, h.own.at_ 2 _ rfl, h.own.at_ 3 _ rfl, h.own.at_ 4 _ rfl⟩
structure VwC (w : World) (g : Nat) (x : Vw) : Prop where
  d0 : w.cell? ⟨g, 0, none⟩ = some (.int .u64 (x.n : Int))
  d1 : w.cell? ⟨g, 1, none⟩ = some (.int .u64 (x.e : Int))
  d2 : w.cell? ⟨g, 2, none⟩ = some (.int .i64 x.r)
  d3 : w.cell? ⟨g, 3, none⟩ = some (.int .u64 (x.m : Int))
theorem VwB.cs {w : World} {g : Nat} {x : Vw} (h : VwB w g x) : VwC w g x := ⟨h.own.at_ 0 _ rfl, h.own.at_ 1 _ rfl, h.own.at_ 2 _ rfl, h.own.at_ 3 _ rfl⟩
/-- The blocks of the law: the record and the view that came in, boxed. -/
structure MoSt (w wr : World) (X : Rc) (V : Vw) : Prop where
  r : RcB wr w.heap.size X
  v : VwB wr (w.heap.size + 1) V
  bel : Below w.heap.size w wr
theorem MoSt.later {w wr w' : World} {X : Rc} {V : Vw} (h : MoSt w wr X V) (hb : Below wr.heap.size wr w') : MoSt w w' X V := ⟨h.r.later hb, h.v.later hb, h.bel.trans (hb.mono h.bel.size)⟩
set_option maxHeartbeats 8000000 in
theorem walk_VoteMore {w : World} (x : Rc) (hx : RcIn w x) (v : Vw) (hv : v.ok) (s : Int) (hs : (Lit.int .u64 s).wf = true) :
    Calls Try.prog 5 #[valRc x, valV v, .int .u64 s] w fun e w' => e = .returned (.bool true) ∧ Below w.heap.size w w' := by
  obtain ⟨m, rfl, hm⟩ := nat_u64 hs
  clear hs
  have HX := Lib.hid hx
  have HV := Lib.hid hv
  have HXL := Lib.hid hx.len
  clear hx hv
  obtain ⟨⟨⟨vn, ve, vr, vm⟩, L⟩, a, k, c⟩ := x
  obtain ⟨un, ue, ur, um⟩ := v
  have L1 := ((Grw.refl w).alloc (.cells #[.int .u64 vn, .int .u64 ve, .int .i64 vr, .int .u64 vm, .slice a k c] 34)).below
  have R1 : RcB (w.alloc (.cells #[.int .u64 vn, .int .u64 ve, .int .i64 vr, .int .u64 vm, .slice a k c] 34)) w.heap.size ⟨⟨⟨vn, ve, vr, vm⟩, L⟩, a, k, c⟩ := RcB.new w ⟨⟨⟨vn, ve, vr, vm⟩, L⟩, a, k, c⟩
  have s1 : (w.alloc (.cells #[.int .u64 vn, .int .u64 ve, .int .i64 vr, .int .u64 vm, .slice a k c] 34)).heap.size = w.heap.size + 1 := by simp
  have L2 := ((Grw.refl (w.alloc (.cells #[.int .u64 vn, .int .u64 ve, .int .i64 vr, .int .u64 vm, .slice a k c] 34))).alloc (.cells #[.int .u64 un, .int .u64 ue, .int .i64 ur, .int .u64 um] 31)).below
  have V2 : VwB ((w.alloc (.cells #[.int .u64 vn, .int .u64 ve, .int .i64 vr, .int .u64 vm, .slice a k c] 34)).alloc (.cells #[.int .u64 un, .int .u64 ue, .int .i64 ur, .int .u64 um] 31)) (w.alloc (.cells #[.int .u64 vn, .int .u64 ve, .int .i64 vr, .int .u64 vm, .slice a k c] 34)).heap.size ⟨un, ue, ur, um⟩ := VwB.new (w.alloc (.cells #[.int .u64 vn, .int .u64 ve, .int .i64 vr, .int .u64 vm, .slice a k c] 34)) ⟨un, ue, ur, um⟩
  rw [s1] at V2
  have HM2 := Lib.hid (show MoSt w ((w.alloc (.cells #[.int .u64 vn, .int .u64 ve, .int .i64 vr, .int .u64 vm, .slice a k c] 34)).alloc (.cells #[.int .u64 un, .int .u64 ue, .int .i64 ur, .int .u64 um] 31)) ⟨⟨⟨vn, ve, vr, vm⟩, L⟩, a, k, c⟩ ⟨un, ue, ur, um⟩ from ⟨R1.later L2, V2, L1.trans (L2.mono L1.size)⟩)
  clear L1 R1 s1 L2 V2
  show Calls Try.prog 5 #[.agg #[.int .u64 vn, .int .u64 ve, .int .i64 vr, .int .u64 vm, .slice a k c], .agg #[.int .u64 un, .int .u64 ue, .int .i64 ur, .int .u64 um], .int .u64 (m : Int)] w _
  go_enter Try.func5, Try.ntmps5
  go_upto_region 1 with fail
  generalize (w.alloc (.cells #[.int .u64 vn, .int .u64 ve, .int .i64 vr, .int .u64 vm, .slice a k c] 34)).alloc (.cells #[.int .u64 un, .int .u64 ue, .int .i64 ur, .int .u64 um] 31) = w2 at *
  have PA := awake18 w2
  go_wp2_with fail
  refine PA.mono ?_
  rintro e w3 ⟨rfl, B3⟩
  have HM3 := Lib.hid (HM2.out.later B3)
  clear PA B3 HM2
  have d4 : w3.cell? ⟨w.heap.size, 4, none⟩ = some (.slice a k c) := HM3.out.r.cs.d4
  by_cases hk : 300 < k
  · go_wp2
    go_ret
    exact ⟨rfl, HM3.out.bel⟩
  have PB : Calls Try.prog 23 #[.agg #[.int .u64 vn, .int .u64 ve, .int .i64 vr, .int .u64 vm, .slice a k c], .agg #[.int .u64 un, .int .u64 ue, .int .i64 ur, .int .u64 um]] w3 _ := vadd ⟨⟨⟨vn, ve, vr, vm⟩, L⟩, a, k, c⟩ ⟨un, ue, ur, um⟩ (HX.out.below HM3.out.bel) HV.out (show k ≤ 99999 by omega)
  have q0 := HM3.out.r.cs.d0
  have q1 := HM3.out.r.cs.d1
  have q2 := HM3.out.r.cs.d2
  have q3 := HM3.out.r.cs.d3
  have r0 := HM3.out.v.cs.d0
  have r1 := HM3.out.v.cs.d1
  have r2 := HM3.out.v.cs.d2
  have r3 := HM3.out.v.cs.d3
  simp only at q0 q1 q2 q3 r0 r1 r2 r3
  go_wp2_with fail
  refine PB.mono ?_
  rintro e w4 ⟨Y, rfl, hyp, hyin, hyk, B4⟩
  have HM4 := HM3.out.later B4
  clear PB d4 q0 q1 q2 q3 r0 r1 r2 r3 HM3
  obtain ⟨ok, hok⟩ : ∃ ok, ok = decide (k < 32) := ⟨_, rfl⟩
  rw [← hok]
  have HOK := Lib.hid hok
  have HYP := Lib.hid hyp
  have HYK := Lib.hid (show Y.k ≤ k + 1 from hyk)
  have LA := recW_below w4 Y
  have HM5 := Lib.hid (HM4.later LA)
  have YB5 := Lib.hid (show RcB (recW w4 Y) w4.heap.size Y from RcB.new w4 Y)
  have YI5 := Lib.hid (hyin.below LA)
  have HE := Lib.hid (show w4.alloc (.cells #[.int .u64 (Y.p.last.n : Int), .int .u64 (Y.p.last.e : Int), .int .i64 Y.p.last.r, .int .u64 (Y.p.last.m : Int), .slice Y.a Y.k Y.c] 34) = recW w4 Y from rfl)
  have hyo := hyin.ok
  have HYO := Lib.hid hyo
  unfold valRc encRc
  clear hok hyp hyk hyin LA HM4 B4 hyo
  go_upto_region 6 with fail
  rw [HE.out]
  clear HE
  generalize recW w4 Y = w5 at *
  generalize w4.heap.size = yb at *
  have e0 := YB5.out.cs.d0
  have e1 := YB5.out.cs.d1
  have e2 := YB5.out.cs.d2
  have e3 := YB5.out.cs.d3
  have e4 := YB5.out.cs.d4
  have HNA := Lib.hid (show ∀ n, n ∈ numsR Y.p → nextV [Y.p] ≠ 18446744073709551615 → n < nextV [Y.p] from fun n h1 h2 => next_above Y.p n h1 h2)
  have HYV := Lib.hid (show ok = true → un ∈ numsR Y.p from fun h => by
    rw [HOK.out] at h
    rw [HYP.out]
    unfold addR
    rw [if_neg (by have h1 := of_decide_eq_true h; have : L.length = k := HXL.out; simp only; omega)]
    unfold numsR
    simp)
  go_cut [37] from 24 to 37 (fun s37 wx => s37 = .bool false ∧ MoSt w wx ⟨⟨⟨vn, ve, vr, vm⟩, L⟩, a, k, c⟩ ⟨un, ue, ur, um⟩ ∧ RcB wx yb Y ∧ RcIn wx Y)
  case first =>
    cases ok with
    | false =>
      go_wp2
      go_meet
      exact ⟨rfl, HM5.out, YB5.out, YI5.out⟩
    | true =>
      have P6 := may_one m hm Y w5 YI5.out (by have := HYK.out; omega) (mayV m [Y.p]) rfl
      unfold recW at P6
      have HLE := Lib.hid (show mayV m [Y.p] = true → mayV m [⟨⟨vn, ve, vr, vm⟩, L⟩] = true from fun h => by
        rw [HYP.out] at h
        unfold addR at h
        rw [if_neg (by have h1 := of_decide_eq_true HOK.out.symm; have : L.length = k := HXL.out; simp only; omega)] at h
        exact may_less m _ _ h)
      cases hms : mayV m [Y.p] with
      | false =>
        rw [hms] at P6
        go_wp2_with fail
        refine P6.mono ?_
        rintro e w6 ⟨rfl, B6⟩
        have HM6 := Lib.hid (HM5.out.later B6)
        have YB6 := Lib.hid (YB5.out.later B6)
        have YI6 := Lib.hid (YI5.out.below B6)
        clear P6 B6
        go_wp2
        go_meet
        exact ⟨rfl, HM6.out, YB6.out, YI6.out⟩
      | true =>
        rw [hms] at P6
        have hxs := HLE.out hms
        go_wp2_with fail
        refine P6.mono ?_
        rintro e w6 ⟨rfl, B6⟩
        have HM6 := Lib.hid (HM5.out.later B6)
        have YB6 := Lib.hid (YB5.out.later B6)
        have YI6 := Lib.hid (YI5.out.below B6)
        have P7 := may_one m hm ⟨⟨⟨vn, ve, vr, vm⟩, L⟩, a, k, c⟩ w6 (HX.out.below HM6.out.bel) (show k ≤ 99999 by omega) true hxs
        unfold recW at P7
        simp only at P7
        have q0 := HM6.out.r.cs.d0
        have q1 := HM6.out.r.cs.d1
        have q2 := HM6.out.r.cs.d2
        have q3 := HM6.out.r.cs.d3
        have q4 := HM6.out.r.cs.d4
        simp only at q0 q1 q2 q3 q4
        clear P6 B6 e0 e1 e2 e3 e4
        go_wp2_with fail
        refine P7.mono ?_
        rintro e w7 ⟨rfl, B7⟩
        have HM7 := Lib.hid (HM6.out.later B7)
        have YB7 := Lib.hid (YB6.out.later B7)
        have YI7 := Lib.hid (YI6.out.below B7)
        clear P7 B7
        go_wp2
        go_meet
        exact ⟨rfl, HM7.out, YB7.out, YI7.out⟩
  case rest =>
    obtain ⟨rfl, hc1, hc2, hc3⟩ := hcut
    have HM6 := Lib.hid hc1
    have YB6 := Lib.hid hc2
    have YI6 := Lib.hid hc3
    clear hc1 hc2 hc3 HM5 YB5 YI5 e0 e1 e2 e3 e4
    have P7 := next_one Y wc YI6.out (by have := HYK.out; omega) (nextV [Y.p]) rfl
    unfold recW at P7
    have hnl := nextV_lt [Y.p] (fun r hr => by rw [List.mem_singleton.1 hr]; exact HYO.out)
    obtain ⟨N, hN⟩ : ∃ N, N = nextV [Y.p] := ⟨_, rfl⟩
    rw [← hN] at P7 HNA hnl
    clear hN
    have e0 := YB6.out.cs.d0
    have e1 := YB6.out.cs.d1
    have e2 := YB6.out.cs.d2
    have e3 := YB6.out.cs.d3
    have e4 := YB6.out.cs.d4
    go_wp2_with fail
    refine P7.mono ?_
    rintro e w7 ⟨rfl, B7⟩
    have HM7 := Lib.hid (HM6.out.later B7)
    have YB7 := Lib.hid (YB6.out.later B7)
    have YI7 := Lib.hid (YI6.out.below B7)
    clear P7 B7 e0 e1 e2 e3 e4 HM6 YB6 YI6
    have r0 := HM7.out.v.cs.d0
    have r1 := HM7.out.v.cs.d1
    have r2 := HM7.out.v.cs.d2
    have r3 := HM7.out.v.cs.d3
    simp only at r0 r1 r2 r3
    have e0 := YB7.out.cs.d0
    go_upto_region 9 with fail
    go_cut [58] from 41 to 58 (fun s58 wx => s58 = .bool false ∧ wx = w7)
    case first =>
      by_cases hmx : N = 18446744073709551615
      · subst hmx
        go_wp2
        go_meet
        exact ⟨rfl, rfl⟩
      · have h1 := HNA.out Y.p.last.n (by unfold numsR; exact List.mem_cons_self ..) hmx
        have hmi : ¬(N : Int) = 18446744073709551615 := by omega
        have h1' : ¬(N : Int) ≤ (Y.p.last.n : Int) := by omega
        have hb : ((N : Int) != 18446744073709551615) = true := by simpa using hmi
        cases ok with
        | false =>
          go_wp2
          go_meet
          exact ⟨rfl, rfl⟩
        | true =>
          have h2 := HNA.out un (HYV.out rfl) hmx
          have h2' : ¬(N : Int) ≤ (un : Int) := by omega
          go_wp2
          go_meet
          exact ⟨rfl, rfl⟩
    case rest =>
      obtain ⟨rfl, hw7⟩ := hcut
      rw [hw7]
      clear hw7
      have e1 := YB7.out.cs.d1
      have e2 := YB7.out.cs.d2
      have e3 := YB7.out.cs.d3
      have e4 := YB7.out.cs.d4
      have PO : Calls Try.prog 24 #[.agg #[.int .u64 (Y.p.last.n : Int), .int .u64 (Y.p.last.e : Int), .int .i64 Y.p.last.r, .int .u64 (Y.p.last.m : Int), .slice Y.a Y.k Y.c], .agg #[.int .u64 un, .int .u64 ue, .int .i64 ur, .int .u64 um]] w7 _ := vform Y ⟨un, ue, ur, um⟩ YI7.out HV.out (by have := HYK.out; omega)
      go_wp2_with fail
      refine PO.mono ?_
      rintro e w8 ⟨Z, rfl, hzp, hzin, hzk, B8⟩
      have HM8 := HM7.out.later B8
      clear PO e0 e1 e2 e3 e4 r0 r1 r2 r3
      obtain ⟨⟨zl, zp⟩, za, zk, zc⟩ := Z
      have hzl : zl = ⟨un, ue, ur, um⟩ := congrArg Rp.last hzp
      have HZU := Lib.hid (show ∀ u ∈ zp, un < u.n from fun u hu => form_above Y.p ⟨un, ue, ur, um⟩ u (by rw [← hzp]; exact hu))
      subst hzl
      have LA := ((Grw.refl w8).alloc (.cells #[.int .u64 un, .int .u64 ue, .int .i64 ur, .int .u64 um, .slice za zk zc] 34)).below
      have HM9 := Lib.hid (HM8.later LA)
      have ZB9 := Lib.hid (show RcB (w8.alloc (.cells #[.int .u64 un, .int .u64 ue, .int .i64 ur, .int .u64 um, .slice za zk zc] 34)) w8.heap.size ⟨⟨⟨un, ue, ur, um⟩, zp⟩, za, zk, zc⟩ from RcB.new w8 ⟨⟨⟨un, ue, ur, um⟩, zp⟩, za, zk, zc⟩)
      have ZI9 := Lib.hid (hzin.below LA)
      have HZK := Lib.hid (show zk ≤ 1000 by have := HYK.out; simp only at hzk; omega)
      unfold valRc encRc
      clear hzp hzin hzk LA HM8 B8 HM7 YB7 YI7 HYO HNA HYV
      go_upto_region 13 with fail
      generalize w8.alloc (.cells #[.int .u64 un, .int .u64 ue, .int .i64 ur, .int .u64 um, .slice za zk zc] 34) = w9 at *
      generalize w8.heap.size = zb at *
      have W9 := Lib.hid (Below.refl w9.heap.size w9)
      go_loopw [11] (fun si wr => ∃ j : Nat, j ≤ zk ∧ si = .int .i64 j ∧ Aside (Below w9.heap.size w9 wr)) (fun si _ => zk - (intOf si).toNat)
      case atStart => exact ⟨0, Nat.zero_le _, rfl, W9.out⟩
      case round =>
        obtain ⟨j, hj, rfl, HB⟩ := hrel
        have ZBr := Lib.hid (ZB9.out.later HB.out)
        have HMr := Lib.hid (HM9.out.later HB.out)
        have ZIr := Lib.hid (ZI9.out.below HB.out)
        have d4 : wr.cell? ⟨zb, 4, none⟩ = some (.slice za zk zc) := ZBr.out.cs.d4
        have r0 : wr.cell? ⟨w.heap.size + 1, 0, none⟩ = some (.int .u64 un) := HMr.out.v.cs.d0
        have hzk := HZK.out
        by_cases hlt : j < zk
        · obtain ⟨b, o, u, rfl, hu, hr, huok⟩ := ZIr.out.pend.row hlt
          have hun := HZU.out u (List.mem_of_getElem? hu)
          have c0 : wr.cell? ⟨b, o + j * 4, none⟩ = some (.int .u64 (u.n : Int)) := hr 0 _ rfl
          obtain ⟨q, hq⟩ : ∃ q, q = u.n := ⟨_, rfl⟩
          rw [← hq] at hun c0
          have hle : ¬(q : Int) ≤ (un : Int) := by omega
          clear hu hr huok hq
          go_upto_region 15 with fail
          go_quiet (fail)
          go_wp2
          go_roundw
          case rel => exact ⟨j + 1, by omega, by go_num, HB.out.trans (Below.mono ⟨rfl, rfl, rfl, Nat.le_refl _, fun _ _ => rfl⟩ HB.out.size)⟩
          case measure => simp [intOf]; omega
        · obtain rfl : zk = j := by omega
          go_upto_region 17 with fail
          clear d4 r0 W9 HB
          have HEQ := Lib.hid (show ∀ w' : World, (binOp .eql 31 (.agg #[.int .u64 un, .int .u64 ue, .int .i64 ur, .int .u64 um]) (.agg #[.int .u64 un, .int .u64 ue, .int .i64 ur, .int .u64 um])).run Try.prog w' = .ok (.bool true) w' from fun w' => by
            have := eql_vw ⟨un, ue, ur, um⟩ ⟨un, ue, ur, um⟩ w'
            rw [show decide ((⟨un, ue, ur, um⟩ : Vw) = ⟨un, ue, ur, um⟩) = true from decide_eq_true rfl] at this
            exact this)
          have Z10 : RcB wr.drew zb ⟨⟨⟨un, ue, ur, um⟩, zp⟩, za, zk, zc⟩ := ZBr.out
          have V10 : VwB wr.drew (w.heap.size + 1) ⟨un, ue, ur, um⟩ := HMr.out.v
          have B10 : Below w.heap.size w wr.drew := HMr.out.bel.trans (Below.mono (Grw.refl wr).drew.below HMr.out.bel.size)
          have I10 := ZIr.out.below (Grw.refl wr).drew.below
          refine wp_region_held_drew (S := fun w' => RcB w' zb ⟨⟨⟨un, ue, ur, um⟩, zp⟩, za, zk, zc⟩ ∧ VwB w' (w.heap.size + 1) ⟨un, ue, ur, um⟩) (by kernel_rfl) ⟨Z10, V10⟩ (fun hHeld => ?_)
          clear ZB9 HM9 ZI9 ZBr HMr ZIr
          generalize wr.drew = w10 at *
          cases hzz : decide ((0 : Int) < (zk : Int)) with
          | true =>
            refine vtake (i := 0) (v := (.pointer (some ⟨zb, 0, none⟩))) 78 rfl (by kernel_rfl) (by kernel_rfl) (by kernel_rfl) (by kernel_rfl) (fun _ _ _ h => h) (.inl ⟨by kernel_rfl, fun w' hS => by (go_simp)⟩) hHeld ?_
            (try simp only [Act.put, List.setIfInBounds_toArray, List.set_cons_zero, List.set_cons_succ])
            refine vtake (i := 1) (v := (.agg #[.int .u64 un, .int .u64 ue, .int .i64 ur, .int .u64 um])) 79 rfl (by kernel_rfl) (by kernel_rfl) (by kernel_rfl) (by kernel_rfl) (fun _ _ _ h => h) (.inl ⟨by kernel_rfl, fun w' hS => by (have q := (RcB.cs hS.1); have d0 := q.d0; have d1 := q.d1; have d2 := q.d2; have d3 := q.d3; have d4 := q.d4; simp only at d0 d1 d2 d3 d4; go_simp)⟩) hHeld ?_
            (try simp only [Act.put, List.setIfInBounds_toArray, List.set_cons_zero, List.set_cons_succ])
            refine vtake (i := 2) (v := (.agg #[.int .u64 un, .int .u64 ue, .int .i64 ur, .int .u64 um])) 80 rfl (by kernel_rfl) (by kernel_rfl) (by kernel_rfl) (by kernel_rfl) (fun _ _ _ h => h) (.inl ⟨by kernel_rfl, fun w' hS => by (have q := (VwB.cs hS.2); have d0 := q.d0; have d1 := q.d1; have d2 := q.d2; have d3 := q.d3; simp only at d0 d1 d2 d3; go_simp)⟩) hHeld ?_
            (try simp only [Act.put, List.setIfInBounds_toArray, List.set_cons_zero, List.set_cons_succ])
            refine vtake (i := 3) (v := (.bool true)) 81 rfl (by kernel_rfl) (by kernel_rfl) (by kernel_rfl) (by kernel_rfl) (fun _ _ _ h => h) (.inl ⟨by kernel_rfl, fun w' hS => by (have hq := HEQ.out w'; go_simp)⟩) hHeld ?_
            (try simp only [Act.put, List.setIfInBounds_toArray, List.set_cons_zero, List.set_cons_succ])
            refine vtake (i := 4) (v := (.bool true)) 82 rfl (by kernel_rfl) (by kernel_rfl) (by kernel_rfl) (by kernel_rfl) (fun _ _ _ h => h) (.inl ⟨by kernel_rfl, fun w' hS => by (go_simp)⟩) hHeld ?_
            (try simp only [Act.put, List.setIfInBounds_toArray, List.set_cons_zero, List.set_cons_succ])
            refine vtake (i := 5) (v := (.pointer (some ⟨zb, 4, none⟩))) 83 rfl (by kernel_rfl) (by kernel_rfl) (by kernel_rfl) (by kernel_rfl) (fun _ _ _ h => h) (.inl ⟨by kernel_rfl, fun w' hS => by (go_simp)⟩) hHeld ?_
            (try simp only [Act.put, List.setIfInBounds_toArray, List.set_cons_zero, List.set_cons_succ])
            refine vtake (i := 6) (v := (.slice za zk zc)) 84 rfl (by kernel_rfl) (by kernel_rfl) (by kernel_rfl) (by kernel_rfl) (fun _ _ _ h => h) (.inl ⟨by kernel_rfl, fun w' hS => by (have q := (RcB.cs hS.1); have d0 := q.d0; have d1 := q.d1; have d2 := q.d2; have d3 := q.d3; have d4 := q.d4; simp only at d0 d1 d2 d3 d4; go_simp)⟩) hHeld ?_
            (try simp only [Act.put, List.setIfInBounds_toArray, List.set_cons_zero, List.set_cons_succ])
            refine vtake (i := 7) (v := (.int .i64 (zk : Int))) 85 rfl (by kernel_rfl) (by kernel_rfl) (by kernel_rfl) (by kernel_rfl) (fun _ _ _ h => h) (.inl ⟨by kernel_rfl, fun w' hS => by (go_simp)⟩) hHeld ?_
            (try simp only [Act.put, List.setIfInBounds_toArray, List.set_cons_zero, List.set_cons_succ])
            refine vtake (i := 8) (v := (.bool true)) 86 rfl (by kernel_rfl) (by kernel_rfl) (by kernel_rfl) (by kernel_rfl) (fun _ _ _ h => h) (.inl ⟨by kernel_rfl, fun w' hS => by (have hz0 : 0 < zk := (by have := of_decide_eq_true hzz; omega); go_simp)⟩) hHeld ?_
            (try simp only [Act.put, List.setIfInBounds_toArray, List.set_cons_zero, List.set_cons_succ])
            refine vtake (i := 9) (v := (.bool true)) 87 rfl (by kernel_rfl) (by kernel_rfl) (by kernel_rfl) (by kernel_rfl) (fun _ _ _ h => h) (.inl ⟨by kernel_rfl, fun w' hS => by (go_simp)⟩) hHeld ?_
            (try simp only [Act.put, List.setIfInBounds_toArray, List.set_cons_zero, List.set_cons_succ])
            refine vtake (i := 10) (v := undef) 88 rfl (by kernel_rfl) (by kernel_rfl) (by kernel_rfl) (by kernel_rfl) (fun _ _ _ h => h) (.inr ⟨by kernel_rfl, rfl⟩) hHeld ?_
            (try simp only [Act.put, List.setIfInBounds_toArray, List.set_cons_zero, List.set_cons_succ])
            refine vtake (i := 11) (v := undef) 89 rfl (by kernel_rfl) (by kernel_rfl) (by kernel_rfl) (by kernel_rfl) (fun _ _ _ h => h) (.inr ⟨by kernel_rfl, rfl⟩) hHeld ?_
            (try simp only [Act.put, List.setIfInBounds_toArray, List.set_cons_zero, List.set_cons_succ])
            refine vtake (i := 12) (v := undef) 90 rfl (by kernel_rfl) (by kernel_rfl) (by kernel_rfl) (by kernel_rfl) (fun _ _ _ h => h) (.inr ⟨by kernel_rfl, rfl⟩) hHeld ?_
            (try simp only [Act.put, List.setIfInBounds_toArray, List.set_cons_zero, List.set_cons_succ])
            refine vtake (i := 13) (v := undef) 91 rfl (by kernel_rfl) (by kernel_rfl) (by kernel_rfl) (by kernel_rfl) (fun _ _ _ h => h) (.inr ⟨by kernel_rfl, rfl⟩) hHeld ?_
            (try simp only [Act.put, List.setIfInBounds_toArray, List.set_cons_zero, List.set_cons_succ])
            refine vtake (i := 14) (v := undef) 92 rfl (by kernel_rfl) (by kernel_rfl) (by kernel_rfl) (by kernel_rfl) (fun _ _ _ h => h) (.inr ⟨by kernel_rfl, rfl⟩) hHeld ?_
            (try simp only [Act.put, List.setIfInBounds_toArray, List.set_cons_zero, List.set_cons_succ])
            refine vtake (i := 15) (v := undef) 93 rfl (by kernel_rfl) (by kernel_rfl) (by kernel_rfl) (by kernel_rfl) (fun _ _ _ h => h) (.inr ⟨by kernel_rfl, rfl⟩) hHeld ?_
            (try simp only [Act.put, List.setIfInBounds_toArray, List.set_cons_zero, List.set_cons_succ])
            refine vtake (i := 16) (v := undef) 94 rfl (by kernel_rfl) (by kernel_rfl) (by kernel_rfl) (by kernel_rfl) (fun _ _ _ h => h) (.inr ⟨by kernel_rfl, rfl⟩) hHeld ?_
            (try simp only [Act.put, List.setIfInBounds_toArray, List.set_cons_zero, List.set_cons_succ])
            refine vtake (i := 17) (v := undef) 95 rfl (by kernel_rfl) (by kernel_rfl) (by kernel_rfl) (by kernel_rfl) (fun _ _ _ h => h) (.inr ⟨by kernel_rfl, rfl⟩) hHeld ?_
            (try simp only [Act.put, List.setIfInBounds_toArray, List.set_cons_zero, List.set_cons_succ])
            refine vtake (i := 18) (v := undef) 96 rfl (by kernel_rfl) (by kernel_rfl) (by kernel_rfl) (by kernel_rfl) (fun _ _ _ h => h) (.inr ⟨by kernel_rfl, rfl⟩) hHeld ?_
            (try simp only [Act.put, List.setIfInBounds_toArray, List.set_cons_zero, List.set_cons_succ])
            refine vtake (i := 19) (v := (.bool true)) 97 rfl (by kernel_rfl) (by kernel_rfl) (by kernel_rfl) (by kernel_rfl) (fun _ _ _ h => h) (.inl ⟨by kernel_rfl, fun w' hS => by (go_simp)⟩) hHeld ?_
            (try simp only [Act.put, List.setIfInBounds_toArray, List.set_cons_zero, List.set_cons_succ])
            refine vtake (i := 20) (v := (.bool true)) 98 rfl (by kernel_rfl) (by kernel_rfl) (by kernel_rfl) (by kernel_rfl) (fun _ _ _ h => h) (.inl ⟨by kernel_rfl, fun w' hS => by (go_simp)⟩) hHeld ?_
            (try simp only [Act.put, List.setIfInBounds_toArray, List.set_cons_zero, List.set_cons_succ])
            refine vtake (i := 21) (v := (.bool true)) 6 rfl (by kernel_rfl) (by kernel_rfl) (by kernel_rfl) (by kernel_rfl) (fun _ _ _ h => h) (.inl ⟨by kernel_rfl, fun w' hS => by (go_simp)⟩) hHeld ?_
            (try simp only [Act.put, List.setIfInBounds_toArray, List.set_cons_zero, List.set_cons_succ])
            refine wpAnyH_done (by kernel_rfl) ?_ _
            have HBE := Lib.hid B10
            clear B10 hHeld Z10 V10 I10
            go_wp2
            go_ret
            exact ⟨rfl, HBE.out⟩
          | false =>
            have hz1 : ¬0 < zk := fun h => by have := of_decide_eq_false hzz; omega
            obtain rfl : zk = 0 := by omega
            have hzp0 : zp = [] := List.eq_nil_of_length_eq_zero I10.len
            subst hzp0
            have hum := HV.out.m
            simp only at hum
            refine vtake (i := 0) (v := (.pointer (some ⟨zb, 0, none⟩))) 78 rfl (by kernel_rfl) (by kernel_rfl) (by kernel_rfl) (by kernel_rfl) (fun _ _ _ h => h) (.inl ⟨by kernel_rfl, fun w' hS => by (go_simp)⟩) hHeld ?_
            (try simp only [Act.put, List.setIfInBounds_toArray, List.set_cons_zero, List.set_cons_succ])
            refine vtake (i := 1) (v := (.agg #[.int .u64 un, .int .u64 ue, .int .i64 ur, .int .u64 um])) 79 rfl (by kernel_rfl) (by kernel_rfl) (by kernel_rfl) (by kernel_rfl) (fun _ _ _ h => h) (.inl ⟨by kernel_rfl, fun w' hS => by (have q := (RcB.cs hS.1); have d0 := q.d0; have d1 := q.d1; have d2 := q.d2; have d3 := q.d3; have d4 := q.d4; simp only at d0 d1 d2 d3 d4; go_simp)⟩) hHeld ?_
            (try simp only [Act.put, List.setIfInBounds_toArray, List.set_cons_zero, List.set_cons_succ])
            refine vtake (i := 2) (v := (.agg #[.int .u64 un, .int .u64 ue, .int .i64 ur, .int .u64 um])) 80 rfl (by kernel_rfl) (by kernel_rfl) (by kernel_rfl) (by kernel_rfl) (fun _ _ _ h => h) (.inl ⟨by kernel_rfl, fun w' hS => by (have q := (VwB.cs hS.2); have d0 := q.d0; have d1 := q.d1; have d2 := q.d2; have d3 := q.d3; simp only at d0 d1 d2 d3; go_simp)⟩) hHeld ?_
            (try simp only [Act.put, List.setIfInBounds_toArray, List.set_cons_zero, List.set_cons_succ])
            refine vtake (i := 3) (v := (.bool true)) 81 rfl (by kernel_rfl) (by kernel_rfl) (by kernel_rfl) (by kernel_rfl) (fun _ _ _ h => h) (.inl ⟨by kernel_rfl, fun w' hS => by (have hq := HEQ.out w'; go_simp)⟩) hHeld ?_
            (try simp only [Act.put, List.setIfInBounds_toArray, List.set_cons_zero, List.set_cons_succ])
            refine vtake (i := 4) (v := (.bool true)) 82 rfl (by kernel_rfl) (by kernel_rfl) (by kernel_rfl) (by kernel_rfl) (fun _ _ _ h => h) (.inl ⟨by kernel_rfl, fun w' hS => by (go_simp)⟩) hHeld ?_
            (try simp only [Act.put, List.setIfInBounds_toArray, List.set_cons_zero, List.set_cons_succ])
            refine vtake (i := 5) (v := (.pointer (some ⟨zb, 4, none⟩))) 83 rfl (by kernel_rfl) (by kernel_rfl) (by kernel_rfl) (by kernel_rfl) (fun _ _ _ h => h) (.inl ⟨by kernel_rfl, fun w' hS => by (go_simp)⟩) hHeld ?_
            (try simp only [Act.put, List.setIfInBounds_toArray, List.set_cons_zero, List.set_cons_succ])
            refine vtake (i := 6) (v := (.slice za 0 zc)) 84 rfl (by kernel_rfl) (by kernel_rfl) (by kernel_rfl) (by kernel_rfl) (fun _ _ _ h => h) (.inl ⟨by kernel_rfl, fun w' hS => by (have q := (RcB.cs hS.1); have d0 := q.d0; have d1 := q.d1; have d2 := q.d2; have d3 := q.d3; have d4 := q.d4; simp only at d0 d1 d2 d3 d4; go_simp)⟩) hHeld ?_
            (try simp only [Act.put, List.setIfInBounds_toArray, List.set_cons_zero, List.set_cons_succ])
            refine vtake (i := 7) (v := (.int .i64 ((0 : Nat) : Int))) 85 rfl (by kernel_rfl) (by kernel_rfl) (by kernel_rfl) (by kernel_rfl) (fun _ _ _ h => h) (.inl ⟨by kernel_rfl, fun w' hS => by (go_simp)⟩) hHeld ?_
            (try simp only [Act.put, List.setIfInBounds_toArray, List.set_cons_zero, List.set_cons_succ])
            refine vtake (i := 8) (v := (.bool false)) 86 rfl (by kernel_rfl) (by kernel_rfl) (by kernel_rfl) (by kernel_rfl) (fun _ _ _ h => h) (.inl ⟨by kernel_rfl, fun w' hS => by (go_simp)⟩) hHeld ?_
            (try simp only [Act.put, List.setIfInBounds_toArray, List.set_cons_zero, List.set_cons_succ])
            refine vtake (i := 9) (v := (.bool false)) 87 rfl (by kernel_rfl) (by kernel_rfl) (by kernel_rfl) (by kernel_rfl) (fun _ _ _ h => h) (.inl ⟨by kernel_rfl, fun w' hS => by (go_simp)⟩) hHeld ?_
            (try simp only [Act.put, List.setIfInBounds_toArray, List.set_cons_zero, List.set_cons_succ])
            refine vtake (i := 10) (v := (.int .u64 (m : Int))) 88 rfl (by kernel_rfl) (by kernel_rfl) (by kernel_rfl) (by kernel_rfl) (fun _ _ _ h => h) (.inl ⟨by kernel_rfl, fun w' hS => by (go_simp)⟩) hHeld ?_
            (try simp only [Act.put, List.setIfInBounds_toArray, List.set_cons_zero, List.set_cons_succ])
            refine vtake (i := 11) (v := (.agg #[.int .u64 un, .int .u64 ue, .int .i64 ur, .int .u64 um, .slice za 0 zc])) 89 rfl (by kernel_rfl) (by kernel_rfl) (by kernel_rfl) (by kernel_rfl) (fun _ _ _ h => h) (.inl ⟨by kernel_rfl, fun w' hS => by (have q := (RcB.cs hS.1); have d0 := q.d0; have d1 := q.d1; have d2 := q.d2; have d3 := q.d3; have d4 := q.d4; simp only at d0 d1 d2 d3 d4; go_simp)⟩) hHeld ?_
            (try simp only [Act.put, List.setIfInBounds_toArray, List.set_cons_zero, List.set_cons_succ])
            refine vtake (i := 14) (v := (.int .u64 (m : Int))) 92 rfl (by kernel_rfl) (by kernel_rfl) (by kernel_rfl) (by kernel_rfl) (fun _ _ _ h => h) (.inl ⟨by kernel_rfl, fun w' hS => by (go_simp)⟩) hHeld ?_
            (try simp only [Act.put, List.setIfInBounds_toArray, List.set_cons_zero, List.set_cons_succ])
            refine vtake (i := 15) (v := (.pointer (some ⟨w.heap.size + 1, 3, none⟩))) 93 rfl (by kernel_rfl) (by kernel_rfl) (by kernel_rfl) (by kernel_rfl) (fun _ _ _ h => h) (.inl ⟨by kernel_rfl, fun w' hS => by (go_simp)⟩) hHeld ?_
            (try simp only [Act.put, List.setIfInBounds_toArray, List.set_cons_zero, List.set_cons_succ])
            refine vtake (i := 16) (v := (.int .u64 (um : Int))) 94 rfl (by kernel_rfl) (by kernel_rfl) (by kernel_rfl) (by kernel_rfl) (fun _ _ _ h => h) (.inl ⟨by kernel_rfl, fun w' hS => by (have q := (VwB.cs hS.2); have d0 := q.d0; have d1 := q.d1; have d2 := q.d2; have d3 := q.d3; simp only at d0 d1 d2 d3; go_simp)⟩) hHeld ?_
            (try simp only [Act.put, List.setIfInBounds_toArray, List.set_cons_zero, List.set_cons_succ])
            obtain ⟨bb, hbb⟩ : ∃ bb, bb = most m um := ⟨_, rfl⟩
            have HBB := Lib.hid hbb
            clear hbb
            have HMN := Lib.hid (show mayV m [(⟨⟨⟨un, ue, ur, um⟩, []⟩, za, 0, zc⟩ : Rc).p] = bb by rw [HBB.out]; exact may_new m _)
            refine wpAnyH_ready (rs := [12]) (by kernel_rfl) (by simp) (AllReadyH.cons rfl (fun K hK => ?_) AllReadyH.nil)
            clear hHeld
            rw [if_pos (by kernel_rfl)]
            go_simp
            have L := ((Grw.refl w10).alloc (.cells #[.int .u64 un, .int .u64 ue, .int .i64 ur, .int .u64 um, .slice za 0 zc] 34)).below
            have HP := Lib.hid (may_one m hm ⟨⟨⟨un, ue, ur, um⟩, []⟩, za, 0, zc⟩ w10 (I10) (Nat.zero_le _) bb HMN.out)
            unfold recW at HP
            have Z11 := Z10.later L
            have V11 := V10.later L
            have B11 := B10.trans (L.mono B10.size)
            have HLB := Lib.hid (show Below w.heap.size w w10 from B10)
            clear L
            generalize hw : w10.alloc (.cells #[.int .u64 un, .int .u64 ue, .int .i64 ur, .int .u64 um, .slice za 0 zc] 34) = w11 at *
            refine hK.out _ _ ⟨Z11, V11⟩ (fun hHeld => ?_)
            clear hK K
            (try simp only [Act.put, List.setIfInBounds_toArray, List.set_cons_zero, List.set_cons_succ])
            refine wpAnyH_ready (rs := [13]) (by kernel_rfl) (by simp) (AllReadyH.cons rfl (fun K hK => ?_) AllReadyH.nil)
            clear hHeld
            rw [if_pos (by kernel_rfl)]
            go_simp
            refine HP.out.mono ?_
            rintro e w12 ⟨rfl, BQ⟩
            have Z12 := Z10.later BQ
            have V12 := V10.later BQ
            have B12 := B10.trans (BQ.mono B10.size)
            clear BQ
            refine hK.out _ _ ⟨Z12, V12⟩ (fun hHeld => ?_)
            clear hK K
            (try simp only [Act.put, List.setIfInBounds_toArray, List.set_cons_zero, List.set_cons_succ])
            refine wpAnyH_ready (rs := [17]) (by kernel_rfl) (by simp) (AllReadyH.cons rfl (fun K hK => ?_) AllReadyH.nil)
            rw [if_pos (by kernel_rfl)]
            have PQ := most_any m um w12 hm hum
            rw [← HBB.out] at PQ
            go_simp
            refine PQ.mono ?_
            rintro e wq ⟨rfl, rfl⟩
            refine hK.out _ _ ⟨Z12, V12⟩ (fun hHeld => ?_)
            clear hK K PQ
            (try simp only [Act.put, List.setIfInBounds_toArray, List.set_cons_zero, List.set_cons_succ])
            refine vtake (i := 18) (v := (.bool true)) 96 rfl (by kernel_rfl) (by kernel_rfl) (by kernel_rfl) (by kernel_rfl) (fun _ _ _ h => h) (.inl ⟨by kernel_rfl, fun w' hS => by (have hq : (bb == bb) = true := (by simp); go_simp)⟩) hHeld ?_
            (try simp only [Act.put, List.setIfInBounds_toArray, List.set_cons_zero, List.set_cons_succ])
            refine vtake (i := 19) (v := (.bool true)) 97 rfl (by kernel_rfl) (by kernel_rfl) (by kernel_rfl) (by kernel_rfl) (fun _ _ _ h => h) (.inl ⟨by kernel_rfl, fun w' hS => by (go_simp)⟩) hHeld ?_
            (try simp only [Act.put, List.setIfInBounds_toArray, List.set_cons_zero, List.set_cons_succ])
            refine vtake (i := 20) (v := (.bool true)) 98 rfl (by kernel_rfl) (by kernel_rfl) (by kernel_rfl) (by kernel_rfl) (fun _ _ _ h => h) (.inl ⟨by kernel_rfl, fun w' hS => by (go_simp)⟩) hHeld ?_
            (try simp only [Act.put, List.setIfInBounds_toArray, List.set_cons_zero, List.set_cons_succ])
            refine vtake (i := 21) (v := (.bool true)) 6 rfl (by kernel_rfl) (by kernel_rfl) (by kernel_rfl) (by kernel_rfl) (fun _ _ _ h => h) (.inl ⟨by kernel_rfl, fun w' hS => by (go_simp)⟩) hHeld ?_
            (try simp only [Act.put, List.setIfInBounds_toArray, List.set_cons_zero, List.set_cons_succ])
            refine wpAnyH_done (by kernel_rfl) ?_ _
            have HBE := Lib.hid B12
            clear hHeld
            go_wp2
            go_ret
            exact ⟨rfl, HBE.out⟩
end Go.Proofs.Ytlaenabckpjikaa
