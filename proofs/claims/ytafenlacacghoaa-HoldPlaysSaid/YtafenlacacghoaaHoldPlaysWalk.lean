/- The walk of HoldPlays. (Written by wip/gen_holdplays.py.) -/
import Derived.Test.YtafenlacacghoaaHpKit
import Derived.Test.YtafenlacacghoaaHdAwake
set_option linter.unusedVariables false
set_option linter.unusedSimpArgs false
namespace Go.Proofs.Ytafenlacacghoaa
open Go.RowKit Go.Sort

set_option maxHeartbeats 8000000 in
set_option maxRecDepth 100000 in
theorem plays_core (ao : Option Addr) (len cap : Nat) (l : List Ha) (p : Int) (seq : Nat) (hseq : seq < 4294967296) (most : Int) (m0 : -9223372036854775808 ≤ most) (m1 : most ≤ 9223372036854775807) (kn kp : Int) (w : World) (hl : Lst encA 9 w ao len l) (hok : ∀ a ∈ l, a.ok w) :
    Calls Try.prog 3 #[.slice ao len cap, .int .i64 p, .int .u32 (seq : Int), .int .i64 most, .agg #[.int .u64 kn, .int .i64 kp]] w fun e w' => e = .returned (.bool true) ∧ Below w.heap.size w w' := by
  have mixed : Try.prog.follows .mixedOrders = true := by kernel_rfl
  have hz := rh_zero
  have LB := ((Grw.refl w).alloc (.cells #[.int .u64 kn, .int .i64 kp] 26)).below
  have hk0 : (w.alloc (.cells #[.int .u64 kn, .int .i64 kp] 26)).cell? ⟨w.heap.size, 0, none⟩ = some (.int .u64 kn) := by simp
  have hk1 : (w.alloc (.cells #[.int .u64 kn, .int .i64 kp] 26)).cell? ⟨w.heap.size, 1, none⟩ = some (.int .i64 kp) := by simp
  have hks : w.heap.size < (w.alloc (.cells #[.int .u64 kn, .int .i64 kp] 26)).heap.size := by simp
  have PA := hawake (w.alloc (.cells #[.int .u64 kn, .int .i64 kp] 26))
  have HL := Lib.hid (Lst.below hl LB)
  have HO := Lib.hid (fun a ha => (hok a ha).below12 LB : ∀ a ∈ l, a.ok (w.alloc (.cells #[.int .u64 kn, .int .i64 kp] 26)))
  have HK := Lib.hid (And.intro hks (And.intro hk0 hk1))
  have HLB := Lib.hid LB
  clear hl hok hk0 hk1 hks LB
  go_enter Try.func3, Try.ntmps3
  go_upto_region 1 with fail
  generalize hkb : w.heap.size = kb at *
  have HKE := Lib.hid hkb
  clear hkb
  generalize w.alloc (.cells #[.int .u64 kn, .int .i64 kp] 26) = W at *
  go_wp2_with fail
  refine PA.mono ?_
  rintro e w1 ⟨rfl, B1⟩
  have PF := hfew ao len cap l w1 (HL.out.below B1)
  have HB1 := Lib.hid B1
  clear PA B1
  go_wp2_with fail
  refine PF.mono ?_
  rintro e w2 ⟨h2, B2⟩
  have HB2 := Lib.hid (HB1.out.trans (B2.mono HB1.out.size))
  clear PF B2 HB1
  rcases h2 with rfl | ⟨rfl, hlen, hdl⟩
  · have hkb := HKE.out
    subst hkb
    go_wp2
    go_ret
    exact ⟨rfl, HLB.out.trans (HB2.out.mono HLB.out.size)⟩
  have HDL := Lib.hid hdl
  have PN := hs_new w2
  clear hdl
  go_wp2_with fail
  refine PN.mono ?_
  rintro e w3 ⟨rfl, hh, B3⟩
  have LZ := ((Grw.refl w3).alloc (.cells (rhC slNil (fun _ => 0)).toArray 34)).below
  have hs3 : w2.heap.size < w3.heap.size := hh.lim _ rfl
  have PM4 : Hid (PlayM W (w3.alloc (.cells (rhC slNil (fun _ => 0)).toArray 34)) (fun k => k = w2.heap.size) w3.heap.size w2.heap.size 0 hs0 [] (fun _ => 0) slNil) := Lib.hid
    ⟨hh.below LZ, fun k hk => by subst hk; exact HB2.out.size, fun h => by omega, fun x hx => by simp [slNil] at hx, RhB.new w3 slNil (fun _ => 0), by have := HB2.out.size; omega, SlotAt.nil _, fun x hx => by simp [slNil] at hx,
      HB2.out.trans ((B3.trans (LZ.mono B3.size)).mono HB2.out.size), Nat.le_refl _, fun m hm => by cases hm⟩
  clear PN hh B3 LZ hs3
  go_upto_region 7 with fail
  generalize w3.alloc (.cells (rhC slNil (fun _ => 0)).toArray 34) = w4 at *
  generalize w3.heap.size = f at *
  generalize w2.heap.size = g at *
  go_wp2
  go_loopw [13] (fun si wr => ∃ k : Nat, k ≤ len ∧ si = .int .i64 k ∧ Hid (∃ F S L lo t, PlayM W wr F f g k S L lo t ∧ PRel S L lo)) (fun si _ => len - (intOf si).toNat)
  case atStart => exact ⟨0, Nat.zero_le _, rfl, Lib.hid ⟨_, hs0, [], _, slNil, PM4.out, PRel.start⟩⟩
  case round =>
    obtain ⟨k, hk, rfl, HST⟩ := hrel
    clear PM4
    by_cases hlt : k < len
    · obtain ⟨b, o, x, rfl, hx, hb, hc⟩ := HL.out.atA hlt
      have hxm := List.mem_of_getElem? hx
      have HC := Lib.hid hc
      have HOK := Lib.hid (HO.out x hxm)
      have HMD := Lib.hid (HDL.out x hxm)
      clear hx hxm hc hb
      obtain ⟨dr, p', upto, ⟨mf, mq, ms, mv, ma, mdl, mdc, md, mt⟩⟩ := x
      simp only at HMD
      cases dr with
      | true =>
        obtain ⟨F, S0, L, lo0, t, HP, HRL⟩ := HST.out
        have HP0 := Lib.hid HP
        have REL0 := Lib.hid HRL
        have hcr : ∀ c v, (encA ⟨true, p', upto, ⟨mf, mq, ms, mv, ma, mdl, mdc, md, mt⟩⟩)[c]? = some v → wr.cell? ⟨b, o + k * 9 + c, none⟩ = some v := fun c v hv => cell_later HP.bel (HC.out c v hv)
        have c0 := hcr 0 _ rfl
        have c1 := hcr 1 _ rfl
        have c2 := hcr 2 _ rfl
        have c3 := hcr 3 _ rfl
        have c4 := hcr 4 _ rfl
        have c5 := hcr 5 _ rfl
        have c6 := hcr 6 _ rfl
        have c7 := hcr 7 _ rfl
        have c8 := hcr 8 _ rfl
        rw [Nat.add_zero] at c0
        simp only at c0 c1 c2 c3 c4 c5 c6 c7 c8
        have LA := ((Grw.refl wr).alloc (.cells #[.bool true, .int .i64 p', .int .u32 (upto : Int), .int .i64 mf, .int .u32 mq, .int .u64 ms, .int .i64 mv, .slice ma mdl mdc, .string mt] 39)).below
        have PA := Lib.hid (HP.later LA)
        have AA := Lib.hid (AcB.new wr ⟨true, p', upto, ⟨mf, mq, ms, mv, ma, mdl, mdc, md, mt⟩⟩)
        simp only at AA
        have HSU := Lib.hid LA.size
        have HWR := Lib.hid HP.bel.size
        have HNF := Lib.hid HP.rf.lt
        have HNF2 := Lib.hid (show wr.heap.size ≠ f from by have := HP.rf.lt; omega)
        have HNM := Lib.hid AA.out.lt
        go_upto_region 11 with fail
        clear hcr c0 c1 c2 c3 c4 c5 c6 c7 c8 LA HP HRL HST
        generalize wr.alloc (.cells #[.bool true, .int .i64 p', .int .u32 (upto : Int), .int .i64 mf, .int .u32 mq, .int .u64 ms, .int .i64 mv, .slice ma mdl mdc, .string mt] 39) = u0 at *
        obtain ⟨ab, hab⟩ : ∃ ab, ab = wr.heap.size := ⟨_, rfl⟩
        rw [← hab] at AA HNF HNF2 HNM
        try rw [← hab]
        have HAB := Lib.hid hab
        clear hab

        have P0 := hs_drop PA.out.h (by omega) p' upto HOK.out.u
        have d0 := AA.out.own.at_ 0 _ rfl
        have d1 := AA.out.own.at_ 1 _ rfl
        have d2 := AA.out.own.at_ 2 _ rfl
        simp only at d0 d1 d2
        go_wp2_with fail
        refine P0.mono ?_
        rintro e u1 ⟨rfl, hh, hc⟩
        have PB := Lib.hid (PA.out.prog (Nat.le_succ k) (hh.le (Nat.le_succ k)) (fun j hj => .inl hj) hc)
        have AB := Lib.hid (AA.out.kept (PA.out.keep hc ab AA.out.lt (HP0.out.noF ab (by have := HAB.out; omega))))
        clear P0 hh hc PA AA d0 d1 d2
        have d1 := AB.out.own.at_ 1 _ rfl
        have d2 := AB.out.own.at_ 2 _ rfl
        simp only at d1 d2
        have P1 := rh_drop t lo0 L p' upto HOK.out.u u1 PB.out.lst (by have := PB.out.sn; omega)
        go_upto_region 13 with fail
        go_wp2_with (refine load_rh rfl (.tmp 12) rfl f t lo0 rfl PB.out.rf ?_)
        refine P1.mono ?_
        rintro e u2 ⟨rfl, B2⟩
        have PC := Lib.hid (PB.out.later B2)
        go_upto_region 22 with (refine store_rh rfl (.tmp 12) (.tmp 56) rfl f t (dropLo lo0 L p' upto) rfl rfl PC.out.rf ?_)
        have PM := Lib.hid (PB.out.doc (lo' := dropLo lo0 L p' upto) B2 (PB.out.row.below B2) (.inl rfl) PB.out.few PB.out.deps)
        have AC : Hid (AcB (u2.setRow f (rhC t (dropLo lo0 L p' upto)).toArray) ab ⟨true, p', upto, ⟨mf, mq, ms, mv, ma, mdl, mdc, md, mt⟩⟩) := Lib.hid ((AB.out.below B2).kept (setRow_other _ _ _ _ HNF2.out))
        have REL := Lib.hid (REL0.out.drop p' upto)
        clear d1 d2 P1 PB PC AB B2 REL0
        obtain ⟨S, hS⟩ : ∃ S, S = dropS S0 p' upto := ⟨_, rfl⟩
        obtain ⟨lo, hlo⟩ : ∃ lo, lo = dropLo lo0 L p' upto := ⟨_, rfl⟩
        rw [← hS] at PM REL
        rw [← hlo] at PM REL AC
        try rw [← hlo]
        clear hS hlo
        generalize u2.setRow f (rhC t lo).toArray = v0 at *

        have P1 := hs_get PM.out.h (by omega) p seq hseq
        rw [REL.out.get p seq] at P1
        go_wp2_with fail
        refine P1.mono ?_
        rintro e v1 hs
        obtain ⟨x, bx, rfl, hx1, B1⟩ := getP_of hs
        have PM1 := Lib.hid (PM.out.later B1)
        have AC1 := Lib.hid (AC.out.below B1)
        have HX1 := Lib.hid hx1
        clear P1 hs hx1 B1 PM AC
        obtain ⟨xf, xq, xs, xv, xa, xdl, xdc, xd, xt⟩ := x
        have L2 := ((Grw.refl v1).alloc (.cells #[.int .i64 xf, .int .u32 xq, .int .u64 xs, .int .i64 xv, .slice xa xdl xdc, .string xt] 37)).below
        have M2 := Lib.hid (MgB.new v1 ⟨xf, xq, xs, xv, xa, xdl, xdc, xd, xt⟩)
        have PM2 := Lib.hid (PM1.out.later L2)
        have AC2 := Lib.hid (AC1.out.below L2)
        have HX2 := Lib.hid (show (findA L lo p seq = none ∧ (⟨xf, xq, xs, xv, xa, xdl, xdc, xd, xt⟩ : Mg) = zeroG ∧ bx = false) ∨ ∃ m, findA L lo p seq = some m ∧ strip ⟨xf, xq, xs, xv, xa, xdl, xdc, xd, xt⟩ = strip m ∧ DpIn (v1.alloc (.cells #[.int .i64 xf, .int .u32 xq, .int .u64 xs, .int .i64 xv, .slice xa xdl xdc, .string xt] 37)) ⟨xf, xq, xs, xv, xa, xdl, xdc, xd, xt⟩ ∧ (⟨xf, xq, xs, xv, xa, xdl, xdc, xd, xt⟩ : Mg).dl ≤ 1048576 ∧ bx = true from HX1.out.imp id fun ⟨m, h1, h2, h3, h4, h5⟩ => ⟨m, h1, h2, Lst.below h3 L2, h4, h5⟩)
        clear L2 PM1 AC1 HX1
        unfold valG
        simp only [encG]
        go_upto_region 23 with fail
        simp only at M2
        generalize v1.alloc (.cells #[.int .i64 xf, .int .u32 xq, .int .u64 xs, .int .i64 xv, .slice xa xdl xdc, .string xt] 37) = v2 at *
        generalize v1.heap.size = xb at *
        have P2 := rh_get t lo L p seq hseq v2 PM2.out.lst (by have := PM2.out.sn; omega) REL.out.proc
        go_wp2_with (refine load_rh rfl (.tmp 12) rfl f t lo rfl PM2.out.rf ?_)
        refine P2.mono ?_
        rintro e v3 hs
        obtain ⟨y, bY, rfl, hy1, B3⟩ := getR_of hs
        have PM3 := Lib.hid (PM2.out.later B3)
        have AC3 := Lib.hid (AC2.out.below B3)
        have M3 := Lib.hid (MgB.later M2.out B3)
        have HXY := two_of (HX2.out.imp id fun ⟨m, h1, h2, h3, h4, h5⟩ => ⟨m, h1, h2, Lst.below h3 B3, h4, h5⟩) hy1 (fun m hm => PM3.out.dp m (findA_mem p seq hm))
        obtain ⟨rfl, HT⟩ := HXY
        have HT3 := Lib.hid HT
        clear P2 hs hy1 B3 PM2 AC2 M2 HX2 HT
        obtain ⟨yf, yq, ys, yv, ya, ydl, ydc, yd, yt⟩ := y
        have L4 := ((Grw.refl v3).alloc (.cells #[.int .i64 yf, .int .u32 yq, .int .u64 ys, .int .i64 yv, .slice ya ydl ydc, .string yt] 37)).below
        have N4 := Lib.hid (MgB.new v3 ⟨yf, yq, ys, yv, ya, ydl, ydc, yd, yt⟩)
        have M4 := Lib.hid (MgB.later M3.out L4)
        have PM4 := Lib.hid (PM3.out.later L4)
        have AC4 := Lib.hid (AC3.out.below L4)
        have HT4 := Lib.hid (HT3.out.below L4)
        clear L4 PM3 AC3 M3 HT3
        unfold valG
        simp only [encG]
        go_upto_region 24 with fail
        generalize v3.alloc (.cells #[.int .i64 yf, .int .u32 yq, .int .u64 ys, .int .i64 yv, .slice ya ydl ydc, .string yt] 37) = v4 at *
        generalize v3.heap.size = yb at *
        have hxl := M4.out.lt
        have hyl := N4.out.lt
        have hal := AC4.out.lt
        have x0 := fun n os => cell_form hxl (M4.out.own.at_ 0 _ rfl) n os
        have x1 := fun n os => cell_form hxl (M4.out.own.at_ 1 _ rfl) n os
        have x2 := fun n os => cell_form hxl (M4.out.own.at_ 2 _ rfl) n os
        have x3 := fun n os => cell_form hxl (M4.out.own.at_ 3 _ rfl) n os
        have x4 := fun n os => cell_form hxl (M4.out.own.at_ 4 _ rfl) n os
        have x5 := fun n os => cell_form hxl (M4.out.own.at_ 5 _ rfl) n os
        have y0 := fun n os => cell_form hyl (N4.out.own.at_ 0 _ rfl) n os
        have y1 := fun n os => cell_form hyl (N4.out.own.at_ 1 _ rfl) n os
        have y2 := fun n os => cell_form hyl (N4.out.own.at_ 2 _ rfl) n os
        have y3 := fun n os => cell_form hyl (N4.out.own.at_ 3 _ rfl) n os
        have y4 := fun n os => cell_form hyl (N4.out.own.at_ 4 _ rfl) n os
        have y5 := fun n os => cell_form hyl (N4.out.own.at_ 5 _ rfl) n os
        have a1 := fun n os => cell_form hal (AC4.out.own.at_ 1 _ rfl) n os
        simp only at x0 x1 x2 x3 x4 x5 y0 y1 y2 y3 y4 y5 a1
        have EF := Lib.hid (PM4.out.rf.form)
        have hcnt := REL.out.cntI p'
        have K1 : Hid (∀ n os, Calls Try.prog 17 #[.agg #[.int .i64 xf, .int .u32 xq, .int .u64 xs, .int .i64 xv, .slice xa xdl xdc, .string xt], .agg #[.int .i64 yf, .int .u32 yq, .int .u64 ys, .int .i64 yv, .slice ya ydl ydc, .string yt]] (grow (atD v4 n) os) fun e w' => e = .returned (.bool true) ∧ Grw (grow (atD v4 n) os) w') := Lib.hid fun n os => by
          have hb := below_of_form v4 n os
          have := sameG_any ⟨xf, xq, xs, xv, xa, xdl, xdc, xd, xt⟩ ⟨yf, yq, ys, yv, ya, ydl, ydc, yd, yt⟩ (grow (atD v4 n) os) (Lst.below HT4.out.dx hb) (Lst.below HT4.out.dy hb) HT4.out.few
          rw [HT4.out.same] at this
          exact this
        have K2 : Hid (∀ n os, Calls Try.prog 18 #[.pointer (some ⟨g, 0, none⟩), .int .i64 p'] (grow (atD v4 n) os) fun e w' => e = .returned (.int .u32 (cntA L p' : Nat)) ∧ Below (grow (atD v4 n) os).heap.size (grow (atD v4 n) os) w') := Lib.hid fun n os => by
          have := hs_count (PM4.out.form n os).h (by omega) p'
          rw [hcnt] at this
          exact this.mono fun e w' hh => ⟨hh.1, hh.2 ▸ Below.refl _ _⟩
        have K3 : Hid (∀ n os, Calls Try.prog 19 #[.agg (rhC t lo).toArray, .int .i64 p'] (grow (atD v4 n) os) fun e w' => e = .returned (.int .u32 (cntA L p' : Nat)) ∧ Grw (grow (atD v4 n) os) w') := Lib.hid fun n os => rh_count t lo L p' _ (PM4.out.form n os).lst (by have := PM4.out.sn; omega)
        have q1 : ((cntA L p' : Int) != (cntA L p' : Int)) = false := by simp
        have q2 : (bx != bx) = false := by cases bx <;> rfl
        generalize cntA L p' = cn at *
        refine wp_region_quiet_below (by kernel_rfl) (by kernel_rfl) ?_
        repeat (first | (refine quiet_load_rh (by rfl) (.tmp 12) rfl f t lo rfl EF.out ?_) | quiet_step ((first | (go_at_call 17; exact calls_grw (K1.out _ _)) | (go_at_call 18; exact calls_below (K2.out _ _)) | (go_at_call 19; exact calls_grw (K3.out _ _)))))
        refine wpQuiet_nil ?_
        intro _ hw'
        obtain ⟨⟨nq, osq⟩, hw''⟩ := hw'
        subst hw''
        have PM5 := Lib.hid (PM4.out.form nq osq)
        clear x0 x1 x2 x3 x4 x5 y0 y1 y2 y3 y4 y5 a1 K1 K2 K3 EF q1 q2 hcnt hxl hyl hal M4 N4 AC4 HT4 PM4
        generalize (grow (atD v4 nq) osq) = v5 at *
        go_upto_region 26 with fail
        have hkey : v5.cell? ⟨kb, 0, none⟩ = some (.int .u64 kn) ∧ v5.cell? ⟨kb, 1, none⟩ = some (.int .i64 kp) := ⟨cell_later PM5.out.bel HK.out.2.1, cell_later PM5.out.bel HK.out.2.2⟩
        refine wp_region_held_drew (S := fun w' => w'.cell? ⟨kb, 0, none⟩ = some (.int .u64 kn) ∧ w'.cell? ⟨kb, 1, none⟩ = some (.int .i64 kp)) (by kernel_rfl) hkey (fun hHeld => ?_)
        have PM6 := Lib.hid (PM5.out.later (Grw.refl v5).drew.below)
        clear PM5 hkey
        generalize v5.drew = v6 at *
        refine stake (i := 0) (v := .pointer (some ⟨g, 0, none⟩)) 116 rfl (by kernel_rfl) (by kernel_rfl) (by kernel_rfl) (by kernel_rfl) (fun _ _ _ h => h) (.inl ⟨by kernel_rfl, fun w' hS => by (go_simp)⟩) hHeld ?_
        (try simp only [Act.put, List.setIfInBounds_toArray, List.set_cons_zero, List.set_cons_succ])
        refine stake (i := 1) (v := .int .i64 p) 117 rfl (by kernel_rfl) (by kernel_rfl) (by kernel_rfl) (by kernel_rfl) (fun _ _ _ h => h) (.inl ⟨by kernel_rfl, fun w' hS => by (go_simp)⟩) hHeld ?_
        (try simp only [Act.put, List.setIfInBounds_toArray, List.set_cons_zero, List.set_cons_succ])
        refine stake (i := 2) (v := .int .u32 (seq : Int)) 118 rfl (by kernel_rfl) (by kernel_rfl) (by kernel_rfl) (by kernel_rfl) (fun _ _ _ h => h) (.inl ⟨by kernel_rfl, fun w' hS => by (go_simp)⟩) hHeld ?_
        (try simp only [Act.put, List.setIfInBounds_toArray, List.set_cons_zero, List.set_cons_succ])
        refine stake (i := 3) (v := .int .i64 most) 119 rfl (by kernel_rfl) (by kernel_rfl) (by kernel_rfl) (by kernel_rfl) (fun _ _ _ h => h) (.inl ⟨by kernel_rfl, fun w' hS => by (go_simp)⟩) hHeld ?_
        (try simp only [Act.put, List.setIfInBounds_toArray, List.set_cons_zero, List.set_cons_succ])
        refine stake (i := 5) (v := .pointer (some ⟨g, 0, none⟩)) 121 rfl (by kernel_rfl) (by kernel_rfl) (by kernel_rfl) (by kernel_rfl) (fun _ _ _ h => h) (.inl ⟨by kernel_rfl, fun w' hS => by (go_simp)⟩) hHeld ?_
        (try simp only [Act.put, List.setIfInBounds_toArray, List.set_cons_zero, List.set_cons_succ])
        refine stake (i := 6) (v := .agg #[.int .u64 kn, .int .i64 kp]) 122 rfl (by kernel_rfl) (by kernel_rfl) (by kernel_rfl) (by kernel_rfl) (fun _ _ _ h => h) (.inl ⟨by kernel_rfl, fun w' hS => by (have hc := hS.1; have hc2 := hS.2; go_simp)⟩) hHeld ?_
        (try simp only [Act.put, List.setIfInBounds_toArray, List.set_cons_zero, List.set_cons_succ])
        have P6 := hs_from PM6.out.h (by omega) p seq hseq most m0 m1
        rw [REL.out.from_ p seq most] at P6
        refine wpAnyH_ready (rs := [4]) (by kernel_rfl) (by simp) (AllReadyH.cons rfl (fun K hK => ?_) AllReadyH.nil)
        clear hHeld
        rw [if_pos (by kernel_rfl)]
        go_simp
        refine P6.mono ?_
        rintro e v7 ⟨⟨ua, un, uc⟩, X, rfl, hO7, hX7, B7⟩
        have PM7 := Lib.hid (PM6.out.later B7)
        have hlen7 : un ≤ 1000 := by
          have e1 : X.length = un := hO7.slot.len
          have e2 := congrArg List.length hX7
          rw [List.length_map, List.length_map, List.length_map] at e2
          have e3 := outA_le L lo p seq most (cntA L p)
          have e4 := cntA_le L p
          have e5 := PM6.out.few
          omega
        have HO7 := Lib.hid (And.intro hO7 (And.intro hX7 hlen7))
        have hS7 : v7.cell? ⟨kb, 0, none⟩ = some (.int .u64 kn) ∧ v7.cell? ⟨kb, 1, none⟩ = some (.int .i64 kp) := ⟨cell_later PM7.out.bel HK.out.2.1, cell_later PM7.out.bel HK.out.2.2⟩
        refine hK.out _ _ hS7 (fun hHeld => ?_)
        have HB7 := Lib.hid B7
        clear hK K P6 hO7 hX7 hlen7 hS7 B7
        (try simp only [Act.put, List.setIfInBounds_toArray, List.set_cons_zero, List.set_cons_succ])
        have P7 := hs_above PM7.out.h (by omega) ⟨kn, kp⟩
        simp only at P7
        refine wpAnyH_ready (rs := [7]) (by kernel_rfl) (by simp) (AllReadyH.cons rfl (fun K hK => ?_) AllReadyH.nil)
        clear hHeld
        rw [if_pos (by kernel_rfl)]
        go_simp
        refine P7.mono ?_
        rintro e v8 ⟨⟨na, nn, nc⟩, Z, rfl, hO8, hZ8, B8⟩
        have PM8 := Lib.hid (PM7.out.later B8)
        have hS8 : v8.cell? ⟨kb, 0, none⟩ = some (.int .u64 kn) ∧ v8.cell? ⟨kb, 1, none⟩ = some (.int .i64 kp) := ⟨cell_later PM8.out.bel HK.out.2.1, cell_later PM8.out.bel HK.out.2.2⟩
        rw [REL.out.above ⟨kn, kp⟩] at hZ8
        obtain ⟨O, hOO⟩ : ∃ O, O = catF (outAll L lo) ⟨kn, kp⟩ 64 := ⟨_, rfl⟩
        rw [← hOO] at hZ8
        have HOO := Lib.hid (show ∀ j, j = 64 → catF (outAll L lo) ⟨kn, kp⟩ j = O from fun j hj => by rw [hj, hOO])
        have hlen8 : nn ≤ 64000 := by
          have e1 : Z.length = nn := hO8.slot.len
          have e2 := hZ8.fil.length
          rw [List.length_map, List.length_map] at e2
          have e3 := catF_len (outAll L lo) ⟨kn, kp⟩ 1000 (fun q hq => by
            have e4 := outA_le L lo (q : Int) 0 (L.length : Int) (cntA L (q : Int))
            have e5 := cntA_le L (q : Int)
            have e6 := PM8.out.few
            unfold outAll
            omega) 64 (Nat.le_refl _)
          rw [← hOO] at e3
          omega
        have HO8 := Lib.hid (And.intro hO8 (And.intro hZ8 hlen8))
        have HU8 := Lib.hid (HO7.out.1.below B8)
        have HB8 := Lib.hid B8
        refine hK.out _ _ hS8 (fun hHeld => ?_)
        clear hK K P7 hO8 hZ8 hlen8 hS8 B8 hOO
        (try simp only [Act.put, List.setIfInBounds_toArray, List.set_cons_zero, List.set_cons_succ])
        refine stake (i := 8) (v := .slice ua un uc) 23 rfl (by kernel_rfl) (by kernel_rfl) (by kernel_rfl) (by kernel_rfl) (fun _ _ _ h => h) (.inl ⟨by kernel_rfl, fun w' hS => by (go_simp)⟩) hHeld ?_
        (try simp only [Act.put, List.setIfInBounds_toArray, List.set_cons_zero, List.set_cons_succ])
        refine stake (i := 9) (v := .slice na nn nc) 24 rfl (by kernel_rfl) (by kernel_rfl) (by kernel_rfl) (by kernel_rfl) (fun _ _ _ h => h) (.inl ⟨by kernel_rfl, fun w' hS => by (go_simp)⟩) hHeld ?_
        (try simp only [Act.put, List.setIfInBounds_toArray, List.set_cons_zero, List.set_cons_succ])
        clear hHeld
        refine wpAnyH_done (by kernel_rfl) ?_ _
        have P9 := rh_from t lo L p seq hseq most m0 m1 v8 PM8.out.lst (by have := PM8.out.sn; omega) REL.out.proc
        obtain ⟨A, hA⟩ : ∃ A, A = outA L lo p seq most (cntA L p) := ⟨_, rfl⟩
        have HA := Lib.hid (show ∀ x ∈ A, x ∈ L from fun x hx => by rw [hA] at hx; exact outA_mem p seq most x _ hx)
        have HX7 : Hid (X.map strip = A.map strip) := Lib.hid (by
          have h := HO7.out.2.1
          rw [← hA, List.map_map] at h
          exact h)
        rw [← hA] at P9
        clear hA
        go_wp2_with (refine load_rh rfl (.tmp 12) rfl f t lo rfl PM8.out.rf ?_)
        refine P9.mono ?_
        rintro e v9 ⟨⟨ra, rn, rc⟩, rfl, hR9⟩
        have PM9 := Lib.hid (PM8.out.later hR9.bel)
        have HU9 := Lib.hid (HU8.out.below hR9.bel)
        have HN9 := Lib.hid (HO8.out.1.below hR9.bel)
        have P10 := all_rows2 (tc := rc) HU9.out hR9.slot.lst (fun m hm => PM9.out.dp m (HA.out m hm)) HX7.out (by have := HO7.out.2.2; show un ≤ _; omega)
        have HB9 := Lib.hid (HB8.out.trans (hR9.bel.mono HB8.out.size))
        simp only at P10
        clear P9 hR9 PM8 HU8
        go_wp2_with fail
        refine P10.mono ?_
        rintro e v10 ⟨rfl, G10⟩
        have PM10 := Lib.hid (PM9.out.later G10.below)
        have HN10 := Lib.hid (HN9.out.below G10.below)
        have HB10 := Lib.hid (HB9.out.trans (G10.below.mono HB9.out.size))
        have hk10 := cell_later PM10.out.bel HK.out.2.1
        have hk10' := cell_later PM10.out.bel HK.out.2.2
        have P11 := rh_above t lo L v10 PM10.out.lst (by have := PM10.out.sn; omega) REL.out.proc ⟨kn, kp⟩
        rw [HOO.out 64 rfl] at P11
        simp only at P11
        clear P10 G10 PM9 HU9 HN9 HB9
        go_wp2_with (refine load_rh_if (by kernel_rfl) (.tmp 12) rfl f t lo rfl PM10.out.rf ?_)
        refine P11.mono ?_
        rintro e v11 ⟨sa, sn, sc, M, rfl, hM1, hM2, B11⟩
        have PM11 := Lib.hid (PM10.out.later B11)
        have HN11 := Lib.hid (HN10.out.below B11)
        have HB11 := Lib.hid (HB10.out.trans (B11.mono HB10.out.size))
        have P12 := all_rows2 (tc := sc) HN11.out hM2 (fun m hm => PM11.out.dp m (above_mem ⟨kn, kp⟩ m (by rw [HOO.out 64 rfl]; exact (hM1.fil.mem m).1 hm))) (IsSrt.one HO8.out.2.1 (isSrt_strip hM1)) (by have := HO8.out.2.2; show nn ≤ _; omega)
        simp only at P12
        clear P11 hM1 hM2 B11 PM10 HN10 HB10 hk10 hk10'
        go_wp2_with fail
        refine P12.mono ?_
        rintro e v12 ⟨rfl, G12⟩
        have PM12 := Lib.hid (PM11.out.later G12.below)
        have HB12 := Lib.hid (HB11.out.trans (G12.below.mono HB11.out.size))
        have P13 := spoil_out HO7.out.1 HB12.out (by have := HO7.out.2.2; show un ≤ _; omega)
        have HN12 := Lib.hid (HN11.out.below G12.below)
        simp only at P13
        go_upto_region 29 with fail
        clear P12 G12 PM11 HN11 HB11
        go_wp2_with fail
        refine P13.mono ?_
        rintro e v13 ⟨rfl, C13⟩
        have PM13 := Lib.hid (PM6.out.far PM12.out C13 fun j hj => hj.1)
        have HN13 : Hid (OutR v13 v7.heap.size ⟨na, nn, nc⟩ Z) := Lib.hid (HN12.out.kept fun j hj hj2 => C13.block j hj2 fun hd => by have := hd.2; omega)
        have P14 := spoil_any ⟨na, nn, nc⟩ Z HN13.out.slot HN13.out.new HN13.out.deps (by have := HO8.out.2.2; show nn ≤ _; omega)
        simp only at P14
        clear P13 C13 PM12 HN12
        go_wp2_with fail
        refine P14.mono ?_
        rintro e v14 ⟨rfl, C14⟩
        have PM14 := Lib.hid (PM6.out.far PM13.out C14 fun j hj => Nat.le_trans HB7.out.size hj)
        clear P14 C14 PM13
        go_wp2
        go_roundw
        case rel => exact ⟨k + 1, by omega, by go_num, Lib.hid ⟨F, S, L, lo, t, PM14.out, REL.out⟩⟩
        case measure => simp [intOf]; omega
      | false =>
        obtain ⟨F0, S0, L0, lo, t0, HP, HRL⟩ := HST.out
        have HP0 := Lib.hid HP
        have REL0 := Lib.hid HRL
        have hcr : ∀ c v, (encA ⟨false, p', upto, ⟨mf, mq, ms, mv, ma, mdl, mdc, md, mt⟩⟩)[c]? = some v → wr.cell? ⟨b, o + k * 9 + c, none⟩ = some v := fun c v hv => cell_later HP.bel (HC.out c v hv)
        have c0 := hcr 0 _ rfl
        have c1 := hcr 1 _ rfl
        have c2 := hcr 2 _ rfl
        have c3 := hcr 3 _ rfl
        have c4 := hcr 4 _ rfl
        have c5 := hcr 5 _ rfl
        have c6 := hcr 6 _ rfl
        have c7 := hcr 7 _ rfl
        have c8 := hcr 8 _ rfl
        rw [Nat.add_zero] at c0
        simp only at c0 c1 c2 c3 c4 c5 c6 c7 c8
        have LA := ((Grw.refl wr).alloc (.cells #[.bool false, .int .i64 p', .int .u32 (upto : Int), .int .i64 mf, .int .u32 mq, .int .u64 ms, .int .i64 mv, .slice ma mdl mdc, .string mt] 39)).below
        have PA := Lib.hid (HP.later LA)
        have AA := Lib.hid (AcB.new wr ⟨false, p', upto, ⟨mf, mq, ms, mv, ma, mdl, mdc, md, mt⟩⟩)
        simp only at AA
        have HSU := Lib.hid LA.size
        have HWR := Lib.hid HP.bel.size
        have HNF := Lib.hid HP.rf.lt
        have HNF2 := Lib.hid (show wr.heap.size ≠ f from by have := HP.rf.lt; omega)
        have HNM := Lib.hid AA.out.lt
        go_upto_region 11 with fail
        clear hcr c0 c1 c2 c3 c4 c5 c6 c7 c8 LA HP HRL HST
        generalize wr.alloc (.cells #[.bool false, .int .i64 p', .int .u32 (upto : Int), .int .i64 mf, .int .u32 mq, .int .u64 ms, .int .i64 mv, .slice ma mdl mdc, .string mt] 39) = u0 at *
        obtain ⟨ab, hab⟩ : ∃ ab, ab = wr.heap.size := ⟨_, rfl⟩
        rw [← hab] at AA HNF HNF2 HNM
        try rw [← hab]
        have HAB := Lib.hid hab
        clear hab

        have d0 := AA.out.own.at_ 0 _ rfl
        have d3 := AA.out.own.at_ 3 _ rfl
        have d4 := AA.out.own.at_ 4 _ rfl
        have d5 := AA.out.own.at_ 5 _ rfl
        have d6 := AA.out.own.at_ 6 _ rfl
        have d7 := AA.out.own.at_ 7 _ rfl
        have d8 := AA.out.own.at_ 8 _ rfl
        simp only at d0 d3 d4 d5 d6 d7 d8
        have LB := ((Grw.refl u0).alloc (.cells #[.int .i64 mf, .int .u32 mq, .int .u64 ms, .int .i64 mv, .slice ma mdl mdc, .string mt] 37)).below
        have MB := Lib.hid (MgB.new u0 ⟨mf, mq, ms, mv, ma, mdl, mdc, md, mt⟩)
        have PB := Lib.hid (PA.out.later LB)
        have AB := Lib.hid (AA.out.below LB)
        have HDP := Lib.hid (Lst.below (HOK.out.d.below PA.out.bel) LB)
        have hmb : u0.heap.size < (u0.alloc (.cells #[.int .i64 mf, .int .u32 mq, .int .u64 ms, .int .i64 mv, .slice ma mdl mdc, .string mt] 37)).heap.size := by simp
        have hmn : wr.heap.size ≤ u0.heap.size := HSU.out
        go_upto_region 15 with fail
        clear d0 d3 d4 d5 d6 d7 d8 LB PA AA
        generalize u0.alloc (.cells #[.int .i64 mf, .int .u32 mq, .int .u64 ms, .int .i64 mv, .slice ma mdl mdc, .string mt] 37) = u1 at *
        generalize u0.heap.size = mb at *
        have LE := ((Grw.refl u1).alloc (.cells #[] 23)).below
        have ROW := World.ownsRow_made (e := 23) (size := 1) u1 #[] 0 (Nat.le_refl _) (Nat.zero_le _) (by simp)
        have PC := Lib.hid (PB.out.later LE)
        have AC0 := Lib.hid (AB.out.below LE)
        have d7 := AC0.out.own.at_ 7 _ rfl
        simp only at d7
        have HDQ := Lib.hid (Lst.below HDP.out LE)
        have hLE := LE.size
        go_upto_region 16 with (at_builtin; refine append_u32 _ rfl (.tmp 59) (.tmp 62) rfl u1.heap.size _ 0 [] rfl ROW ma mdl mdc md rfl HDQ.out (by have := HMD.out; omega) hLE ?_; intro va u2 hown hgrow; have hg2 := hgrow.size; have hk2 : ∀ j, j < u1.heap.size → u2.heap[j]? = u1.heap[j]? := (fun j hj => (hgrow.block j (by omega) (fun e => by have h9 := own_behind ROW j e.symm; omega)).trans (LE.block j hj)); obtain ⟨a', dc', rfl, HMR⟩ := mine_made (w6 := u2) MB.out hmb (by omega) hown HDP.out.size (hk2 mb hmb) (by have := HMD.out; show mdl ≤ _; omega); have hMB2 : MgB u2 mb ⟨mf, mq, ms, mv, ma, mdl, mdc, md, mt⟩ := (hk2 mb hmb).trans MB.out; have e4 := hMB2.own.at_ 4 _ rfl; have g4 := hMB2.own.free 4; simp only at e4)
        simp only at HMR
        have L2 : Below u1.heap.size u1 u2 := ⟨hgrow.os, hgrow.tape, hgrow.output, by omega, fun j hj => hk2 j hj⟩
        have HM3 := Lib.hid HMR
        clear HMR
        have hset : ∀ j, j ≠ mb → (u2.setCell ⟨mb, 4, none⟩ (.slice a' mdl dc')).heap[j]? = u2.heap[j]? := fun j hj => heap_setCell_other u2 _ j _ hj
        have PD := Lib.hid (HP0.out.far (PB.out.later L2) (D := fun j => j = mb) (w' := u2.setCell ⟨mb, 4, none⟩ (.slice a' mdl dc')) ⟨rfl, rfl, rfl, by simp [World.setCell], fun j hj hn => hset j hn⟩ (fun j hj => by rw [hj]; exact hmn))
        have AD := Lib.hid ((AB.out.below L2).kept (w' := u2.setCell ⟨mb, 4, none⟩ (.slice a' mdl dc')) (hset ab (by have := HNM.out; omega)))
        have hsz3 : u1.heap.size ≤ (u2.setCell ⟨mb, 4, none⟩ (.slice a' mdl dc')).heap.size := by have := L2.size; simpa [World.setCell] using this
        clear d7 LE ROW PC AC0 HDQ hLE hg2 hk2 hown hgrow hMB2 L2 hset MB PB AB HDP
        generalize u2.setCell ⟨mb, 4, none⟩ (.slice a' mdl dc') = u3 at *
        have hm1 : wr.heap.size ≤ u1.heap.size := by omega
        have P3 : Calls Try.prog 12 #[.pointer (some ⟨g, 0, none⟩), valG ⟨mf, mq, ms, mv, a', mdl, dc', md, mt⟩] u3 (fun e w' => e = .returned (.int .i64 (rcode L0 ⟨mf, mq, ms, mv, ma, mdl, mdc, md, mt⟩)) ∧ HRep w' (newF F0 u3 w') g (k + 1) (putS S0 ⟨mf, mq, ms, mv, ma, mdl, mdc, md, mt⟩) ∧ Chg F0 u3 w') := by
          have h0 := hs_put PD.out.h (by omega) ⟨mf, mq, ms, mv, a', mdl, dc', md, mt⟩ HOK.out.q0 HOK.out.q1 HM3.out.dp HM3.out.few
          have h1 := (REL0.out.put ⟨mf, mq, ms, mv, ma, mdl, mdc, md, mt⟩).1
          refine h0.mono fun e w' hs => ?_
          obtain ⟨k1, k2, k3⟩ := hs
          exact ⟨by rw [← h1]; exact k1, k2, k3⟩
        go_wp2_with (refine load_mg rfl (.tmp 15) rfl mb rfl HM3.out.blk ?_)
        refine P3.mono ?_
        rintro e u4 ⟨rfl, hh, hc⟩
        go_upto_region 17 with fail
        have hF3 : ∀ j, wr.heap.size ≤ j → ¬ F0 j := fun j hj => HP0.out.noF j hj
        have PE := Lib.hid (PD.out.prog (Nat.le_succ k) hh (fun j hj => hj.imp id And.left) hc)
        have HM4 := Lib.hid (HM3.out.kept hc.size (hc.block mb HM3.out.blk.lt (hF3 mb hmn)) fun x hx => hc.block _ (HM3.out.new x hx).2.1 (hF3 _ (by have := (HM3.out.new x hx).1; omega)))
        have AE := Lib.hid (AD.out.kept (hc.block ab AD.out.lt (hF3 ab (by have := HAB.out; omega))))
        have HNF1 : Hid (∀ x, a' = some x → ¬ newF F0 u3 u4 x.block) := Lib.hid fun x hx hk => by
          have h1 := (HM3.out.new x hx)
          rcases hk with hk | hk
          · exact hF3 _ (by have := h1.1; omega) hk
          · have := h1.2.1; omega
        have HLK := Lib.hid PD.out.few
        clear P3 hh hc hF3 PD AD HM3
        generalize newF F0 u3 u4 = F at *
        have d3 := AE.out.own.at_ 3 _ rfl
        have d4 := AE.out.own.at_ 4 _ rfl
        have d5 := AE.out.own.at_ 5 _ rfl
        have d6 := AE.out.own.at_ 6 _ rfl
        have d7 := AE.out.own.at_ 7 _ rfl
        have d8 := AE.out.own.at_ 8 _ rfl
        simp only at d3 d4 d5 d6 d7 d8
        have P4 := rh_put t0 lo L0 u4 PE.out.row (by have := PE.out.sn; omega) ⟨mf, mq, ms, mv, ma, mdl, mdc, md, mt⟩ HOK.out.q0 HOK.out.q1
        unfold valG at P4
        simp only [encG] at P4
        have REL := Lib.hid (REL0.out.put ⟨mf, mq, ms, mv, ma, mdl, mdc, md, mt⟩).2
        have hRM := Lib.hid (rputL_mem (L := L0) ⟨mf, mq, ms, mv, ma, mdl, mdc, md, mt⟩)
        have hRN := rputL_len (L := L0) ⟨mf, mq, ms, mv, ma, mdl, mdc, md, mt⟩
        obtain ⟨cd, hcd⟩ : ∃ cd, cd = rcode L0 ⟨mf, mq, ms, mv, ma, mdl, mdc, md, mt⟩ := ⟨_, rfl⟩
        try rw [← hcd]
        obtain ⟨L, hL⟩ : ∃ L, L = rputL L0 ⟨mf, mq, ms, mv, ma, mdl, mdc, md, mt⟩ := ⟨_, rfl⟩
        obtain ⟨S, hS⟩ : ∃ S, S = putS S0 ⟨mf, mq, ms, mv, ma, mdl, mdc, md, mt⟩ := ⟨_, rfl⟩
        rw [← hL] at REL hRM hRN
        rw [← hS] at REL PE
        have HCD := Lib.hid hcd
        have HLL := Lib.hid hL
        have hqq : (cd != cd) = false := by simp
        clear hcd hL hS REL0
        have hLn : L.length ≤ k + 1 := by have := HLK.out; omega
        have hLd : Hid (∀ x ∈ L, DpIn W x ∧ x.dl ≤ 1048576) := Lib.hid fun x hx => by
          rcases hRM.out x hx with h1 | h1
          · exact PE.out.deps x h1
          · rw [h1]; exact ⟨HOK.out.d, by have := HMD.out; show mdl ≤ _; omega⟩
        clear hRM hRN
        go_wp2_with (refine load_rh rfl (.tmp 12) rfl f t0 lo rfl PE.out.rf ?_)
        refine P4.mono ?_
        rintro e u5 ⟨t, rfl, ht1, ht2, ht3⟩
        rw [← HLL.out] at ht1
        rw [← HCD.out]
        have HZ := Lib.hid (RhB.new u5 slNil (fun _ => 0))
        go_upto_region 18 with (refine store_rh rfl (.tmp 17) (.tmp 73) rfl u5.heap.size t lo rfl rfl HZ.out ?_)
        have L6 : Below u5.heap.size u5 ((u5.alloc (.cells (rhC slNil (fun _ => 0)).toArray 34)).setRow u5.heap.size (rhC t lo).toArray) := belowRow10 ((Grw.refl u5).alloc _).below _ (Nat.le_refl _) _
        have HR6 := Lib.hid (HZ.out.row t lo)
        have L46 := ht2.trans (L6.mono ht2.size)
        have PF := Lib.hid (PE.out.doc (lo' := lo) L46 (ht1.below L6) ht3 hLn hLd.out)
        have PF0 := Lib.hid (PE.out.later L46)
        have HM6 := Lib.hid (HM4.out.below L46)
        have AF := Lib.hid (AE.out.below L46)
        clear d3 d4 d5 d6 d7 d8 P4 PE HM4 AE L6 L46 ht1 ht2 ht3 HZ
        generalize (u5.alloc (.cells (rhC slNil (fun _ => 0)).toArray 34)).setRow u5.heap.size (rhC t lo).toArray = u6 at *
        generalize u5.heap.size = hb6 at *
        have hmf : mb ≠ f := by have := HNF.out; have := HNM.out; omega
        have HM7 := Lib.hid (HM6.out.kept (w' := u6.setRow f (rhC t lo).toArray) (by rw [size_setRow]; exact Nat.le_refl _) (setRow_other _ _ _ _ hmf) fun x hx => setRow_other _ _ _ _ (by
          obtain ⟨_, _, cur, hcur⟩ := HM6.out.new x hx
          exact typ_ne hcur PF0.out.rf (by decide)))
        have AG := Lib.hid (AF.out.kept (w' := u6.setRow f (rhC t lo).toArray) (setRow_other _ _ _ _ HNF2.out))
        go_upto_region 19 with (first | (refine load_rh rfl (.tmp 17) rfl hb6 t lo rfl HR6.out ?_) | (refine store_rh rfl (.tmp 12) (.tmp 75) rfl f t lo rfl rfl PF0.out.rf ?_))
        clear HR6 PF0 HM6 AF
        generalize u6.setRow f (rhC t lo).toArray = u7 at *
        have LS := ((Grw.refl u7).alloc (.cells #[.int .i64 mf, .int .u32 mq, .int .u64 ms, .int .i64 mv, .slice a' mdl dc', .string mt] 37)).below
        have PG := Lib.hid (PF.out.later LS)
        have AH := Lib.hid (AG.out.below LS)
        have HM8 := Lib.hid (HM7.out.below LS)
        have HSB := Lib.hid (mrow_one (MgB.new u7 ⟨mf, mq, ms, mv, a', mdl, dc', md, mt⟩))
        have hsz8 : (u7.alloc (.cells #[.int .i64 mf, .int .u32 mq, .int .u64 ms, .int .i64 mv, .slice a' mdl dc', .string mt] 37)).heap.size = u7.heap.size + 1 := by simp
        have hsf : f < u7.heap.size := PF.out.rf.lt
        have hsr := fun x hx => PF.out.row.lt x hx
        have hsF := fun j hj => PF.out.h.lim j hj
        have hsa := AG.out.lt
        have hsW := PF.out.bel.size
        have hsb := Lib.hid (show (∀ j, F j → j ≠ u7.heap.size) ∧ f ≠ u7.heap.size ∧ (∀ x, t.a = some x → x.block ≠ u7.heap.size) ∧ ab ≠ u7.heap.size ∧ W.heap.size ≤ u7.heap.size from ⟨fun j hj => by have := hsF j hj; omega, by omega, fun x hx => by have := hsr x hx; omega, by omega, hsW⟩)
        clear LS hsz8 hsf hsr hsF hsa hsW
        go_upto_region 21 with fail
        have P5 : ∃ D : Nat → Prop, (D = fun j => j = u7.heap.size ∨ ∃ x, a' = some x ∧ x.block = j) ∧ Calls Try.prog 14 #[.slice (some ⟨u7.heap.size, 0, none⟩) 1 1] (u7.alloc (.cells #[.int .i64 mf, .int .u32 mq, .int .u64 ms, .int .i64 mv, .slice a' mdl dc', .string mt] 37)) (SplSaid D (u7.alloc (.cells #[.int .i64 mf, .int .u32 mq, .int .u64 ms, .int .i64 mv, .slice a' mdl dc', .string mt] 37))) := ⟨_, rfl, spoil_any (D := fun j => j = u7.heap.size ∨ ∃ x, a' = some x ∧ x.block = j) (w := u7.alloc (.cells #[.int .i64 mf, .int .u32 mq, .int .u64 ms, .int .i64 mv, .slice a' mdl dc', .string mt] 37)) ⟨some ⟨u7.heap.size, 0, none⟩, 1, 1⟩ [⟨mf, mq, ms, mv, a', mdl, dc', md, mt⟩] (.inr ⟨u7.heap.size, 0, rfl, HSB.out⟩) (fun x hx => by cases hx; exact .inl rfl) (fun x hx => by
          rw [List.mem_singleton.1 hx]
          exact ⟨HM8.out.dp, HM8.out.few, fun ad e => ⟨.inr ⟨ad, e, rfl⟩, (HM8.out.new ad e).2.2⟩⟩) (by show 1 ≤ 100000; decide)⟩
        obtain ⟨D, hDD, P5⟩ := P5
        have HD8 := Lib.hid (show ∀ D : Nat → Prop, (D = fun j => j = u7.heap.size ∨ ∃ x, a' = some x ∧ x.block = j) → (∀ j, F j → ¬ D j) ∧ ¬ D f ∧ (∀ x, t.a = some x → ¬ D x.block) ∧ (∀ j, D j → W.heap.size ≤ j) ∧ ¬ D ab from fun D hD => by
          subst hD
          refine ⟨fun j hj hd => ?_, fun hd => ?_, fun x hx hd => ?_, fun j hd => ?_, fun hd => ?_⟩
          · rcases hd with e | ⟨y, hy, rfl⟩
            · exact hsb.out.1 j hj e
            · exact HNF1.out y hy hj
          · rcases hd with e | ⟨y, hy, e⟩
            · exact hsb.out.2.1 e
            · obtain ⟨_, _, cur, hcur⟩ := HM8.out.new y hy
              exact typ_ne hcur PG.out.rf (by decide) e
          · rcases hd with e | ⟨y, hy, e⟩
            · exact hsb.out.2.2.1 x hx e
            · obtain ⟨_, _, cur, hcur⟩ := HM8.out.new y hy
              obtain ⟨c2, hc2⟩ := PG.out.row.typ x hx
              exact typ_ne hcur hc2 (by decide) e
          · rcases hd with e | ⟨y, hy, e⟩
            · have := hsb.out.2.2.2.2; omega
            · have := (HM8.out.new y hy).1; have := HWR.out; omega
          · rcases hd with e | ⟨y, hy, e⟩
            · exact hsb.out.2.2.2.1 e
            · obtain ⟨_, _, cur, hcur⟩ := HM8.out.new y hy
              exact typ_ne hcur AH.out (by decide) e)
        have HD9 := Lib.hid (HD8.out D hDD)
        clear HSB HD8 hDD
        have e0 := HM7.out.blk.own.at_ 0 _ rfl
        have e1 := HM7.out.blk.own.at_ 1 _ rfl
        have e2 := HM7.out.blk.own.at_ 2 _ rfl
        have e3 := HM7.out.blk.own.at_ 3 _ rfl
        have e4 := HM7.out.blk.own.at_ 4 _ rfl
        have e5 := HM7.out.blk.own.at_ 5 _ rfl
        simp only at e0 e1 e2 e3 e4 e5
        go_wp2_with fail
        refine P5.mono ?_
        rintro e v0 ⟨rfl, hc5⟩
        go_upto_region 22 with fail
        have PM := Lib.hid (PG.out.chg hc5 HD9.out.1 HD9.out.2.1 HD9.out.2.2.1 HD9.out.2.2.2.1)
        have AC := Lib.hid (AH.out.kept (hc5.block ab AH.out.lt HD9.out.2.2.2.2))
        clear e0 e1 e2 e3 e4 e5 P5 hc5 HD9 PG AH HM8 PF AG HM7 hsb hLd HNF1 HCD HLL hqq HLK

        have P1 := hs_get PM.out.h (by omega) p seq hseq
        rw [REL.out.get p seq] at P1
        go_wp2_with fail
        refine P1.mono ?_
        rintro e v1 hs
        obtain ⟨x, bx, rfl, hx1, B1⟩ := getP_of hs
        have PM1 := Lib.hid (PM.out.later B1)
        have AC1 := Lib.hid (AC.out.below B1)
        have HX1 := Lib.hid hx1
        clear P1 hs hx1 B1 PM AC
        obtain ⟨xf, xq, xs, xv, xa, xdl, xdc, xd, xt⟩ := x
        have L2 := ((Grw.refl v1).alloc (.cells #[.int .i64 xf, .int .u32 xq, .int .u64 xs, .int .i64 xv, .slice xa xdl xdc, .string xt] 37)).below
        have M2 := Lib.hid (MgB.new v1 ⟨xf, xq, xs, xv, xa, xdl, xdc, xd, xt⟩)
        have PM2 := Lib.hid (PM1.out.later L2)
        have AC2 := Lib.hid (AC1.out.below L2)
        have HX2 := Lib.hid (show (findA L lo p seq = none ∧ (⟨xf, xq, xs, xv, xa, xdl, xdc, xd, xt⟩ : Mg) = zeroG ∧ bx = false) ∨ ∃ m, findA L lo p seq = some m ∧ strip ⟨xf, xq, xs, xv, xa, xdl, xdc, xd, xt⟩ = strip m ∧ DpIn (v1.alloc (.cells #[.int .i64 xf, .int .u32 xq, .int .u64 xs, .int .i64 xv, .slice xa xdl xdc, .string xt] 37)) ⟨xf, xq, xs, xv, xa, xdl, xdc, xd, xt⟩ ∧ (⟨xf, xq, xs, xv, xa, xdl, xdc, xd, xt⟩ : Mg).dl ≤ 1048576 ∧ bx = true from HX1.out.imp id fun ⟨m, h1, h2, h3, h4, h5⟩ => ⟨m, h1, h2, Lst.below h3 L2, h4, h5⟩)
        clear L2 PM1 AC1 HX1
        unfold valG
        simp only [encG]
        go_upto_region 23 with fail
        simp only at M2
        generalize v1.alloc (.cells #[.int .i64 xf, .int .u32 xq, .int .u64 xs, .int .i64 xv, .slice xa xdl xdc, .string xt] 37) = v2 at *
        generalize v1.heap.size = xb at *
        have P2 := rh_get t lo L p seq hseq v2 PM2.out.lst (by have := PM2.out.sn; omega) REL.out.proc
        go_wp2_with (refine load_rh rfl (.tmp 12) rfl f t lo rfl PM2.out.rf ?_)
        refine P2.mono ?_
        rintro e v3 hs
        obtain ⟨y, bY, rfl, hy1, B3⟩ := getR_of hs
        have PM3 := Lib.hid (PM2.out.later B3)
        have AC3 := Lib.hid (AC2.out.below B3)
        have M3 := Lib.hid (MgB.later M2.out B3)
        have HXY := two_of (HX2.out.imp id fun ⟨m, h1, h2, h3, h4, h5⟩ => ⟨m, h1, h2, Lst.below h3 B3, h4, h5⟩) hy1 (fun m hm => PM3.out.dp m (findA_mem p seq hm))
        obtain ⟨rfl, HT⟩ := HXY
        have HT3 := Lib.hid HT
        clear P2 hs hy1 B3 PM2 AC2 M2 HX2 HT
        obtain ⟨yf, yq, ys, yv, ya, ydl, ydc, yd, yt⟩ := y
        have L4 := ((Grw.refl v3).alloc (.cells #[.int .i64 yf, .int .u32 yq, .int .u64 ys, .int .i64 yv, .slice ya ydl ydc, .string yt] 37)).below
        have N4 := Lib.hid (MgB.new v3 ⟨yf, yq, ys, yv, ya, ydl, ydc, yd, yt⟩)
        have M4 := Lib.hid (MgB.later M3.out L4)
        have PM4 := Lib.hid (PM3.out.later L4)
        have AC4 := Lib.hid (AC3.out.below L4)
        have HT4 := Lib.hid (HT3.out.below L4)
        clear L4 PM3 AC3 M3 HT3
        unfold valG
        simp only [encG]
        go_upto_region 24 with fail
        generalize v3.alloc (.cells #[.int .i64 yf, .int .u32 yq, .int .u64 ys, .int .i64 yv, .slice ya ydl ydc, .string yt] 37) = v4 at *
        generalize v3.heap.size = yb at *
        have hxl := M4.out.lt
        have hyl := N4.out.lt
        have hal := AC4.out.lt
        have x0 := fun n os => cell_form hxl (M4.out.own.at_ 0 _ rfl) n os
        have x1 := fun n os => cell_form hxl (M4.out.own.at_ 1 _ rfl) n os
        have x2 := fun n os => cell_form hxl (M4.out.own.at_ 2 _ rfl) n os
        have x3 := fun n os => cell_form hxl (M4.out.own.at_ 3 _ rfl) n os
        have x4 := fun n os => cell_form hxl (M4.out.own.at_ 4 _ rfl) n os
        have x5 := fun n os => cell_form hxl (M4.out.own.at_ 5 _ rfl) n os
        have y0 := fun n os => cell_form hyl (N4.out.own.at_ 0 _ rfl) n os
        have y1 := fun n os => cell_form hyl (N4.out.own.at_ 1 _ rfl) n os
        have y2 := fun n os => cell_form hyl (N4.out.own.at_ 2 _ rfl) n os
        have y3 := fun n os => cell_form hyl (N4.out.own.at_ 3 _ rfl) n os
        have y4 := fun n os => cell_form hyl (N4.out.own.at_ 4 _ rfl) n os
        have y5 := fun n os => cell_form hyl (N4.out.own.at_ 5 _ rfl) n os
        have a1 := fun n os => cell_form hal (AC4.out.own.at_ 1 _ rfl) n os
        simp only at x0 x1 x2 x3 x4 x5 y0 y1 y2 y3 y4 y5 a1
        have EF := Lib.hid (PM4.out.rf.form)
        have hcnt := REL.out.cntI p'
        have K1 : Hid (∀ n os, Calls Try.prog 17 #[.agg #[.int .i64 xf, .int .u32 xq, .int .u64 xs, .int .i64 xv, .slice xa xdl xdc, .string xt], .agg #[.int .i64 yf, .int .u32 yq, .int .u64 ys, .int .i64 yv, .slice ya ydl ydc, .string yt]] (grow (atD v4 n) os) fun e w' => e = .returned (.bool true) ∧ Grw (grow (atD v4 n) os) w') := Lib.hid fun n os => by
          have hb := below_of_form v4 n os
          have := sameG_any ⟨xf, xq, xs, xv, xa, xdl, xdc, xd, xt⟩ ⟨yf, yq, ys, yv, ya, ydl, ydc, yd, yt⟩ (grow (atD v4 n) os) (Lst.below HT4.out.dx hb) (Lst.below HT4.out.dy hb) HT4.out.few
          rw [HT4.out.same] at this
          exact this
        have K2 : Hid (∀ n os, Calls Try.prog 18 #[.pointer (some ⟨g, 0, none⟩), .int .i64 p'] (grow (atD v4 n) os) fun e w' => e = .returned (.int .u32 (cntA L p' : Nat)) ∧ Below (grow (atD v4 n) os).heap.size (grow (atD v4 n) os) w') := Lib.hid fun n os => by
          have := hs_count (PM4.out.form n os).h (by omega) p'
          rw [hcnt] at this
          exact this.mono fun e w' hh => ⟨hh.1, hh.2 ▸ Below.refl _ _⟩
        have K3 : Hid (∀ n os, Calls Try.prog 19 #[.agg (rhC t lo).toArray, .int .i64 p'] (grow (atD v4 n) os) fun e w' => e = .returned (.int .u32 (cntA L p' : Nat)) ∧ Grw (grow (atD v4 n) os) w') := Lib.hid fun n os => rh_count t lo L p' _ (PM4.out.form n os).lst (by have := PM4.out.sn; omega)
        have q1 : ((cntA L p' : Int) != (cntA L p' : Int)) = false := by simp
        have q2 : (bx != bx) = false := by cases bx <;> rfl
        generalize cntA L p' = cn at *
        refine wp_region_quiet_below (by kernel_rfl) (by kernel_rfl) ?_
        repeat (first | (refine quiet_load_rh (by rfl) (.tmp 12) rfl f t lo rfl EF.out ?_) | quiet_step ((first | (go_at_call 17; exact calls_grw (K1.out _ _)) | (go_at_call 18; exact calls_below (K2.out _ _)) | (go_at_call 19; exact calls_grw (K3.out _ _)))))
        refine wpQuiet_nil ?_
        intro _ hw'
        obtain ⟨⟨nq, osq⟩, hw''⟩ := hw'
        subst hw''
        have PM5 := Lib.hid (PM4.out.form nq osq)
        clear x0 x1 x2 x3 x4 x5 y0 y1 y2 y3 y4 y5 a1 K1 K2 K3 EF q1 q2 hcnt hxl hyl hal M4 N4 AC4 HT4 PM4
        generalize (grow (atD v4 nq) osq) = v5 at *
        go_upto_region 26 with fail
        have hkey : v5.cell? ⟨kb, 0, none⟩ = some (.int .u64 kn) ∧ v5.cell? ⟨kb, 1, none⟩ = some (.int .i64 kp) := ⟨cell_later PM5.out.bel HK.out.2.1, cell_later PM5.out.bel HK.out.2.2⟩
        refine wp_region_held_drew (S := fun w' => w'.cell? ⟨kb, 0, none⟩ = some (.int .u64 kn) ∧ w'.cell? ⟨kb, 1, none⟩ = some (.int .i64 kp)) (by kernel_rfl) hkey (fun hHeld => ?_)
        have PM6 := Lib.hid (PM5.out.later (Grw.refl v5).drew.below)
        clear PM5 hkey
        generalize v5.drew = v6 at *
        refine stake (i := 0) (v := .pointer (some ⟨g, 0, none⟩)) 116 rfl (by kernel_rfl) (by kernel_rfl) (by kernel_rfl) (by kernel_rfl) (fun _ _ _ h => h) (.inl ⟨by kernel_rfl, fun w' hS => by (go_simp)⟩) hHeld ?_
        (try simp only [Act.put, List.setIfInBounds_toArray, List.set_cons_zero, List.set_cons_succ])
        refine stake (i := 1) (v := .int .i64 p) 117 rfl (by kernel_rfl) (by kernel_rfl) (by kernel_rfl) (by kernel_rfl) (fun _ _ _ h => h) (.inl ⟨by kernel_rfl, fun w' hS => by (go_simp)⟩) hHeld ?_
        (try simp only [Act.put, List.setIfInBounds_toArray, List.set_cons_zero, List.set_cons_succ])
        refine stake (i := 2) (v := .int .u32 (seq : Int)) 118 rfl (by kernel_rfl) (by kernel_rfl) (by kernel_rfl) (by kernel_rfl) (fun _ _ _ h => h) (.inl ⟨by kernel_rfl, fun w' hS => by (go_simp)⟩) hHeld ?_
        (try simp only [Act.put, List.setIfInBounds_toArray, List.set_cons_zero, List.set_cons_succ])
        refine stake (i := 3) (v := .int .i64 most) 119 rfl (by kernel_rfl) (by kernel_rfl) (by kernel_rfl) (by kernel_rfl) (fun _ _ _ h => h) (.inl ⟨by kernel_rfl, fun w' hS => by (go_simp)⟩) hHeld ?_
        (try simp only [Act.put, List.setIfInBounds_toArray, List.set_cons_zero, List.set_cons_succ])
        refine stake (i := 5) (v := .pointer (some ⟨g, 0, none⟩)) 121 rfl (by kernel_rfl) (by kernel_rfl) (by kernel_rfl) (by kernel_rfl) (fun _ _ _ h => h) (.inl ⟨by kernel_rfl, fun w' hS => by (go_simp)⟩) hHeld ?_
        (try simp only [Act.put, List.setIfInBounds_toArray, List.set_cons_zero, List.set_cons_succ])
        refine stake (i := 6) (v := .agg #[.int .u64 kn, .int .i64 kp]) 122 rfl (by kernel_rfl) (by kernel_rfl) (by kernel_rfl) (by kernel_rfl) (fun _ _ _ h => h) (.inl ⟨by kernel_rfl, fun w' hS => by (have hc := hS.1; have hc2 := hS.2; go_simp)⟩) hHeld ?_
        (try simp only [Act.put, List.setIfInBounds_toArray, List.set_cons_zero, List.set_cons_succ])
        have P6 := hs_from PM6.out.h (by omega) p seq hseq most m0 m1
        rw [REL.out.from_ p seq most] at P6
        refine wpAnyH_ready (rs := [4]) (by kernel_rfl) (by simp) (AllReadyH.cons rfl (fun K hK => ?_) AllReadyH.nil)
        clear hHeld
        rw [if_pos (by kernel_rfl)]
        go_simp
        refine P6.mono ?_
        rintro e v7 ⟨⟨ua, un, uc⟩, X, rfl, hO7, hX7, B7⟩
        have PM7 := Lib.hid (PM6.out.later B7)
        have hlen7 : un ≤ 1000 := by
          have e1 : X.length = un := hO7.slot.len
          have e2 := congrArg List.length hX7
          rw [List.length_map, List.length_map, List.length_map] at e2
          have e3 := outA_le L lo p seq most (cntA L p)
          have e4 := cntA_le L p
          have e5 := PM6.out.few
          omega
        have HO7 := Lib.hid (And.intro hO7 (And.intro hX7 hlen7))
        have hS7 : v7.cell? ⟨kb, 0, none⟩ = some (.int .u64 kn) ∧ v7.cell? ⟨kb, 1, none⟩ = some (.int .i64 kp) := ⟨cell_later PM7.out.bel HK.out.2.1, cell_later PM7.out.bel HK.out.2.2⟩
        refine hK.out _ _ hS7 (fun hHeld => ?_)
        have HB7 := Lib.hid B7
        clear hK K P6 hO7 hX7 hlen7 hS7 B7
        (try simp only [Act.put, List.setIfInBounds_toArray, List.set_cons_zero, List.set_cons_succ])
        have P7 := hs_above PM7.out.h (by omega) ⟨kn, kp⟩
        simp only at P7
        refine wpAnyH_ready (rs := [7]) (by kernel_rfl) (by simp) (AllReadyH.cons rfl (fun K hK => ?_) AllReadyH.nil)
        clear hHeld
        rw [if_pos (by kernel_rfl)]
        go_simp
        refine P7.mono ?_
        rintro e v8 ⟨⟨na, nn, nc⟩, Z, rfl, hO8, hZ8, B8⟩
        have PM8 := Lib.hid (PM7.out.later B8)
        have hS8 : v8.cell? ⟨kb, 0, none⟩ = some (.int .u64 kn) ∧ v8.cell? ⟨kb, 1, none⟩ = some (.int .i64 kp) := ⟨cell_later PM8.out.bel HK.out.2.1, cell_later PM8.out.bel HK.out.2.2⟩
        rw [REL.out.above ⟨kn, kp⟩] at hZ8
        obtain ⟨O, hOO⟩ : ∃ O, O = catF (outAll L lo) ⟨kn, kp⟩ 64 := ⟨_, rfl⟩
        rw [← hOO] at hZ8
        have HOO := Lib.hid (show ∀ j, j = 64 → catF (outAll L lo) ⟨kn, kp⟩ j = O from fun j hj => by rw [hj, hOO])
        have hlen8 : nn ≤ 64000 := by
          have e1 : Z.length = nn := hO8.slot.len
          have e2 := hZ8.fil.length
          rw [List.length_map, List.length_map] at e2
          have e3 := catF_len (outAll L lo) ⟨kn, kp⟩ 1000 (fun q hq => by
            have e4 := outA_le L lo (q : Int) 0 (L.length : Int) (cntA L (q : Int))
            have e5 := cntA_le L (q : Int)
            have e6 := PM8.out.few
            unfold outAll
            omega) 64 (Nat.le_refl _)
          rw [← hOO] at e3
          omega
        have HO8 := Lib.hid (And.intro hO8 (And.intro hZ8 hlen8))
        have HU8 := Lib.hid (HO7.out.1.below B8)
        have HB8 := Lib.hid B8
        refine hK.out _ _ hS8 (fun hHeld => ?_)
        clear hK K P7 hO8 hZ8 hlen8 hS8 B8 hOO
        (try simp only [Act.put, List.setIfInBounds_toArray, List.set_cons_zero, List.set_cons_succ])
        refine stake (i := 8) (v := .slice ua un uc) 23 rfl (by kernel_rfl) (by kernel_rfl) (by kernel_rfl) (by kernel_rfl) (fun _ _ _ h => h) (.inl ⟨by kernel_rfl, fun w' hS => by (go_simp)⟩) hHeld ?_
        (try simp only [Act.put, List.setIfInBounds_toArray, List.set_cons_zero, List.set_cons_succ])
        refine stake (i := 9) (v := .slice na nn nc) 24 rfl (by kernel_rfl) (by kernel_rfl) (by kernel_rfl) (by kernel_rfl) (fun _ _ _ h => h) (.inl ⟨by kernel_rfl, fun w' hS => by (go_simp)⟩) hHeld ?_
        (try simp only [Act.put, List.setIfInBounds_toArray, List.set_cons_zero, List.set_cons_succ])
        clear hHeld
        refine wpAnyH_done (by kernel_rfl) ?_ _
        have P9 := rh_from t lo L p seq hseq most m0 m1 v8 PM8.out.lst (by have := PM8.out.sn; omega) REL.out.proc
        obtain ⟨A, hA⟩ : ∃ A, A = outA L lo p seq most (cntA L p) := ⟨_, rfl⟩
        have HA := Lib.hid (show ∀ x ∈ A, x ∈ L from fun x hx => by rw [hA] at hx; exact outA_mem p seq most x _ hx)
        have HX7 : Hid (X.map strip = A.map strip) := Lib.hid (by
          have h := HO7.out.2.1
          rw [← hA, List.map_map] at h
          exact h)
        rw [← hA] at P9
        clear hA
        go_wp2_with (refine load_rh rfl (.tmp 12) rfl f t lo rfl PM8.out.rf ?_)
        refine P9.mono ?_
        rintro e v9 ⟨⟨ra, rn, rc⟩, rfl, hR9⟩
        have PM9 := Lib.hid (PM8.out.later hR9.bel)
        have HU9 := Lib.hid (HU8.out.below hR9.bel)
        have HN9 := Lib.hid (HO8.out.1.below hR9.bel)
        have P10 := all_rows2 (tc := rc) HU9.out hR9.slot.lst (fun m hm => PM9.out.dp m (HA.out m hm)) HX7.out (by have := HO7.out.2.2; show un ≤ _; omega)
        have HB9 := Lib.hid (HB8.out.trans (hR9.bel.mono HB8.out.size))
        simp only at P10
        clear P9 hR9 PM8 HU8
        go_wp2_with fail
        refine P10.mono ?_
        rintro e v10 ⟨rfl, G10⟩
        have PM10 := Lib.hid (PM9.out.later G10.below)
        have HN10 := Lib.hid (HN9.out.below G10.below)
        have HB10 := Lib.hid (HB9.out.trans (G10.below.mono HB9.out.size))
        have hk10 := cell_later PM10.out.bel HK.out.2.1
        have hk10' := cell_later PM10.out.bel HK.out.2.2
        have P11 := rh_above t lo L v10 PM10.out.lst (by have := PM10.out.sn; omega) REL.out.proc ⟨kn, kp⟩
        rw [HOO.out 64 rfl] at P11
        simp only at P11
        clear P10 G10 PM9 HU9 HN9 HB9
        go_wp2_with (refine load_rh_if (by kernel_rfl) (.tmp 12) rfl f t lo rfl PM10.out.rf ?_)
        refine P11.mono ?_
        rintro e v11 ⟨sa, sn, sc, M, rfl, hM1, hM2, B11⟩
        have PM11 := Lib.hid (PM10.out.later B11)
        have HN11 := Lib.hid (HN10.out.below B11)
        have HB11 := Lib.hid (HB10.out.trans (B11.mono HB10.out.size))
        have P12 := all_rows2 (tc := sc) HN11.out hM2 (fun m hm => PM11.out.dp m (above_mem ⟨kn, kp⟩ m (by rw [HOO.out 64 rfl]; exact (hM1.fil.mem m).1 hm))) (IsSrt.one HO8.out.2.1 (isSrt_strip hM1)) (by have := HO8.out.2.2; show nn ≤ _; omega)
        simp only at P12
        clear P11 hM1 hM2 B11 PM10 HN10 HB10 hk10 hk10'
        go_wp2_with fail
        refine P12.mono ?_
        rintro e v12 ⟨rfl, G12⟩
        have PM12 := Lib.hid (PM11.out.later G12.below)
        have HB12 := Lib.hid (HB11.out.trans (G12.below.mono HB11.out.size))
        have P13 := spoil_out HO7.out.1 HB12.out (by have := HO7.out.2.2; show un ≤ _; omega)
        have HN12 := Lib.hid (HN11.out.below G12.below)
        simp only at P13
        go_upto_region 29 with fail
        clear P12 G12 PM11 HN11 HB11
        go_wp2_with fail
        refine P13.mono ?_
        rintro e v13 ⟨rfl, C13⟩
        have PM13 := Lib.hid (PM6.out.far PM12.out C13 fun j hj => hj.1)
        have HN13 : Hid (OutR v13 v7.heap.size ⟨na, nn, nc⟩ Z) := Lib.hid (HN12.out.kept fun j hj hj2 => C13.block j hj2 fun hd => by have := hd.2; omega)
        have P14 := spoil_any ⟨na, nn, nc⟩ Z HN13.out.slot HN13.out.new HN13.out.deps (by have := HO8.out.2.2; show nn ≤ _; omega)
        simp only at P14
        clear P13 C13 PM12 HN12
        go_wp2_with fail
        refine P14.mono ?_
        rintro e v14 ⟨rfl, C14⟩
        have PM14 := Lib.hid (PM6.out.far PM13.out C14 fun j hj => Nat.le_trans HB7.out.size hj)
        clear P14 C14 PM13
        go_wp2
        go_roundw
        case rel => exact ⟨k + 1, by omega, by go_num, Lib.hid ⟨F, S, L, lo, t, PM14.out, REL.out⟩⟩
        case measure => simp [intOf]; omega
    · obtain rfl : k = len := by omega
      obtain ⟨F, S, L, lo, t, HP, HRL⟩ := HST.out
      have PM0 := Lib.hid HP
      have REL := Lib.hid HRL
      have P1 := hs_vec HP.h (by omega) 5 (by decide) (by decide)
      rw [show vecN 5 = 5 from by decide] at P1
      clear HP HRL HST
      go_wp2_with fail
      refine P1.mono ?_
      rintro e w5 ⟨rfl, hv5, B5⟩
      have PM5 := Lib.hid (PM0.out.later B5)
      have HV := Lib.hid hv5
      have hvl : wr.heap.size < w5.heap.size := World.block_lt_of_cell? _ _ (hv5 0 (by decide))
      clear P1 hv5 B5 PM0
      generalize wr.heap.size = vb at *
      go_wp2_with fail
      go_loopw [26] (fun si w6 => ∃ i : Nat, i ≤ 5 ∧ si = .int .i64 i ∧ Hid (Below w5.heap.size w5 w6)) (fun si _ => 5 - (intOf si).toNat)
      case atStart => exact ⟨0, by omega, rfl, Lib.hid (Below.refl _ _)⟩
      case round =>
        obtain ⟨i, hi, rfl, HB⟩ := hrel
        by_cases hlt5 : i < 5
        · have PM6 := Lib.hid (PM5.out.later HB.out)
          have hv := cell_later HB.out (HV.out i hlt5)
          have hvr : vb < wr.heap.size := Nat.lt_of_lt_of_le hvl HB.out.size
          have hfl := PM6.out.rf.lt
          have z0 := fun n os => cell_form hvr hv n os
          have z1 := fun n os => cell_form hfl (PM6.out.rf.cl i (by omega)) n os
          have EF := Lib.hid (PM6.out.rf.form)
          have hcnt := REL.out.cnt i (by omega)
          have hlow := REL.out.low i (by omega)
          rw [hcnt] at z0
          have hcb := cntA_le L (i : Int)
          have K1 : Hid (∀ n os, Calls Try.prog 19 #[.agg (rhC t lo).toArray, .int .i64 (i : Int)] (grow (atD wr n) os) fun e w' => e = .returned (.int .u32 (cntA L (i : Int) : Nat)) ∧ Grw (grow (atD wr n) os) w') := Lib.hid fun n os => rh_count t lo L (i : Int) _ (PM6.out.form n os).lst (by have := PM6.out.sn; omega)
          have K2 : Hid (∀ n os, Calls Try.prog 26 #[.pointer (some ⟨g, 0, none⟩), .int .i64 (i : Int)] (grow (atD wr n) os) fun e w' => e = .returned (.int .u32 (lo i : Nat)) ∧ Below (grow (atD wr n) os).heap.size (grow (atD wr n) os) w') := Lib.hid fun n os => by
            have := hs_low (PM6.out.form n os).h (i : Int)
            rw [onP_yes _ _ _ (by omega), hlow] at this
            exact this.mono fun e w' hh => ⟨hh.1, hh.2 ▸ Below.refl _ _⟩
          have q1 : ((cntA L (i : Int) : Int) != (cntA L (i : Int) : Int)) = false := by simp
          have q2 : ((lo i : Int) != (lo i : Int)) = false := by simp
          have hi5 : (i : Int) < 5 := by omega
          have hi64 : (i : Int) < 64 := by omega
          generalize cntA L (i : Int) = cn at *
          generalize lo i = li at *
          clear hcnt hlow hcb hv
          go_upto_region 35 with fail
          refine wp_region_quiet_below (by kernel_rfl) (by kernel_rfl) ?_
          repeat (first | (refine quiet_load_rh (by rfl) (.tmp 12) rfl f t lo rfl EF.out ?_) | quiet_step ((first | (go_at_call 19; exact calls_grw (K1.out _ _)) | (go_at_call 26; exact calls_below (K2.out _ _)))))
          refine wpQuiet_nil ?_
          intro _ hw'
          obtain ⟨⟨nq, osq⟩, hw''⟩ := hw'
          subst hw''
          have HB7 := Lib.hid (HB.out.trans ((below_of_form wr nq osq).mono HB.out.size))
          clear z0 z1 EF K1 K2 q1 q2 hfl hvr PM6 HB
          generalize (grow (atD wr nq) osq) = w7 at *
          go_wp2
          go_roundw
          case rel => exact ⟨i + 1, by omega, by go_num, HB7⟩
          case measure => simp [intOf]; omega
        · obtain rfl : i = 5 := by omega
          have PM6 := Lib.hid (PM5.out.later HB.out)
          clear HB PM5 HV hvl
          go_upto_region 37 with fail
          have hSr : wr.cell? ⟨kb, 0, none⟩ = some (.int .u64 kn) ∧ wr.cell? ⟨kb, 1, none⟩ = some (.int .i64 kp) ∧ RhB wr f t lo := ⟨cell_later PM6.out.bel HK.out.2.1, cell_later PM6.out.bel HK.out.2.2, PM6.out.rf⟩

          have KS := Lib.hid (show ∀ w' : World, RhB w' f t lo → w'.rangeAt f 0 (rhC t lo) from fun w' h j v hj => by rw [Nat.zero_add]; exact h.own.at_ j v (by rw [List.getElem?_toArray]; exact hj))
          refine wp_region_held_drew (S := fun w' => w'.cell? ⟨kb, 0, none⟩ = some (.int .u64 kn) ∧ w'.cell? ⟨kb, 1, none⟩ = some (.int .i64 kp) ∧ RhB w' f t lo) (by kernel_rfl) hSr (fun hHeld => ?_)
          have PM7 := Lib.hid (PM6.out.later (Grw.refl wr).drew.below)
          clear PM6 hSr
          generalize wr.drew = v6 at *
          refine stake (i := 0) (v := .pointer (some ⟨g, 0, none⟩)) 168 rfl (by kernel_rfl) (by kernel_rfl) (by kernel_rfl) (by kernel_rfl) (fun _ _ _ h => h) (.inl ⟨by kernel_rfl, fun w' hS => by (go_simp)⟩) hHeld ?_
          (try simp only [Act.put, List.setIfInBounds_toArray, List.set_cons_zero, List.set_cons_succ])
          refine stake (i := 1) (v := .agg #[.int .u64 kn, .int .i64 kp]) 169 rfl (by kernel_rfl) (by kernel_rfl) (by kernel_rfl) (by kernel_rfl) (fun _ _ _ h => h) (.inl ⟨by kernel_rfl, fun w' hS => by (have hc := hS.1; have hc2 := hS.2.1; go_simp)⟩) hHeld ?_
          (try simp only [Act.put, List.setIfInBounds_toArray, List.set_cons_zero, List.set_cons_succ])
          refine stake (i := 3) (v := .agg (rhC t lo).toArray) 171 rfl (by kernel_rfl) (by kernel_rfl) (by kernel_rfl) (by kernel_rfl) (fun _ _ _ h => h) (yieldsIf_load_mid (by kernel_rfl) 34 (.tmp 12) rfl f 0 (by kernel_rfl) (rhC t lo) _ (fun w' hS => KS.out w' hS.2.2) Try.underlying34 rfl (by rw [rhC_length]; exact rh_size)) hHeld ?_
          (try simp only [Act.put, List.setIfInBounds_toArray, List.set_cons_zero, List.set_cons_succ])
          refine stake (i := 4) (v := .agg #[.int .u64 kn, .int .i64 kp]) 172 rfl (by kernel_rfl) (by kernel_rfl) (by kernel_rfl) (by kernel_rfl) (fun _ _ _ h => h) (.inl ⟨by kernel_rfl, fun w' hS => by (have hc := hS.1; have hc2 := hS.2.1; go_simp)⟩) hHeld ?_
          (try simp only [Act.put, List.setIfInBounds_toArray, List.set_cons_zero, List.set_cons_succ])
          have P7 := hs_above PM7.out.h (by omega) ⟨kn, kp⟩
          simp only at P7
          refine wpAnyH_ready (rs := [2]) (by kernel_rfl) (by simp) (AllReadyH.cons rfl (fun K hK => ?_) AllReadyH.nil)
          clear hHeld
          rw [if_pos (by kernel_rfl)]
          go_simp
          refine P7.mono ?_
          rintro e v8 ⟨⟨na, nn, nc⟩, Z, rfl, hO8, hZ8, B8⟩
          have PM8 := Lib.hid (PM7.out.later B8)
          have hS8 : v8.cell? ⟨kb, 0, none⟩ = some (.int .u64 kn) ∧ v8.cell? ⟨kb, 1, none⟩ = some (.int .i64 kp) ∧ RhB v8 f t lo := ⟨cell_later PM8.out.bel HK.out.2.1, cell_later PM8.out.bel HK.out.2.2, PM8.out.rf⟩
          rw [REL.out.above ⟨kn, kp⟩] at hZ8
          obtain ⟨O, hOO⟩ : ∃ O, O = catF (outAll L lo) ⟨kn, kp⟩ 64 := ⟨_, rfl⟩
          rw [← hOO] at hZ8
          have HOO := Lib.hid (show ∀ j, j = 64 → catF (outAll L lo) ⟨kn, kp⟩ j = O from fun j hj => by rw [hj, hOO])
          have hlen8 : nn ≤ 64000 := by
            have e1 : Z.length = nn := hO8.slot.len
            have e2 := hZ8.fil.length
            rw [List.length_map, List.length_map] at e2
            have e3 := catF_len (outAll L lo) ⟨kn, kp⟩ 1000 (fun q hq => by
              have e4 := outA_le L lo (q : Int) 0 (L.length : Int) (cntA L (q : Int))
              have e5 := cntA_le L (q : Int)
              have e6 := PM8.out.few
              unfold outAll
              omega) 64 (Nat.le_refl _)
            rw [← hOO] at e3
            omega
          have HO8 := Lib.hid (And.intro hO8 (And.intro hZ8 hlen8))
          refine hK.out _ _ hS8 (fun hHeld => ?_)
          clear hK K P7 hO8 hZ8 hlen8 hS8 B8 hOO PM7
          (try simp only [Act.put, List.setIfInBounds_toArray, List.set_cons_zero, List.set_cons_succ])
          have P9 := rh_above t lo L v8 PM8.out.lst (by have := PM8.out.sn; omega) REL.out.proc ⟨kn, kp⟩
          rw [HOO.out 64 rfl] at P9
          simp only at P9
          refine wpAnyH_ready (rs := [5]) (by kernel_rfl) (by simp) (AllReadyH.cons rfl (fun K hK => ?_) AllReadyH.nil)
          clear hHeld
          rw [if_pos (by kernel_rfl)]
          go_simp
          refine P9.mono ?_
          rintro e v9 ⟨sa, sn, sc, M, rfl, hM1, hM2, B9⟩
          have PM9 := Lib.hid (PM8.out.later B9)
          have HN9 := Lib.hid (HO8.out.1.below B9)
          have hS9 : v9.cell? ⟨kb, 0, none⟩ = some (.int .u64 kn) ∧ v9.cell? ⟨kb, 1, none⟩ = some (.int .i64 kp) ∧ RhB v9 f t lo := ⟨cell_later PM9.out.bel HK.out.2.1, cell_later PM9.out.bel HK.out.2.2, PM9.out.rf⟩
          have P10 := all_rows2 (tc := sc) HN9.out hM2 (fun m hm => PM9.out.dp m (above_mem ⟨kn, kp⟩ m (by rw [HOO.out 64 rfl]; exact (hM1.fil.mem m).1 hm))) (IsSrt.one HO8.out.2.1 (isSrt_strip hM1)) (by have := HO8.out.2.2; show nn ≤ _; omega)
          refine hK.out _ _ hS9 (fun hHeld => ?_)
          clear hK K P9 hM1 hM2 B9 PM8 HN9 hS9
          simp only at P10
          (try simp only [Act.put, List.setIfInBounds_toArray, List.set_cons_zero, List.set_cons_succ])
          refine wpAnyH_ready (rs := [6]) (by kernel_rfl) (by simp) (AllReadyH.cons rfl (fun K hK => ?_) AllReadyH.nil)
          clear hHeld
          rw [if_pos (by kernel_rfl)]
          go_simp
          refine P10.mono ?_
          rintro e v10 ⟨rfl, G10⟩
          have PM10 := Lib.hid (PM9.out.later G10.below)
          have hS10 : v10.cell? ⟨kb, 0, none⟩ = some (.int .u64 kn) ∧ v10.cell? ⟨kb, 1, none⟩ = some (.int .i64 kp) ∧ RhB v10 f t lo := ⟨cell_later PM10.out.bel HK.out.2.1, cell_later PM10.out.bel HK.out.2.2, PM10.out.rf⟩
          refine hK.out _ _ hS10 (fun hHeld => ?_)
          clear hK K P10 G10 PM9 hS10
          (try simp only [Act.put, List.setIfInBounds_toArray, List.set_cons_zero, List.set_cons_succ])
          obtain ⟨vl, hvl⟩ : ∃ vl, vl = vecN most := ⟨_, rfl⟩
          obtain ⟨mn, hmn⟩ : ∃ mn, mn = min most 64 := ⟨_, rfl⟩
          have hmn1 : min most 64 = mn := hmn.symm
          have hmx1 : max 0 mn = (vl : Int) := by rw [hvl, hmn]; unfold vecN; omega
          have HM1 := Lib.hid hmn1
          have HM2 := Lib.hid hmx1
          have P11 := hs_vec PM10.out.h (by omega) most m0 m1
          rw [← hvl] at P11
          clear hvl hmn hmn1 hmx1
          refine stake (i := 7) (v := .bool true) 175 rfl (by kernel_rfl) (by kernel_rfl) (by kernel_rfl) (by kernel_rfl) (fun _ _ _ h => h) (.inl ⟨by kernel_rfl, fun w' hS => by (go_simp)⟩) hHeld ?_
          (try simp only [Act.put, List.setIfInBounds_toArray, List.set_cons_zero, List.set_cons_succ])
          refine stake (i := 8) (v := .pointer (some ⟨g, 0, none⟩)) 176 rfl (by kernel_rfl) (by kernel_rfl) (by kernel_rfl) (by kernel_rfl) (fun _ _ _ h => h) (.inl ⟨by kernel_rfl, fun w' hS => by (go_simp)⟩) hHeld ?_
          (try simp only [Act.put, List.setIfInBounds_toArray, List.set_cons_zero, List.set_cons_succ])
          refine stake (i := 9) (v := .int .i64 most) 177 rfl (by kernel_rfl) (by kernel_rfl) (by kernel_rfl) (by kernel_rfl) (fun _ _ _ h => h) (.inl ⟨by kernel_rfl, fun w' hS => by (go_simp)⟩) hHeld ?_
          (try simp only [Act.put, List.setIfInBounds_toArray, List.set_cons_zero, List.set_cons_succ])
          refine stake (i := 12) (v := .int .i64 most) 180 rfl (by kernel_rfl) (by kernel_rfl) (by kernel_rfl) (by kernel_rfl) (fun _ _ _ h => h) (.inl ⟨by kernel_rfl, fun w' hS => by (go_simp)⟩) hHeld ?_
          (try simp only [Act.put, List.setIfInBounds_toArray, List.set_cons_zero, List.set_cons_succ])
          refine stake (i := 13) (v := .int .i64 mn) 181 rfl (by kernel_rfl) (by kernel_rfl) (by kernel_rfl) (by kernel_rfl) (fun _ _ _ h => h) (.inl ⟨by kernel_rfl, fun w' hS => by (go_simp; exact HM1.out)⟩) hHeld ?_
          (try simp only [Act.put, List.setIfInBounds_toArray, List.set_cons_zero, List.set_cons_succ])
          refine stake (i := 14) (v := .int .i64 (vl : Int)) 182 rfl (by kernel_rfl) (by kernel_rfl) (by kernel_rfl) (by kernel_rfl) (fun _ _ _ h => h) (.inl ⟨by kernel_rfl, fun w' hS => by (go_simp; exact HM2.out)⟩) hHeld ?_
          (try simp only [Act.put, List.setIfInBounds_toArray, List.set_cons_zero, List.set_cons_succ])
          refine wpAnyH_ready (rs := [10]) (by kernel_rfl) (by simp) (AllReadyH.cons rfl (fun K hK => ?_) AllReadyH.nil)
          clear hHeld
          rw [if_pos (by kernel_rfl)]
          go_simp
          refine P11.mono ?_
          rintro e v11 ⟨rfl, _, B11⟩
          have PM11 := Lib.hid (PM10.out.later B11)
          have hS11 : v11.cell? ⟨kb, 0, none⟩ = some (.int .u64 kn) ∧ v11.cell? ⟨kb, 1, none⟩ = some (.int .i64 kp) ∧ RhB v11 f t lo := ⟨cell_later PM11.out.bel HK.out.2.1, cell_later PM11.out.bel HK.out.2.2, PM11.out.rf⟩
          refine hK.out _ _ hS11 (fun hHeld => ?_)
          clear hK K P11 B11 hS11
          (try simp only [Act.put, List.setIfInBounds_toArray, List.set_cons_zero, List.set_cons_succ])
          refine stake (i := 11) (v := .int .i64 (vl : Int)) 179 rfl (by kernel_rfl) (by kernel_rfl) (by kernel_rfl) (by kernel_rfl) (fun _ _ _ h => h) (.inl ⟨by kernel_rfl, fun w' hS => by (go_simp)⟩) hHeld ?_
          (try simp only [Act.put, List.setIfInBounds_toArray, List.set_cons_zero, List.set_cons_succ])
          refine stake (i := 15) (v := .bool true) 183 rfl (by kernel_rfl) (by kernel_rfl) (by kernel_rfl) (by kernel_rfl) (fun _ _ _ h => h) (.inl ⟨by kernel_rfl, fun w' hS => by (go_simp)⟩) hHeld ?_
          (try simp only [Act.put, List.setIfInBounds_toArray, List.set_cons_zero, List.set_cons_succ])
          refine stake (i := 16) (v := .bool true) 184 rfl (by kernel_rfl) (by kernel_rfl) (by kernel_rfl) (by kernel_rfl) (fun _ _ _ h => h) (.inl ⟨by kernel_rfl, fun w' hS => by (go_simp)⟩) hHeld ?_
          (try simp only [Act.put, List.setIfInBounds_toArray, List.set_cons_zero, List.set_cons_succ])
          refine stake (i := 17) (v := .bool true) 10 rfl (by kernel_rfl) (by kernel_rfl) (by kernel_rfl) (by kernel_rfl) (fun _ _ _ h => h) (.inl ⟨by kernel_rfl, fun w' hS => by (go_simp)⟩) hHeld ?_
          (try simp only [Act.put, List.setIfInBounds_toArray, List.set_cons_zero, List.set_cons_succ])
          clear hHeld
          refine wpAnyH_done (by kernel_rfl) ?_ _
          have HFIN := Lib.hid PM11.out.bel
          have hkb := HKE.out
          subst hkb
          go_wp2
          go_ret
          exact ⟨rfl, HLB.out.trans (HFIN.out.mono HLB.out.size)⟩
end Go.Proofs.Ytafenlacacghoaa
