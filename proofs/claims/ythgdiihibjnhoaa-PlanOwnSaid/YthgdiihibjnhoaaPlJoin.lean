/- Plans: join: one more companion. (Written by gen_pljoin.py.) -/
import Derived.Test.YthgdiihibjnhoaaPlEnds
import Derived.Test.YthgdiihibjnhoaaHzFns
import Derived.Test.YthgdiihibjnhoaaHdFrom
set_option linter.unusedVariables false
set_option maxRecDepth 100000
set_option linter.unusedSimpArgs false
namespace Go.Proofs.Ythgdiihibjnhoaa
open Go.RowKit Go.Sort Go.Shelf

/-- An exchange's block. -/
def XgB (w : World) (b : Nat) (x : Xg) : Prop := Own w b 33 (encXg x).toArray
theorem XgB.own {w : World} {b : Nat} {x : Xg} (h : XgB w b x) : Own w b 33 (encXg x).toArray := h
theorem XgB.below {w w' : World} {b : Nat} {x : Xg} (h : XgB w b x) (hb : Below w.heap.size w w') : XgB w' b x := (hb.block b (Own.lt h)).trans h
theorem XgB.kept {w w' : World} {b : Nat} {x : Xg} (h : XgB w b x) (hb : w'.heap[b]? = w.heap[b]?) : XgB w' b x := hb.trans h
theorem XgB.new (w : World) (x : Xg) : XgB (w.alloc (.cells (encXg x).toArray 33)) w.heap.size x := Own.new w _ _
/-- Amid join; W is an elder world, in which the counts lie. -/
structure JnSt (W w wr : World) (g mb : Nat) (P : Pn) (x : Xg) : Prop where
  pl : PlB wr g P
  box : XgB wr mb x
  chg : Chg (fun k => k = g) w wr
  bel : Below W.heap.size W wr
  ne : g ≠ mb
  lg : g < w.heap.size
  base : W.heap.size ≤ g
section
variable {W w wr w' : World} {g mb : Nat} {P : Pn} {x : Xg}
theorem JnSt.later (h : JnSt W w wr g mb P x) (hb : Below wr.heap.size wr w') : JnSt W w w' g mb P x :=
  ⟨h.pl.below hb, h.box.below hb, h.chg.then hb, h.bel.trans (hb.mono h.bel.size), h.ne, h.lg, h.base⟩
theorem JnSt.turn (h : JnSt W w wr g mb P x) {P' : Pn} (hp : PlB w' g P') (hg : wr.grownBy w' (some g)) : JnSt W w w' g mb P' x :=
  ⟨hp, h.box.kept (hg.block mb (Own.lt h.box) (fun e => h.ne (by cases e; rfl))), h.chg.to (Chg.grown (D := fun k => k = g) hg (fun k e => by cases e; rfl)) fun i _ e => e,
   h.bel.grown hg h.bel.size (fun k e => by cases e; exact h.base), h.ne, h.lg, h.base⟩
theorem JnSt.comp (h : JnSt W w wr g mb P x) (c : Nat) : JnSt W w (wr.setCell ⟨g, 0, none⟩ (.int .u64 (c : Int))) g mb { P with cs := c } x :=
  h.turn (h.pl.setC c) ⟨rfl, rfl, rfl, by simp [World.setCell], fun k hk hn => heap_setCell_other wr _ _ _ (by show k ≠ g; intro e; exact hn (by rw [e]))⟩
theorem JnSt.wh (h : JnSt W w wr g mb P x) (p : Nat) (hp : p < 64) (u : Wh) : JnSt W w (wr.setCells g (1 + p * 2) (encWh u)) g mb { P with f := updW P.f p u } x :=
  h.turn (h.pl.setW p hp u) (grown_cells15 g _ _ _)
end
section
variable {W w : World} {g : Nat} {P : Pn}
set_option maxHeartbeats 4000000 in
theorem pjoin (h : PlB w g P) (x : Xg) (hx : XgIn W x) (hb : Below W.heap.size W w) (hg : W.heap.size ≤ g) (hcs : P.cs < 18446744073709551616) (b0 : -9223372036854775808 ≤ x.w) (b1 : x.w ≤ 9223372036854775807) :
    Calls Try.prog 18 #[.pointer (some ⟨g, 0, none⟩), .agg (encXg x).toArray] w fun e w' => e = .returned (.tuple #[]) ∧ PlB w' g { P with cs := any P.cs (onl x.w), f := whK x P.f (min x.n 64) } ∧ Chg (fun k => k = g) w w' ∧ Below W.heap.size W w' := by
  have hlg := h.lt
  have L1 := ((Grw.refl w).alloc (.cells (encXg x).toArray 33)).below
  have J1 := Lib.hid (show JnSt W w (w.alloc (.cells (encXg x).toArray 33)) g w.heap.size P x from
    ⟨h.below L1, XgB.new w x, (Chg.refl _ _).then L1, hb.trans (L1.mono hb.size), by omega, hlg, hg⟩)
  have HX := Lib.hid hx
  have HG := Lib.hid (And.intro hg hlg)
  have HA := any_lt P.cs (onl x.w)
  have hle := hx.le
  clear h hx hb L1 hg hlg
  obtain ⟨xw, xe, xp, xa, xn, xc, cnt, kn, kp⟩ := x
  simp only at b0 b1 hle
  unfold encXg at J1 ⊢
  simp only at J1
  go_enter Try.func18, Try.ntmps18
  go_upto_region 1 with fail
  generalize w.alloc (.cells #[.int .i64 xw, .int .u64 xe, .int .i64 xp, .slice xa xn xc, .int .u64 kn, .int .i64 kp] 33) = w1 at *
  obtain ⟨mb, hmb⟩ : ∃ mb, mb = w.heap.size := ⟨_, rfl⟩
  rw [← hmb] at J1
  try rw [← hmb]
  clear hmb
  obtain ⟨P1, hP1⟩ : ∃ P1, P1 = ({ P with cs := any P.cs (onl xw) } : Pn) := ⟨_, rfl⟩
  have HP1 := Lib.hid hP1
  go_cut [7] from 7 to 17 (fun _ wx => JnSt W w wx g mb P1 ⟨xw, xe, xp, xa, xn, xc, cnt, kn, kp⟩)
  case first =>
    have J2 := Lib.hid (J1.out.later (Grw.refl w1).drew.below)
    clear J1
    have hS1 : w1.drew.cell? ⟨mb, 0, none⟩ = some (.int .i64 xw) := J2.out.box.own.at_ 0 _ rfl
    refine wp_region_held_drew (S := fun w' => w'.cell? ⟨mb, 0, none⟩ = some (.int .i64 xw)) (by kernel_rfl) hS1 (fun hHeld => ?_)
    generalize w1.drew = w2 at *
    refine stake (i := 0) (v := (.pointer (some ⟨g, 0, none⟩))) 7 rfl (by kernel_rfl) (by kernel_rfl) (by kernel_rfl) (by kernel_rfl) (fun _ _ _ h => h) (.inl ⟨by kernel_rfl, fun w' hS => by (go_simp)⟩) hHeld ?_
    (try simp only [Act.put, List.setIfInBounds_toArray, List.set_cons_zero, List.set_cons_succ])
    refine stake (i := 1) (v := (.pointer (some ⟨g, 0, none⟩))) 8 rfl (by kernel_rfl) (by kernel_rfl) (by kernel_rfl) (by kernel_rfl) (fun _ _ _ h => h) (.inl ⟨by kernel_rfl, fun w' hS => by (go_simp)⟩) hHeld ?_
    (try simp only [Act.put, List.setIfInBounds_toArray, List.set_cons_zero, List.set_cons_succ])
    refine stake (i := 2) (v := (.pointer (some ⟨g, 0, none⟩))) 9 rfl (by kernel_rfl) (by kernel_rfl) (by kernel_rfl) (by kernel_rfl) (fun _ _ _ h => h) (.inl ⟨by kernel_rfl, fun w' hS => by (go_simp)⟩) hHeld ?_
    (try simp only [Act.put, List.setIfInBounds_toArray, List.set_cons_zero, List.set_cons_succ])
    refine stake (i := 3) (v := (.pointer (some ⟨g, 0, none⟩))) 10 rfl (by kernel_rfl) (by kernel_rfl) (by kernel_rfl) (by kernel_rfl) (fun _ _ _ h => h) (.inl ⟨by kernel_rfl, fun w' hS => by (go_simp)⟩) hHeld ?_
    (try simp only [Act.put, List.setIfInBounds_toArray, List.set_cons_zero, List.set_cons_succ])
    refine stake (i := 5) (v := (.pointer (some ⟨mb, 0, none⟩))) 12 rfl (by kernel_rfl) (by kernel_rfl) (by kernel_rfl) (by kernel_rfl) (fun _ _ _ h => h) (.inl ⟨by kernel_rfl, fun w' hS => by (go_simp)⟩) hHeld ?_
    (try simp only [Act.put, List.setIfInBounds_toArray, List.set_cons_zero, List.set_cons_succ])
    refine stake (i := 6) (v := (.int .i64 xw)) 13 rfl (by kernel_rfl) (by kernel_rfl) (by kernel_rfl) (by kernel_rfl) (fun _ _ _ h => h) (.inl ⟨by kernel_rfl, fun w' hS => by (have e0 := hS; go_simp)⟩) hHeld ?_
    (try simp only [Act.put, List.setIfInBounds_toArray, List.set_cons_zero, List.set_cons_succ])
    refine wpAnyH_ready (rs := [4, 7]) (by kernel_rfl) (by simp) (AllReadyH.cons rfl (fun K hK => ?_) (AllReadyH.cons rfl (fun K hK => ?_) AllReadyH.nil))
    · have c0 := J2.out.pl.c0
      clear hHeld
      rw [if_pos (by kernel_rfl)]
      go_simp
      refine hK.out _ _ (J2.out.box.own.at_ 0 _ rfl) (fun hHeld => ?_)
      clear hK K c0
      (try simp only [Act.put, List.setIfInBounds_toArray, List.set_cons_zero, List.set_cons_succ])
      refine wpAnyH_ready (rs := [7]) (by kernel_rfl) (by simp) (AllReadyH.cons rfl (fun K hK => ?_) AllReadyH.nil)
      clear hHeld
      rw [if_pos (by kernel_rfl)]
      go_simp
      have J3 := Lib.hid (J2.out.later ((Grw.refl w2).alloc (.cells #[.int .i64 xw] 3)).below)
      refine hK.out _ _ (J3.out.box.own.at_ 0 _ rfl) (fun hHeld => ?_)
      clear hK K
      (try simp only [Act.put, List.setIfInBounds_toArray, List.set_cons_zero, List.set_cons_succ])
      have PW := with_any P.cs (some ⟨w2.heap.size, 0, none⟩) 1 1 [xw] (w2.alloc (.cells #[.int .i64 xw] 3)) hcs (InI.oneZ w2 xw b0 b1) (by decide)
      rw [ofl_oneZ] at PW
      refine wpAnyH_ready (rs := [8]) (by kernel_rfl) (by simp) (AllReadyH.cons rfl (fun K hK => ?_) AllReadyH.nil)
      clear hHeld
      rw [if_pos (by kernel_rfl)]
      go_simp
      refine PW.mono ?_
      rintro e w4 ⟨rfl, rfl⟩
      refine hK.out _ _ (J3.out.box.own.at_ 0 _ rfl) (fun hHeld => ?_)
      clear hK K PW
      (try simp only [Act.put, List.setIfInBounds_toArray, List.set_cons_zero, List.set_cons_succ])
      refine stake (i := 9) (v := (.pointer (some ⟨g, 0, none⟩))) 16 rfl (by kernel_rfl) (by kernel_rfl) (by kernel_rfl) (by kernel_rfl) (fun _ _ _ h => h) (.inl ⟨by kernel_rfl, fun w' hS => by (go_simp)⟩) hHeld ?_
      (try simp only [Act.put, List.setIfInBounds_toArray, List.set_cons_zero, List.set_cons_succ])
      refine stake (i := 10) (v := (.pointer (some ⟨g, 0, none⟩))) 17 rfl (by kernel_rfl) (by kernel_rfl) (by kernel_rfl) (by kernel_rfl) (fun _ _ _ h => h) (.inl ⟨by kernel_rfl, fun w' hS => by (go_simp)⟩) hHeld ?_
      (try simp only [Act.put, List.setIfInBounds_toArray, List.set_cons_zero, List.set_cons_succ])
      refine wpAnyH_ready (rs := [11]) (by kernel_rfl) (by simp) (AllReadyH.cons rfl (fun K hK => ?_) AllReadyH.nil)
      have c0 := J3.out.pl.c0
      have f0 := J3.out.pl.free 0
      clear hHeld
      rw [if_pos (by kernel_rfl)]
      go_simp
      have J5 := Lib.hid (J3.out.comp (any P.cs (onl xw)))
      refine hK.out _ _ (J5.out.box.own.at_ 0 _ rfl) (fun hHeld => ?_)
      clear hK K c0 f0
      (try simp only [Act.put, List.setIfInBounds_toArray, List.set_cons_zero, List.set_cons_succ])
      refine wpAnyH_done (by kernel_rfl) ?_ _
      clear hHeld
      go_wp2_with fail
      go_meet
      rw [HP1.out]
      exact J5.out
    · clear hHeld
      rw [if_pos (by kernel_rfl)]
      go_simp
      have J3 := Lib.hid (J2.out.later ((Grw.refl w2).alloc (.cells #[.int .i64 xw] 3)).below)
      refine hK.out _ _ (J3.out.box.own.at_ 0 _ rfl) (fun hHeld => ?_)
      clear hK K
      (try simp only [Act.put, List.setIfInBounds_toArray, List.set_cons_zero, List.set_cons_succ])
      have c0 := J3.out.pl.c0
      refine wpAnyH_ready (rs := [4]) (by kernel_rfl) (by simp) (AllReadyH.cons rfl (fun K hK => ?_) AllReadyH.nil)
      clear hHeld
      rw [if_pos (by kernel_rfl)]
      go_simp
      refine hK.out _ _ (J3.out.box.own.at_ 0 _ rfl) (fun hHeld => ?_)
      clear hK K c0
      (try simp only [Act.put, List.setIfInBounds_toArray, List.set_cons_zero, List.set_cons_succ])
      have PW := with_any P.cs (some ⟨w2.heap.size, 0, none⟩) 1 1 [xw] (w2.alloc (.cells #[.int .i64 xw] 3)) hcs (InI.oneZ w2 xw b0 b1) (by decide)
      rw [ofl_oneZ] at PW
      refine wpAnyH_ready (rs := [8]) (by kernel_rfl) (by simp) (AllReadyH.cons rfl (fun K hK => ?_) AllReadyH.nil)
      clear hHeld
      rw [if_pos (by kernel_rfl)]
      go_simp
      refine PW.mono ?_
      rintro e w4 ⟨rfl, rfl⟩
      refine hK.out _ _ (J3.out.box.own.at_ 0 _ rfl) (fun hHeld => ?_)
      clear hK K PW
      (try simp only [Act.put, List.setIfInBounds_toArray, List.set_cons_zero, List.set_cons_succ])
      refine stake (i := 9) (v := (.pointer (some ⟨g, 0, none⟩))) 16 rfl (by kernel_rfl) (by kernel_rfl) (by kernel_rfl) (by kernel_rfl) (fun _ _ _ h => h) (.inl ⟨by kernel_rfl, fun w' hS => by (go_simp)⟩) hHeld ?_
      (try simp only [Act.put, List.setIfInBounds_toArray, List.set_cons_zero, List.set_cons_succ])
      refine stake (i := 10) (v := (.pointer (some ⟨g, 0, none⟩))) 17 rfl (by kernel_rfl) (by kernel_rfl) (by kernel_rfl) (by kernel_rfl) (fun _ _ _ h => h) (.inl ⟨by kernel_rfl, fun w' hS => by (go_simp)⟩) hHeld ?_
      (try simp only [Act.put, List.setIfInBounds_toArray, List.set_cons_zero, List.set_cons_succ])
      refine wpAnyH_ready (rs := [11]) (by kernel_rfl) (by simp) (AllReadyH.cons rfl (fun K hK => ?_) AllReadyH.nil)
      have c0 := J3.out.pl.c0
      have f0 := J3.out.pl.free 0
      clear hHeld
      rw [if_pos (by kernel_rfl)]
      go_simp
      have J5 := Lib.hid (J3.out.comp (any P.cs (onl xw)))
      refine hK.out _ _ (J5.out.box.own.at_ 0 _ rfl) (fun hHeld => ?_)
      clear hK K c0 f0
      (try simp only [Act.put, List.setIfInBounds_toArray, List.set_cons_zero, List.set_cons_succ])
      refine wpAnyH_done (by kernel_rfl) ?_ _
      clear hHeld
      go_wp2_with fail
      go_meet
      rw [HP1.out]
      exact J5.out
  case rest =>
    have J2 := Lib.hid hcut
    clear hcut J1
    obtain ⟨kk, hkk⟩ : ∃ kk, kk = min xn 64 := ⟨_, rfl⟩
    have HM := Lib.hid (show (if (64 : Int) < (xn : Int) then 64 else (xn : Int)) = (kk : Int) by rw [hkk]; split <;> omega)
    have hk1 : (kk : Int) ≤ (xc : Int) := by omega
    have hk2 : kk ≤ xn := by omega
    have hk3 : kk ≤ 64 := by omega
    have HKK := Lib.hid hkk
    have c3 : wc.cell? ⟨mb, 3, none⟩ = some (.slice xa xn xc) := J2.out.box.own.at_ 3 _ rfl
    clear hkk hle
    go_wp2_with (with_reducible refine step_min2 rfl (.tmp 22) (.const (.int .i64 64)) _ _ rfl .i64 (xn : Int) 64 (kk : Int) rfl rfl HM.out ?_)
    go_loopw [26] (fun si wr => ∃ k : Nat, k ≤ kk ∧ si = .int .i64 k ∧ Aside (JnSt W w wr g mb { P1 with f := whK ⟨xw, xe, xp, xa, xn, xc, cnt, kn, kp⟩ P.f k } ⟨xw, xe, xp, xa, xn, xc, cnt, kn, kp⟩)) (fun si _ => kk - (intOf si).toNat)
    case atStart => exact ⟨0, Nat.zero_le _, rfl, by rw [whK_zero, show ({ P1 with f := P.f } : Pn) = P1 by rw [HP1.out]]; exact J2.out⟩
    case round =>
      obtain ⟨k, hk, rfl, HJ⟩ := hrel
      clear J2 c3
      by_cases hlt : k < kk
      · have hk64 : k < 64 := by omega
        obtain ⟨bx, ox, rfl, hr⟩ := (HX.out.below HJ.out.bel).at_.src (show 0 < xn by omega)
        have hsz := HX.out.at_.size
        have hlt' : k < cnt.length := by have : cnt.length = xn := hsz; omega
        obtain ⟨z, hz⟩ : ∃ z, cnt[k]? = some z := ⟨_, List.getElem?_eq_getElem hlt'⟩
        have e0 : wr.cell? ⟨bx, ox + k, none⟩ = some (.int .u32 z) := by have := hr k z hz 0 _ rfl; simpa using this
        have hof : (⟨xw, xe, xp, some ⟨bx, ox, none⟩, xn, xc, cnt, kn, kp⟩ : Xg).of k = z := by unfold Xg.of; rw [List.getD_eq_getElem?_getD, hz]; rfl
        have n0 : wr.cell? ⟨g, 1 + k * 2, none⟩ = some (.int .u32 (P.f k).n) := by have := HJ.out.pl.n k hk64; simp only [whK_at] at this; exact this
        have n1 : wr.cell? ⟨g, 1 + k * 2 + 1, none⟩ = some (.int .i64 (P.f k).h) := by have := HJ.out.pl.h k hk64; simp only [whK_at] at this; exact this
        have HY := Lib.hid (whK_yes ⟨xw, xe, xp, some ⟨bx, ox, none⟩, xn, xc, cnt, kn, kp⟩ P.f k)
        have HN := Lib.hid (whK_no ⟨xw, xe, xp, some ⟨bx, ox, none⟩, xn, xc, cnt, kn, kp⟩ P.f k)
        have HBT := Lib.hid (show better ⟨xw, xe, xp, some ⟨bx, ox, none⟩, xn, xc, cnt, kn, kp⟩ (P.f k) k = (decide ((P.f k).n < z) || (decide (z = (P.f k).n) && decide (xw < (P.f k).h))) by unfold better; rw [hof])
        have HOF := Lib.hid hof
        clear hz hof hr hsz hlt'
        obtain ⟨u, hu⟩ : ∃ u, u = (P.f k).n := ⟨_, rfl⟩
        obtain ⟨v, hv⟩ : ∃ v, v = (P.f k).h := ⟨_, rfl⟩
        rw [← hu] at n0 HBT
        rw [← hv] at n1 HBT
        clear hu hv
        have c0 : wr.cell? ⟨mb, 0, none⟩ = some (.int .i64 xw) := HJ.out.box.own.at_ 0 _ rfl
        go_upto_region 6 with fail
        cases t1 : decide (u < z) with
        | true =>
          have HE := Lib.hid (HY.out (by rw [HBT.out, t1]; rfl))
          clear HY HN HBT
          go_quiet (fail)
          have J3 := Lib.hid (HJ.out.later ((Grw.refl wr).drewN nq).below)
          clear HJ e0 n0 n1 c0
          generalize wr.drewN nq = v3 at *
          have c0 : v3.cell? ⟨mb, 0, none⟩ = some (.int .i64 xw) := J3.out.box.own.at_ 0 _ rfl
          have J4 := Lib.hid (J3.out.wh k hk64 ⟨z, xw⟩)
          go_wp2_with (with_reducible refine store_wh rfl (.tmp 64) (.tmp 63) rfl g k hk64 ⟨z, xw⟩ rfl rfl J3.out.pl ?_)
          have J5 := Lib.hid (show JnSt W w (v3.setCells g (1 + k * 2) (encWh ⟨z, xw⟩)) g mb { P1 with f := whK ⟨xw, xe, xp, some ⟨bx, ox, none⟩, xn, xc, cnt, kn, kp⟩ P.f (k + 1) } ⟨xw, xe, xp, some ⟨bx, ox, none⟩, xn, xc, cnt, kn, kp⟩ by rw [HE.out, HOF.out]; exact J4.out)
          clear J3 J4 HE HOF
          generalize v3.setCells g (1 + k * 2) (encWh ⟨z, xw⟩) = v4 at *
          go_roundw
          case rel => exact ⟨k + 1, by omega, by go_num, J5.out⟩
          case measure => simp [intOf]; omega
        | false =>
          cases t2 : (z == u) with
          | false =>
            have HE := Lib.hid (HN.out (by rw [HBT.out, t1, decide_eq_false (by simpa using t2)]; rfl))
            clear HY HN HBT
            go_quiet (fail)
            have J3 := Lib.hid (HJ.out.later ((Grw.refl wr).drewN nq).below)
            rw [← HE.out] at J3
            clear HJ e0 n0 n1 c0
            go_wp2
            go_roundw
            case rel => exact ⟨k + 1, by omega, by go_num, J3.out⟩
            case measure => simp [intOf]; omega
          | true =>
            have hzu : z = u := by simpa using t2
            cases t3 : decide (xw < v) with
            | true =>
              have HE := Lib.hid (HY.out (by rw [HBT.out, t1, decide_eq_true hzu, t3]; rfl))
              clear hzu
              clear HY HN HBT
              go_quiet (fail)
              have J3 := Lib.hid (HJ.out.later ((Grw.refl wr).drewN nq).below)
              clear HJ e0 n0 n1 c0
              generalize wr.drewN nq = v3 at *
              have c0 : v3.cell? ⟨mb, 0, none⟩ = some (.int .i64 xw) := J3.out.box.own.at_ 0 _ rfl
              have J4 := Lib.hid (J3.out.wh k hk64 ⟨z, xw⟩)
              go_wp2_with (with_reducible refine store_wh rfl (.tmp 64) (.tmp 63) rfl g k hk64 ⟨z, xw⟩ rfl rfl J3.out.pl ?_)
              have J5 := Lib.hid (show JnSt W w (v3.setCells g (1 + k * 2) (encWh ⟨z, xw⟩)) g mb { P1 with f := whK ⟨xw, xe, xp, some ⟨bx, ox, none⟩, xn, xc, cnt, kn, kp⟩ P.f (k + 1) } ⟨xw, xe, xp, some ⟨bx, ox, none⟩, xn, xc, cnt, kn, kp⟩ by rw [HE.out, HOF.out]; exact J4.out)
              clear J3 J4 HE HOF
              generalize v3.setCells g (1 + k * 2) (encWh ⟨z, xw⟩) = v4 at *
              go_roundw
              case rel => exact ⟨k + 1, by omega, by go_num, J5.out⟩
              case measure => simp [intOf]; omega
            | false =>
              have HE := Lib.hid (HN.out (by rw [HBT.out, t1, decide_eq_true hzu, t3]; rfl))
              clear hzu
              clear HY HN HBT
              go_quiet (fail)
              have J3 := Lib.hid (HJ.out.later ((Grw.refl wr).drewN nq).below)
              rw [← HE.out] at J3
              clear HJ e0 n0 n1 c0
              go_wp2
              go_roundw
              case rel => exact ⟨k + 1, by omega, by go_num, J3.out⟩
              case measure => simp [intOf]; omega
      · obtain rfl : k = kk := by omega
        have HF := Lib.hid HJ.out
        clear HJ
        go_wp2
        go_end0
        rw [← HKK.out]
        have h1 := HF.out.pl
        rw [HP1.out] at h1
        exact ⟨rfl, h1, HF.out.chg, HF.out.bel⟩
end
end Go.Proofs.Ythgdiihibjnhoaa
