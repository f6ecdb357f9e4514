/- Are exchanges the same: yes just when they are. (Written by wip/gen_grexch2.py.) -/
import Derived.Test.YtmaiphgmnammgaaDoorZGrSame
set_option linter.unusedVariables false
set_option maxRecDepth 100000
set_option linter.unusedSimpArgs false
namespace Go.Proofs.YtmaiphgmnammgaaDoor
open Go.RowKit Go.Sort Go.Maps

theorem strip_of {w w' : World} {x y : Xg} (hx : XV w x) (hy : XV w' y) (h : sameX16 x y) : stripX x = stripX y := by
  have e1 := hx.at_.size
  have e2 := hy.at_.size
  obtain ⟨f, oe, op, a, n, c, ct, kn, kp⟩ := x
  obtain ⟨f', oe', op', a', n', c', ct', kn', kp'⟩ := y
  obtain ⟨h1, ⟨h2, h3⟩, ⟨h7, h8⟩, h5⟩ := h
  simp only at e1 e2 h1 h2 h3 h5 h7 h8
  subst h1 h2 h3 h5 h7 h8
  rw [e1] at e2
  subst e2
  rfl
/-- Are they the same? -/
noncomputable def sameL (X Y : List Xg) : Bool := @decide (X.map stripX = Y.map stripX) (Classical.propDecidable _)
theorem sameL_yes {X Y : List Xg} (h : X.map stripX = Y.map stripX) : sameL X Y = true := by unfold sameL; exact @decide_eq_true _ (Classical.propDecidable _) h
theorem sameL_no {X Y : List Xg} (h : ¬ X.map stripX = Y.map stripX) : sameL X Y = false := by unfold sameL; exact @decide_eq_false _ (Classical.propDecidable _) h
theorem sameL_of {X Y : List Xg} (h : sameL X Y = true) : X.map stripX = Y.map stripX := by unfold sameL at h; exact @of_decide_eq_true _ (Classical.propDecidable _) h
set_option maxHeartbeats 8000000 in
theorem rexch2 (a b : Option Addr) (n m c d : Nat) (X Y : List Xg) (w : World) (hx : Lst encXg 6 w a n X) (hy : Lst encXg 6 w b m Y) (hX : ∀ x ∈ X, XV w x) (hY : ∀ y ∈ Y, XV w y) (hn : n ≤ 1048576) :
    Calls Tryd.prog 22 #[.slice a n c, .slice b m d] w fun e w' => e = .returned (.bool (sameL X Y)) ∧ Below w.heap.size w w' := by
  have HX := Lib.hid hx
  have HY := Lib.hid hy
  have HXV := Lib.hid hX
  have HYV := Lib.hid hY
  clear hx hy hX hY
  by_cases hnm : n = m
  · subst hnm
    have hq : ((n : Int) != (n : Int)) = false := by simp
    go_enter Tryd.func22, Tryd.ntmps22
    go_wp2
    go_loopw [5] (fun si wr => ∃ k : Nat, k ≤ n ∧ si = .int .i64 k ∧ Aside (Below w.heap.size w wr) ∧ Aside ((X.take k).map stripX = (Y.take k).map stripX)) (fun si _ => n - (intOf si).toNat)
    case atStart => exact ⟨0, Nat.zero_le _, rfl, Below.refl _ _, by rw [List.take_zero, List.take_zero]; exact (rfl : ([] : List Xg) = [])⟩
    case round =>
      obtain ⟨k, hk, rfl, HB, HTK⟩ := hrel
      by_cases hlt : k < n
      · obtain ⟨bx, ox, e1, hrx⟩ := HX.out.src (show 0 < n by omega)
        obtain ⟨byy, oy, e2, hry⟩ := HY.out.src (show 0 < n by omega)
        subst e1 e2
        obtain ⟨x, hx⟩ : ∃ x, X[k]? = some x := ⟨_, List.getElem?_eq_getElem (by rw [HX.out.size]; exact hlt)⟩
        obtain ⟨y, hy⟩ : ∃ y, Y[k]? = some y := ⟨_, List.getElem?_eq_getElem (by rw [HY.out.size]; exact hlt)⟩
        have HXB := Lib.hid (show wr.rangeAt bx (ox + k * 6) (encXg x) from fun j u hj => cell_later HB.out (hrx k x hx j u hj))
        have HYB := Lib.hid (show wr.rangeAt byy (oy + k * 6) (encXg y) from fun j u hj => cell_later HB.out (hry k y hy j u hj))
        have HNE := Lib.hid (show ¬ sameX16 x y → ¬ X.map stripX = Y.map stripX from fun h e => h (map_at e hx hy))
        have hxv := (HXV.out x (List.mem_of_getElem? hx)).below HB.out
        have hyv := (HYV.out y (List.mem_of_getElem? hy)).below HB.out
        have KV : Hid (∀ n' os', Calls Tryd.prog 46 #[.slice x.a x.n x.c, .slice y.a y.n y.c] (grow (atD wr n') os') fun e w'' => e = .returned (.bool (decide (x.cnt = y.cnt))) ∧ Grw (grow (atD wr n') os') w'') := Lib.hid (fun n' os' =>
          rvec x.a y.a x.n y.n x.c y.c x.cnt y.cnt _ (hxv.below (below_of_form wr n' os')).at_ (hyv.below (below_of_form wr n' os')).at_ hxv.few hyv.few)
        have HYS := Lib.hid (show sameX16 x y → (X.take (k + 1)).map stripX = (Y.take (k + 1)).map stripX from fun e => by
          rw [List.take_add_one, List.take_add_one, List.map_append, List.map_append, HTK.out, hx, hy, show (some x).toList.map stripX = [stripX x] from rfl, strip_of hxv hyv e]; rfl)
        have HS := Lib.hid (show ¬ sameX16 x y ↔ (decide (x.w = y.w) && (decide (x.oe = y.oe) && decide (x.op = y.op)) && (decide (x.k.n = y.k.n) && decide (x.k.p = y.k.p)) && decide (x.cnt = y.cnt)) = false by
          unfold sameX16
          rw [← Bool.not_eq_true]
          simp only [Bool.and_eq_true, decide_eq_true_eq]
          constructor
          · intro h e; exact h ⟨e.1.1.1, e.1.1.2, e.1.2, e.2⟩
          · intro h e; exact h ⟨⟨⟨e.1, e.2.1⟩, e.2.2.1⟩, e.2.2.2⟩)
        clear hrx hry hx hy hxv hyv
        obtain ⟨xw, xe, xp, xa, xn, xc, xt, xkn, xkp⟩ := x
        obtain ⟨yw, ye, yp, ya, yn, yc, yt, ykn, ykp⟩ := y
        simp only at KV HS
        have hxl : bx < wr.heap.size := World.block_lt_of_cell? _ _ (HXB.out 0 _ rfl)
        have hyl : byy < wr.heap.size := World.block_lt_of_cell? _ _ (HYB.out 0 _ rfl)
        have v0 := fun n' os' => cell_form hxl (show wr.cell? ⟨bx, ox + k * 6, none⟩ = some (.int .i64 xw) from HXB.out 0 _ rfl) n' os'
        have v1 := fun n' os' => cell_form hxl (show wr.cell? ⟨bx, ox + k * 6 + 1, none⟩ = some (.int .u64 xe) from HXB.out 1 _ rfl) n' os'
        have v2 := fun n' os' => cell_form hxl (show wr.cell? ⟨bx, ox + k * 6 + 2, none⟩ = some (.int .i64 xp) from HXB.out 2 _ rfl) n' os'
        have v3 := fun n' os' => cell_form hxl (show wr.cell? ⟨bx, ox + k * 6 + 3, none⟩ = some (.slice xa xn xc) from HXB.out 3 _ rfl) n' os'
        have v4 := fun n' os' => cell_form hxl (show wr.cell? ⟨bx, ox + k * 6 + 4, none⟩ = some (.int .u64 xkn) from HXB.out 4 _ rfl) n' os'
        have v5 := fun n' os' => cell_form hxl (show wr.cell? ⟨bx, ox + k * 6 + 5, none⟩ = some (.int .i64 xkp) from HXB.out 5 _ rfl) n' os'
        have u0 := fun n' os' => cell_form hyl (show wr.cell? ⟨byy, oy + k * 6, none⟩ = some (.int .i64 yw) from HYB.out 0 _ rfl) n' os'
        have u1 := fun n' os' => cell_form hyl (show wr.cell? ⟨byy, oy + k * 6 + 1, none⟩ = some (.int .u64 ye) from HYB.out 1 _ rfl) n' os'
        have u2 := fun n' os' => cell_form hyl (show wr.cell? ⟨byy, oy + k * 6 + 2, none⟩ = some (.int .i64 yp) from HYB.out 2 _ rfl) n' os'
        have u3 := fun n' os' => cell_form hyl (show wr.cell? ⟨byy, oy + k * 6 + 3, none⟩ = some (.slice ya yn yc) from HYB.out 3 _ rfl) n' os'
        have u4 := fun n' os' => cell_form hyl (show wr.cell? ⟨byy, oy + k * 6 + 4, none⟩ = some (.int .u64 ykn) from HYB.out 4 _ rfl) n' os'
        have u5 := fun n' os' => cell_form hyl (show wr.cell? ⟨byy, oy + k * 6 + 5, none⟩ = some (.int .i64 ykp) from HYB.out 5 _ rfl) n' os'
        have HEQ1 := Lib.hid (fun W => eql_conf16 9998 xe xp ye yp W)
        have HEQ2 := Lib.hid (fun W => eql_key16 9998 xkn xkp ykn ykp W)
        obtain ⟨b1, hb1⟩ : ∃ b1, b1 = (decide (xe = ye) && decide (xp = yp)) := ⟨_, rfl⟩
        obtain ⟨b2, hb2⟩ : ∃ b2, b2 = (decide (xkn = ykn) && decide (xkp = ykp)) := ⟨_, rfl⟩
        obtain ⟨b0, hb0⟩ : ∃ b0, b0 = decide (xw = yw) := ⟨_, rfl⟩
        obtain ⟨b3, hb3⟩ : ∃ b3, b3 = decide (xt = yt) := ⟨_, rfl⟩
        rw [← hb1] at HEQ1
        rw [← hb2] at HEQ2
        rw [← hb3] at KV
        rw [← hb0, ← hb1, ← hb2, ← hb3] at HS
        have hE1 : ∀ W, (Op.equalIn 10000 24 (.agg #[.int .u64 xe, .int .i64 xp]) (.agg #[.int .u64 ye, .int .i64 yp])).run Tryd.prog W = .ok b1 W := HEQ1.out
        have hE2 : ∀ W, (Op.equalIn 10000 36 (.agg #[.int .u64 xkn, .int .i64 xkp]) (.agg #[.int .u64 ykn, .int .i64 ykp])).run Tryd.prog W = .ok b2 W := HEQ2.out
        have h0 : (xw != yw) = !b0 := by
          rw [hb0]
          by_cases e : xw = yw
          · subst e; simp
          · rw [decide_eq_false e]; simpa using e
        clear hb0 hb1 hb2 hb3 HXB HYB hxl hyl
        cases b0 with
        | false =>
          replace h0 : (xw != yw) = true := h0
          have HF := Lib.hid (HNE.out (HS.out.2 (by simp)))
          clear HS HNE HYS HTK
          go_upto_region 6 with fail
          refine wp_region_quiet_below (by kernel_rfl) (by kernel_rfl) ?_
          repeat (first | go_big_quiet_skip | quiet_step (first | (go_at_call 46; exact calls_grw (KV.out _ _))))
          refine wpQuiet_nil ?_
          intro _ hw'
          obtain ⟨⟨nq, osq⟩, hw''⟩ := hw'
          subst hw''
          have HB2 := Lib.hid (HB.out.trans ((below_of_form wr nq osq).mono HB.out.size))
          clear KV HB hE1 hE2 HEQ1 HEQ2 v0 v1 v2 v3 v4 v5 u0 u1 u2 u3 u4 u5
          generalize (grow (atD wr nq) osq) = w2 at *
          go_wp2
          go_ret
          exact ⟨congrArg (fun b => Ending.returned (.bool b)) (sameL_no HF.out).symm, HB2.out⟩
        | true =>
          replace h0 : (xw != yw) = false := h0
          cases b1 with
          | false =>
            have HF := Lib.hid (HNE.out (HS.out.2 (by simp)))
            clear HS HNE HYS HTK
            go_upto_region 6 with fail
            refine wp_region_quiet_below (by kernel_rfl) (by kernel_rfl) ?_
            repeat (first | go_big_quiet_skip | quiet_step (first | (go_at_call 46; exact calls_grw (KV.out _ _))))
            refine wpQuiet_nil ?_
            intro _ hw'
            obtain ⟨⟨nq, osq⟩, hw''⟩ := hw'
            subst hw''
            have HB2 := Lib.hid (HB.out.trans ((below_of_form wr nq osq).mono HB.out.size))
            clear KV HB hE1 hE2 HEQ1 HEQ2 v0 v1 v2 v3 v4 v5 u0 u1 u2 u3 u4 u5
            generalize (grow (atD wr nq) osq) = w2 at *
            go_wp2
            go_ret
            exact ⟨congrArg (fun b => Ending.returned (.bool b)) (sameL_no HF.out).symm, HB2.out⟩
          | true =>
            cases b2 with
            | false =>
              have HF := Lib.hid (HNE.out (HS.out.2 (by simp)))
              clear HS HNE HYS HTK
              go_upto_region 6 with fail
              refine wp_region_quiet_below (by kernel_rfl) (by kernel_rfl) ?_
              repeat (first | go_big_quiet_skip | quiet_step (first | (go_at_call 46; exact calls_grw (KV.out _ _))))
              refine wpQuiet_nil ?_
              intro _ hw'
              obtain ⟨⟨nq, osq⟩, hw''⟩ := hw'
              subst hw''
              have HB2 := Lib.hid (HB.out.trans ((below_of_form wr nq osq).mono HB.out.size))
              clear KV HB hE1 hE2 HEQ1 HEQ2 v0 v1 v2 v3 v4 v5 u0 u1 u2 u3 u4 u5
              generalize (grow (atD wr nq) osq) = w2 at *
              go_wp2
              go_ret
              exact ⟨congrArg (fun b => Ending.returned (.bool b)) (sameL_no HF.out).symm, HB2.out⟩
            | true =>
              cases b3 with
              | false =>
                have HF := Lib.hid (HNE.out (HS.out.2 (by simp)))
                clear HS HNE HYS HTK
                go_upto_region 6 with fail
                refine wp_region_quiet_below (by kernel_rfl) (by kernel_rfl) ?_
                repeat (first | go_big_quiet_skip | quiet_step (first | (go_at_call 46; exact calls_grw (KV.out _ _))))
                refine wpQuiet_nil ?_
                intro _ hw'
                obtain ⟨⟨nq, osq⟩, hw''⟩ := hw'
                subst hw''
                have HB2 := Lib.hid (HB.out.trans ((below_of_form wr nq osq).mono HB.out.size))
                clear KV HB hE1 hE2 HEQ1 HEQ2 v0 v1 v2 v3 v4 v5 u0 u1 u2 u3 u4 u5
                generalize (grow (atD wr nq) osq) = w2 at *
                go_wp2
                go_ret
                exact ⟨congrArg (fun b => Ending.returned (.bool b)) (sameL_no HF.out).symm, HB2.out⟩
              | true =>
                have HT2 := Lib.hid (HYS.out (Classical.byContradiction fun hh => absurd (HS.out.1 hh) (by simp)))
                clear HS HNE HYS HTK
                go_upto_region 6 with fail
                refine wp_region_quiet_below (by kernel_rfl) (by kernel_rfl) ?_
                repeat (first | go_big_quiet_skip | quiet_step (first | (go_at_call 46; exact calls_grw (KV.out _ _))))
                refine wpQuiet_nil ?_
                intro _ hw'
                obtain ⟨⟨nq, osq⟩, hw''⟩ := hw'
                subst hw''
                have HB2 := Lib.hid (HB.out.trans ((below_of_form wr nq osq).mono HB.out.size))
                clear KV HB hE1 hE2 HEQ1 HEQ2 v0 v1 v2 v3 v4 v5 u0 u1 u2 u3 u4 u5
                generalize (grow (atD wr nq) osq) = w2 at *
                go_wp2
                go_roundw
                case rel => exact ⟨k + 1, by omega, by go_num, HB2.out, HT2.out⟩
                case measure => simp [intOf]; omega
      · obtain rfl : k = n := by omega
        have HB2 := Lib.hid HB.out
        clear HB
        go_wp2
        go_ret
        exact ⟨congrArg (fun b => Ending.returned (.bool b)) (sameL_yes (by have := HTK.out; rwa [List.take_of_length_le (by rw [HX.out.size]; exact Nat.le_refl _), List.take_of_length_le (by rw [HY.out.size]; exact Nat.le_refl _)] at this)).symm, HB2.out⟩
  · have hq : ((n : Int) != (m : Int)) = true := by simp; omega
    have HF := Lib.hid (show ¬ X.map stripX = Y.map stripX from fun e => by
      have h1 := congrArg List.length e
      rw [List.length_map, List.length_map, HX.out.size, HY.out.size] at h1
      exact hnm h1)
    clear hnm
    go_enter Tryd.func22, Tryd.ntmps22
    go_wp2
    go_ret
    exact ⟨congrArg (fun b => Ending.returned (.bool b)) (sameL_no HF.out).symm, Below.refl _ _⟩
end Go.Proofs.YtmaiphgmnammgaaDoor
