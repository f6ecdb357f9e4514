/- Attempts: an exchange comes. (Written by wip/gen_gaadd.py.) -/
import Derived.Test.YtmaiphgmnammgaaDoorZGaReady
import Derived.Test.YtmaiphgmnammgaaDoorZBel
set_option linter.unusedVariables false
set_option maxRecDepth 100000
set_option linter.unusedSimpArgs false
namespace Go.Proofs.YtmaiphgmnammgaaDoor
open Go.RowKit Go.Sort Go.Maps

/-- What stands while the exchange is laid into the map. -/
structure AddHeld (g mb : Nat) (S : Gt) (xb : Nat) (x : Xg) (w : World) : Prop where
  own : Own w g 71 #[.int .u64 S.e, .int .i64 S.r, .int .u64 (S.M : Int), .map (some mb), .int .u64 (S.Y : Int)]
  box : XgB w xb x
/-- What Add leaves: the exchange that is kept has counts of its own. -/
def AddSaid (w : World) (g mb : Nat) (S : Gt) (x : Xg) (e : Ending) (w' : World) : Prop :=
  ∃ y, stripX y = stripX x ∧ Acted w g mb (addG S y) (addB S x) e w'
theorem add_no {S : Gt} {x : Xg} (h : freshG S x.w = false) : addG S x = S ∧ addB S x = false := by
  unfold addG addB
  rw [h]
  exact ⟨if_neg (by decide), rfl⟩
section
variable {w : World} {g mb : Nat} {S : Gt}
set_option maxHeartbeats 4000000 in
theorem gadd (h : GtB w g mb S) (x : Xg) (hx : XI w x) :
    Calls Tryd.prog 13 #[.pointer (some ⟨g, 0, none⟩), encXv x] w (AddSaid w g mb S x) := by
  have L1 := ((Grw.refl w).alloc (.cells (encXg x).toArray 38)).below
  have X1 := Lib.hid (XgB.new w x)
  have H1 := Lib.hid (h.later L1)
  have HX := Lib.hid (hx.below L1)
  have HB1 := Lib.hid L1
  have hz : I64k x.w := ⟨hx.ok.w0, hx.ok.w1⟩
  clear h hx L1
  have HFR := Lib.hid (show freshG S x.w = (mem S.M x.w && !(S.H x.w).isSome) by unfold freshG; cases S.H x.w <;> rfl)
  obtain ⟨f, oe, op, a, n, c, ct, kn, kp⟩ := x
  show Calls Tryd.prog 13 #[.pointer (some ⟨g, 0, none⟩), .agg #[.int .i64 f, .int .u64 oe, .int .i64 op, .slice a n c, .int .u64 kn, .int .i64 kp]] w _
  replace HB1 : Hid (Below w.heap.size w (w.alloc (.cells #[.int .i64 f, .int .u64 oe, .int .i64 op, .slice a n c, .int .u64 kn, .int .i64 kp] 38))) := HB1
  replace X1 : Hid (XgB (w.alloc (.cells #[.int .i64 f, .int .u64 oe, .int .i64 op, .slice a n c, .int .u64 kn, .int .i64 kp] 38)) w.heap.size ⟨f, oe, op, a, n, c, ct, ⟨kn, kp⟩⟩) := X1
  replace H1 : Hid (GtB (w.alloc (.cells #[.int .i64 f, .int .u64 oe, .int .i64 op, .slice a n c, .int .u64 kn, .int .i64 kp] 38)) g mb S) := H1
  replace HX : Hid (XI (w.alloc (.cells #[.int .i64 f, .int .u64 oe, .int .i64 op, .slice a n c, .int .u64 kn, .int .i64 kp] 38)) ⟨f, oe, op, a, n, c, ct, ⟨kn, kp⟩⟩) := HX
  simp only at hz HFR
  go_enter Tryd.func13, Tryd.ntmps13
  go_upto_region 1 with fail
  generalize (w.alloc (.cells #[.int .i64 f, .int .u64 oe, .int .i64 op, .slice a n c, .int .u64 kn, .int .i64 kp] 38)) = w1 at *
  obtain ⟨xb, hxb⟩ : ∃ xb, xb = w.heap.size := ⟨_, rfl⟩
  rw [← hxb] at X1
  try rw [← hxb]
  clear hxb
  have hgl := H1.out.lt
  have hxl := Own.lt X1.out
  have v2 := fun n' os' => cell_form hgl H1.out.c2 n' os'
  have v0 := fun n' os' => cell_form hxl (show w1.cell? ⟨xb, 0, none⟩ = some (.int .i64 f) from X1.out.own.at_ 0 _ rfl) n' os'
  have K1 : Hid (∀ n' os', Calls Tryd.prog 28 #[.int .u64 (S.M : Int), .int .i64 f] (grow (atD w1 n') os') fun e w'' => e = .returned (.bool (mem S.M f)) ∧ Below (grow (atD w1 n') os').heap.size (grow (atD w1 n') os') w'') := Lib.hid (fun n' os' =>
    (has_any S.M f (grow (atD w1 n') os') H1.out.ok.m hz.1 hz.2).mono fun e w'' ⟨h1, h2⟩ => ⟨h1, by rw [← h2]; exact Below.refl _ _⟩)
  have K2 : Hid (∀ n' os', Calls Tryd.prog 39 #[.pointer (some ⟨g, 0, none⟩), .int .i64 f] (grow (atD w1 n') os') fun e w'' => e = .returned (.bool (S.H f).isSome) ∧ Below (grow (atD w1 n') os').heap.size (grow (atD w1 n') os') w'') := Lib.hid (fun n' os' =>
    ghas (H1.out.later (below_of_form w1 n' os')) f hz)
  cases hm : mem S.M f with
  | false =>
    rw [hm] at K1
    have HN := Lib.hid (add_no (S := S) (x := ⟨f, oe, op, a, n, c, ct, ⟨kn, kp⟩⟩) (by rw [HFR.out, hm]; rfl))
    clear hm HFR
    refine wp_region_quiet_below (by kernel_rfl) (by kernel_rfl) ?_
    repeat (quiet_step (first | (go_at_call 28; exact calls_below (K1.out _ _)) | (go_at_call 39; exact calls_below (K2.out _ _))))
    refine wpQuiet_nil ?_
    intro _ hw'
    obtain ⟨⟨nq, osq⟩, hw''⟩ := hw'
    subst hw''
    have H2 := Lib.hid (H1.out.later (below_of_form w1 nq osq))
    have HB2 := Lib.hid (HB1.out.trans ((below_of_form w1 nq osq).mono HB1.out.size))
    clear K1 K2 v0 v2 H1 HB1 X1 HX
    generalize (grow (atD w1 nq) osq) = w2 at *
    go_wp2
    go_ret
    exact ⟨⟨f, oe, op, a, n, c, ct, ⟨kn, kp⟩⟩, rfl, by rw [HN.out.2]; rfl, by rw [HN.out.1]; exact H2.out, Chg.of_below HB2.out⟩
  | true =>
  rw [hm] at K1
  cases hs : (S.H f).isSome with
  | true =>
    rw [hs] at K2
    have HN := Lib.hid (add_no (S := S) (x := ⟨f, oe, op, a, n, c, ct, ⟨kn, kp⟩⟩) (by rw [HFR.out, hm, hs]; rfl))
    clear hm hs HFR
    refine wp_region_quiet_below (by kernel_rfl) (by kernel_rfl) ?_
    repeat (quiet_step (first | (go_at_call 28; exact calls_below (K1.out _ _)) | (go_at_call 39; exact calls_below (K2.out _ _))))
    refine wpQuiet_nil ?_
    intro _ hw'
    obtain ⟨⟨nq, osq⟩, hw''⟩ := hw'
    subst hw''
    have H2 := Lib.hid (H1.out.later (below_of_form w1 nq osq))
    have HB2 := Lib.hid (HB1.out.trans ((below_of_form w1 nq osq).mono HB1.out.size))
    clear K1 K2 v0 v2 H1 HB1 X1 HX
    generalize (grow (atD w1 nq) osq) = w2 at *
    go_wp2
    go_ret
    exact ⟨⟨f, oe, op, a, n, c, ct, ⟨kn, kp⟩⟩, rfl, by rw [HN.out.2]; rfl, by rw [HN.out.1]; exact H2.out, Chg.of_below HB2.out⟩
  | false =>
    rw [hs] at K2
    have HF := Lib.hid (show freshG S f = true by rw [HFR.out, hm, hs]; rfl)
    have HNO : Hid (S.H f = none) := Lib.hid (by cases e : S.H f with | none => rfl | some y => rw [e] at hs; cases hs)
    clear hm hs HFR
    refine wp_region_quiet_below (by kernel_rfl) (by kernel_rfl) ?_
    repeat (quiet_step (first | (go_at_call 28; exact calls_below (K1.out _ _)) | (go_at_call 39; exact calls_below (K2.out _ _))))
    refine wpQuiet_nil ?_
    intro _ hw'
    obtain ⟨⟨nq, osq⟩, hw''⟩ := hw'
    subst hw''
    have H2 := Lib.hid (H1.out.later (below_of_form w1 nq osq))
    have HB2 := Lib.hid (HB1.out.trans ((below_of_form w1 nq osq).mono HB1.out.size))
    have X2 := Lib.hid (X1.out.below (below_of_form w1 nq osq))
    have HX2 := Lib.hid (HX.out.below (below_of_form w1 nq osq))
    clear K1 K2 v0 v2 H1 HB1 X1 HX hgl hxl
    generalize (grow (atD w1 nq) osq) = w2 at *
    go_upto_region 3 with fail
    have HT0 : AddHeld g mb S xb ⟨f, oe, op, a, n, c, ct, ⟨kn, kp⟩⟩ w2.drew := ⟨H2.out.blk.drew, X2.out⟩
    have H3 := Lib.hid (H2.out.later (Grw.refl w2).drew.below)
    have HB3 := Lib.hid (HB2.out.trans ((Grw.refl w2).drew.below.mono HB2.out.size))
    have HX3 := Lib.hid (HX2.out.below (Grw.refl w2).drew.below)
    clear H2 HB2 X2 HX2
    refine wp_region_held_drew (S := AddHeld g mb S xb ⟨f, oe, op, a, n, c, ct, ⟨kn, kp⟩⟩) (by kernel_rfl) HT0 (fun hHeld => ?_)
    clear HT0
    generalize w2.drew = w3 at *
    refine stake (i := 0) (v := (.pointer (some ⟨g, 0, none⟩))) 19 rfl (by kernel_rfl) (by kernel_rfl) (by kernel_rfl) (by kernel_rfl) (fun _ _ _ h => h) (.inl ⟨by kernel_rfl, fun w' hS => by (go_simp)⟩) hHeld ?_
    (try simp only [Act.put, List.setIfInBounds_toArray, List.set_cons_zero, List.set_cons_succ])
    refine stake (i := 1) (v := (.pointer (some ⟨g, 0, none⟩))) 20 rfl (by kernel_rfl) (by kernel_rfl) (by kernel_rfl) (by kernel_rfl) (fun _ _ _ h => h) (.inl ⟨by kernel_rfl, fun w' hS => by (go_simp)⟩) hHeld ?_
    (try simp only [Act.put, List.setIfInBounds_toArray, List.set_cons_zero, List.set_cons_succ])
    refine stake (i := 2) (v := (.pointer (some ⟨g, 3, none⟩))) 21 rfl (by kernel_rfl) (by kernel_rfl) (by kernel_rfl) (by kernel_rfl) (fun _ _ _ h => h) (.inl ⟨by kernel_rfl, fun w' hS => by (go_simp)⟩) hHeld ?_
    (try simp only [Act.put, List.setIfInBounds_toArray, List.set_cons_zero, List.set_cons_succ])
    refine stake (i := 3) (v := (.map (some mb))) 22 rfl (by kernel_rfl) (by kernel_rfl) (by kernel_rfl) (by kernel_rfl) (fun _ _ _ h => h) (.inl ⟨by kernel_rfl, fun w' hS => by (have hc := hS.own.at_ 3 _ rfl; go_simp)⟩) hHeld ?_
    (try simp only [Act.put, List.setIfInBounds_toArray, List.set_cons_zero, List.set_cons_succ])
    refine stake (i := 4) (v := (.pointer (some ⟨xb, 0, none⟩))) 23 rfl (by kernel_rfl) (by kernel_rfl) (by kernel_rfl) (by kernel_rfl) (fun _ _ _ h => h) (.inl ⟨by kernel_rfl, fun w' hS => by (go_simp)⟩) hHeld ?_
    (try simp only [Act.put, List.setIfInBounds_toArray, List.set_cons_zero, List.set_cons_succ])
    refine stake (i := 5) (v := (.int .i64 f)) 24 rfl (by kernel_rfl) (by kernel_rfl) (by kernel_rfl) (by kernel_rfl) (fun _ _ _ h => h) (.inl ⟨by kernel_rfl, fun w' hS => by (have hc : w'.cell? ⟨xb, 0, none⟩ = some (.int .i64 f) := hS.box.own.at_ 0 _ rfl; go_simp)⟩) hHeld ?_
    (try simp only [Act.put, List.setIfInBounds_toArray, List.set_cons_zero, List.set_cons_succ])
    refine stake (i := 6) (v := (.agg #[.int .i64 f, .int .u64 oe, .int .i64 op, .slice a n c, .int .u64 kn, .int .i64 kp])) 25 rfl (by kernel_rfl) (by kernel_rfl) (by kernel_rfl) (by kernel_rfl) (fun _ _ _ h => h) (yields_xgm (m := ⟨f, oe, op, a, n, c, ct, ⟨kn, kp⟩⟩) (by kernel_rfl) (.tmp 3) rfl xb 0 (by kernel_rfl) (fun _ hS => xgb_range hS.box)) hHeld ?_
    (try simp only [Act.put, List.setIfInBounds_toArray, List.set_cons_zero, List.set_cons_succ])
    have HS := Lib.hid hHeld
    have HOW := gown ⟨f, oe, op, a, n, c, ct, ⟨kn, kp⟩⟩ w3 HX3.out.at_ HX3.out.few HX3.out.u32
    unfold encXv encXg at HOW
    simp only at HOW
    refine wpAnyH_ready (rs := [7]) (by kernel_rfl) (by simp) (AllReadyH.cons rfl (fun K hK => ?_) AllReadyH.nil)
    clear hHeld
    rw [if_pos (by kernel_rfl)]
    go_simp
    refine HOW.mono ?_
    rintro e w8 ⟨y, rfl, hst, hxt, hnew, L8⟩
    have H8 : AddHeld g mb S xb ⟨f, oe, op, a, n, c, ct, ⟨kn, kp⟩⟩ w8 := ⟨HS.out.own.below L8 HS.out.own.lt, HS.out.box.below L8⟩
    have G8 := Lib.hid (H3.out.later L8)
    have HB8 := Lib.hid (HB3.out.trans (L8.mono HB3.out.size))
    refine hK.out _ _ H8 (fun hHeld => ?_)
    clear hK K HS H8 H3 HOW L8 HB3 HX3
    (try simp only [Act.put, List.setIfInBounds_toArray, List.set_cons_zero, List.set_cons_succ])
    have hyw : y.w = f := stripX_w hst
    obtain ⟨w9, hrun9, A9, T9⟩ := G8.out.map.store mapX f hz HNO.out (by have := G8.out.ok.le; have := card_le S.M; unfold maxLen; omega) y
    have hadd : addG S y = { S with H := setI S.H f (some y), n := S.n + 1 } := by unfold addG; rw [hyw, if_pos HF.out]
    have G9 : Hid (GtB w9 g mb (addG S y)) := Lib.hid (by
      have hok := G8.out.ok.add y
      rw [hadd] at hok ⊢
      refine G8.out.setH A9 T9 (fun k x hk => ?_) hok
      by_cases e : k = f
      · subst e
        rw [setI_same] at hk
        injection hk with hk
        subst hk
        exact hxt
      · rw [setI_other _ _ _ e] at hk
        exact G8.out.xs k x hk)
    have hne : xb ≠ mb := by
      rintro rfl
      obtain ⟨es, cc, hm⟩ := G8.out.map.is
      have := hHeld.box.own.is.symm.trans hm
      injection this with e1
      cases e1
    have H9 : AddHeld g mb S xb ⟨f, oe, op, a, n, c, ct, ⟨kn, kp⟩⟩ w9 := ⟨hHeld.own.grown T9.grown (fun e => by injection e with e; exact G8.out.ne e), hHeld.box.own.grown T9.grown (fun e => by injection e with e; exact hne e)⟩
    have HC9 : Hid (Chg (fun k => k = g ∨ k = mb) w w9) := Lib.hid ((Chg.of_below HB8.out).trans (Chg.grown T9.grown fun k e => by injection e with e; exact .inr e.symm))
    have HST := Lib.hid hst
    have HAB : Hid (addB S ⟨f, oe, op, a, n, c, ct, ⟨kn, kp⟩⟩ = toldG (addG S y)) := Lib.hid (by
      unfold addB
      rw [hadd]
      simp only
      rw [HF.out]; rfl)
    clear G8 A9 T9 hxt hnew HB8 hne hst hyw hadd
    obtain ⟨yv, hyv⟩ : ∃ yv, yv = encXv y := ⟨_, rfl⟩
    rw [← hyv] at hrun9
    try rw [← hyv]
    clear hyv
    refine wpAnyH_ready (rs := [8]) (by kernel_rfl) (by simp) (AllReadyH.cons rfl (fun K hK => ?_) AllReadyH.nil)
    clear hHeld
    rw [if_pos (by kernel_rfl)]
    go_simp
    refine hK.out _ _ H9 (fun hHeld => ?_)
    clear hK K hHeld hrun9 H9
    refine wpAnyH_done (by kernel_rfl) ?_ _
    have PT := gtold G9.out
    go_wp2_with fail
    refine PT.mono ?_
    rintro e w10 ⟨rfl, B10⟩
    have G10 := Lib.hid (G9.out.later B10)
    have HC10 := Lib.hid (HC9.out.then B10)
    clear PT B10 G9 HC9
    go_wp2
    go_ret
    exact ⟨y, HST.out, by rw [HAB.out]; rfl, G10.out, HC10.out⟩
end
end Go.Proofs.YtmaiphgmnammgaaDoor
