/- VoteVotes: the walk. (Written by wip/gen_vovotes.py.) -/
import Derived.Test.YtlaenabckpjikaaVoRef4
set_option linter.unusedVariables false
set_option maxRecDepth 100000
set_option linter.unusedSimpArgs false
namespace Go.Proofs.Ytlaenabckpjikaa
open Go.RowKit Go.Sort Go.Maps

theorem le_sum18 {l : List Nat} {x : Nat} (h : x ∈ l) : x ≤ l.sum := by
  induction l with
  | nil => cases h
  | cons y r ih =>
    rw [List.sum_cons]
    rcases List.mem_cons.1 h with e | e
    · omega
    · have := ih e; omega
structure VvSt (w wr : World) (ao a7 : Option Addr) (n : Nat) (l : List Rc) (fb : Nat) (nn : Int) : Prop where
  l1 : RcL wr ao n l
  l2 : RcL wr a7 n l
  f : RcB wr fb (firstR nn)
  bel : Below w.heap.size w wr
theorem VvSt.later {w wr w' : World} {ao a7 : Option Addr} {n : Nat} {l : List Rc} {fb : Nat} {nn : Int} (h : VvSt w wr ao a7 n l fb nn) (hb : Below wr.heap.size wr w') : VvSt w w' ao a7 n l fb nn :=
  ⟨h.l1.below hb, h.l2.below hb, h.f.later hb, h.bel.trans (hb.mono h.bel.size)⟩
set_option maxHeartbeats 8000000 in
theorem walk_VoteVotes {w : World} (ao : Option Addr) (n c : Nat) (l : List Rc) (h : RcL w ao n l ∧ (∀ m ∈ l, m.k ≤ 4398046511104) ∧ n ≤ 4398046511104) (a : Int) (ha : (Lit.int .u64 a).wf = true) (nn : Int) (hb : (Lit.int .i64 nn).wf = true) :
    Calls Try.prog 3 #[.slice ao n c, .int .u64 a, .int .i64 nn] w fun e w' => e = .returned (.bool true) ∧ Below w.heap.size w w' := by
  obtain ⟨s, rfl, hs⟩ := nat_u64 ha
  have hn64 := Go.bounds_i64 hb
  have HL := Lib.hid h.1
  have HK := Lib.hid h.2.1
  clear h ha hb
  have PA := awake18 w
  go_enter Try.func3, Try.ntmps3
  go_wp2_with fail
  refine PA.mono ?_
  rintro e w1 ⟨rfl, B1⟩
  have PF := vfew (HL.out.below B1) c HK.out
  have HB1 := Lib.hid B1
  clear PA B1
  go_wp2_with fail
  refine PF.mono ?_
  rintro e w2 ⟨hor, rfl⟩
  clear PF
  rcases hor with rfl | ⟨rfl, hfew⟩
  · go_wp2
    go_ret
    exact ⟨rfl, HB1.out⟩
  have hn : n ≤ 1000 := by omega
  have hsum : sumP (psL l) ≤ 99999 := by omega
  have hkk : ∀ x ∈ l, x.k ≤ 100000 := fun x hx => by
    have h1 : x.p.pend.length ≤ sumP (psL l) := by
      unfold sumP
      exact le_sum18 (List.mem_map.2 ⟨x.p, List.mem_map.2 ⟨x, hx, rfl⟩, rfl⟩)
    have h2 := (HL.out.in_ x hx).len
    omega
  have HKK := Lib.hid hkk
  have PO := vof (HL.out.below HB1.out) c hn
  clear hkk
  go_wp2_with fail
  refine PO.mono ?_
  rintro e w3 ⟨a7, c7, rfl, O3, B3⟩
  have HB3 := Lib.hid (HB1.out.trans (B3.mono HB1.out.size))
  have HL3 := HL.out.below HB3.out
  have HD3 := Lib.hid (show RcL w3 a7 n l from ⟨own_lst' encRc_length HL.out.at_.size O3, HL3.in_⟩)
  clear PO O3 B3 HL3
  have P4 : Calls Try.prog 10 #[.int .i64 nn] w3 fun e w' => e = .returned (.agg #[.int .u64 0, .int .u64 0, .int .i64 0, .int .u64 (below nn : Nat), .slice none 0 0]) ∧ Below w3.heap.size w3 w' := vfirst nn w3 hn64.1 hn64.2
  go_wp2_with fail
  refine P4.mono ?_
  rintro e w4 ⟨rfl, B4⟩
  have HB4 := HB3.out.trans (B4.mono HB3.out.size)
  have L5 := ((Grw.refl w4).alloc (.cells #[.int .u64 0, .int .u64 0, .int .i64 0, .int .u64 (below nn : Nat), .slice none 0 0] 34)).below
  have F5 : RcB (w4.alloc (.cells #[.int .u64 0, .int .u64 0, .int .i64 0, .int .u64 (below nn : Nat), .slice none 0 0] 34)) w4.heap.size (firstR nn) := Own.new w4 _ _
  have ST5 := Lib.hid (show VvSt w (w4.alloc (.cells #[.int .u64 0, .int .u64 0, .int .i64 0, .int .u64 (below nn : Nat), .slice none 0 0] 34)) ao a7 n l w4.heap.size nn from
    ⟨HL.out.below (HB4.trans (L5.mono HB4.size)), (HD3.out.below B4).below L5, F5, HB4.trans (L5.mono HB4.size)⟩)
  clear P4 B4 HB4 L5 F5 HB3 HD3
  go_upto_region 7 with fail
  generalize w4.alloc (.cells #[.int .u64 0, .int .u64 0, .int .i64 0, .int .u64 (below nn : Nat), .slice none 0 0] 34) = w5 at *
  generalize w4.heap.size = fb at *
  have HOK := HL.out.ok
  have HPO := Lib.hid (pendV_ok _ HOK)
  have HPL := pendV_le (psL l)
  have Q1 := Lib.hid (show ∀ wx, RcL wx ao n l → _ from fun wx hx => vlast hx c (by omega))
  have Q2 := Lib.hid (show ∀ wx, RcL wx a7 n l → _ from fun wx hx => rlast hx c7 (by omega))
  have Q3 := Lib.hid (show ∀ wx, RcL wx ao n l → _ from fun wx hx => vpend hx c (by omega) (by omega))
  have Q4 := Lib.hid (show ∀ wx, RcL wx a7 n l → _ from fun wx hx => rpend hx c7 (by omega) (by omega))
  have Q5 := Lib.hid (show ∀ wx, RcL wx ao n l → _ from fun wx hx => vmay hx c (by omega) hsum s hs)
  have Q6 := Lib.hid (show ∀ wx, RcL wx a7 n l → _ from fun wx hx => rmay hx c7 (by omega) (by omega) s hs)
  have Q7 := Lib.hid (show ∀ wx, RcL wx ao n l → _ from fun wx hx => vnext hx c (by omega) HKK.out)
  have Q8 := Lib.hid (show ∀ wx, RcL wx a7 n l → _ from fun wx hx => rnext hx c7 (by omega) HKK.out)
  obtain ⟨P0, hP⟩ : ∃ P0, P0 = pendV (psL l) := ⟨_, rfl⟩
  obtain ⟨⟨tn, te, tr, tm⟩, hT⟩ : ∃ T, T = lastR (psL l) := ⟨_, rfl⟩
  obtain ⟨bm, hbm⟩ : ∃ bm, bm = mayV s (psL l) := ⟨_, rfl⟩
  obtain ⟨nx, hnx⟩ : ∃ nx, nx = nextV (psL l) := ⟨_, rfl⟩
  rw [← hT] at Q1 Q2
  rw [← hP] at Q3 Q4 HPO HPL
  rw [← hbm] at Q5 Q6
  rw [← hnx] at Q7 Q8
  unfold valV encV at Q1 Q2
  have hq1 : ∀ w, (binOp .eql 31 (.agg #[.int .u64 tn, .int .u64 te, .int .i64 tr, .int .u64 tm]) (.agg #[.int .u64 tn, .int .u64 te, .int .i64 tr, .int .u64 tm])).run Try.prog w = .ok (.bool true) w := fun w => by
    have := eql_vw ⟨tn, te, tr, tm⟩ ⟨tn, te, tr, tm⟩ w
    rw [decide_eq_true rfl] at this
    exact this
  have hq2 : ∀ w, (binOp .eql 31 (.agg #[.int .u64 0, .int .u64 0, .int .i64 0, .int .u64 (below nn : Nat)]) (.agg #[.int .u64 0, .int .u64 0, .int .i64 0, .int .u64 (below nn : Nat)])).run Try.prog w = .ok (.bool true) w := fun w => by
    have := eql_vw ⟨0, 0, 0, below nn⟩ ⟨0, 0, 0, below nn⟩ w
    rw [decide_eq_true rfl] at this
    exact this
  have HQ1 := Lib.hid hq1
  have HQ2 := Lib.hid hq2
  clear hP hT hbm hnx hq1 hq2 HOK
  have st20 := ST5.out.later (Grw.refl w5).drew.below
  refine wp_region_held_drew (S := fun w' => RcB w' fb (firstR nn)) (by kernel_rfl) st20.f (fun hHeld => ?_)
  clear ST5
  generalize w5.drew = w20 at *
  refine vtake (i := 0) (v := (.slice ao n c)) 18 rfl (by kernel_rfl) (by kernel_rfl) (by kernel_rfl) (by kernel_rfl) (fun _ _ _ h => h) (.inl ⟨by kernel_rfl, fun w' hS => by (go_simp)⟩) hHeld ?_
  (try simp only [Act.put, List.setIfInBounds_toArray, List.set_cons_zero, List.set_cons_succ])
  refine vtake (i := 2) (v := (.slice a7 n c7)) 20 rfl (by kernel_rfl) (by kernel_rfl) (by kernel_rfl) (by kernel_rfl) (fun _ _ _ h => h) (.inl ⟨by kernel_rfl, fun w' hS => by (go_simp)⟩) hHeld ?_
  (try simp only [Act.put, List.setIfInBounds_toArray, List.set_cons_zero, List.set_cons_succ])
  refine wpAnyH_ready (rs := [1]) (by kernel_rfl) (by simp) (AllReadyH.cons rfl (fun K hK => ?_) AllReadyH.nil)
  clear hHeld
  rw [if_pos (by kernel_rfl)]
  have P := Q1.out w20 st20.l1
  go_simp
  refine P.mono ?_
  rintro e w21 ⟨rfl, BB⟩
  have st21 := st20.later BB
  refine hK.out _ _ st21.f (fun hHeld => ?_)
  clear hK K P BB st20
  (try simp only [Act.put, List.setIfInBounds_toArray, List.set_cons_zero, List.set_cons_succ])
  refine wpAnyH_ready (rs := [3]) (by kernel_rfl) (by simp) (AllReadyH.cons rfl (fun K hK => ?_) AllReadyH.nil)
  clear hHeld
  rw [if_pos (by kernel_rfl)]
  have P := Q2.out w21 st21.l2
  go_simp
  refine P.mono ?_
  rintro e w22 ⟨rfl, BB⟩
  have st22 := st21.later BB
  refine hK.out _ _ st22.f (fun hHeld => ?_)
  clear hK K P BB st21
  (try simp only [Act.put, List.setIfInBounds_toArray, List.set_cons_zero, List.set_cons_succ])
  refine vtake (i := 4) (v := (.bool true)) 22 rfl (by kernel_rfl) (by kernel_rfl) (by kernel_rfl) (by kernel_rfl) (fun _ _ _ h => h) (.inl ⟨by kernel_rfl, fun w' hS => by (have hq := HQ1.out w'; go_simp)⟩) hHeld ?_
  (try simp only [Act.put, List.setIfInBounds_toArray, List.set_cons_zero, List.set_cons_succ])
  refine vtake (i := 5) (v := (.bool true)) 23 rfl (by kernel_rfl) (by kernel_rfl) (by kernel_rfl) (by kernel_rfl) (fun _ _ _ h => h) (.inl ⟨by kernel_rfl, fun w' hS => by (go_simp)⟩) hHeld ?_
  (try simp only [Act.put, List.setIfInBounds_toArray, List.set_cons_zero, List.set_cons_succ])
  refine vtake (i := 6) (v := (.slice ao n c)) 24 rfl (by kernel_rfl) (by kernel_rfl) (by kernel_rfl) (by kernel_rfl) (fun _ _ _ h => h) (.inl ⟨by kernel_rfl, fun w' hS => by (go_simp)⟩) hHeld ?_
  (try simp only [Act.put, List.setIfInBounds_toArray, List.set_cons_zero, List.set_cons_succ])
  refine vtake (i := 8) (v := (.slice a7 n c7)) 26 rfl (by kernel_rfl) (by kernel_rfl) (by kernel_rfl) (by kernel_rfl) (fun _ _ _ h => h) (.inl ⟨by kernel_rfl, fun w' hS => by (go_simp)⟩) hHeld ?_
  (try simp only [Act.put, List.setIfInBounds_toArray, List.set_cons_zero, List.set_cons_succ])
  refine wpAnyH_ready (rs := [7]) (by kernel_rfl) (by simp) (AllReadyH.cons rfl (fun K hK => ?_) AllReadyH.nil)
  clear hHeld
  rw [if_pos (by kernel_rfl)]
  have P := Q3.out w22 st22.l1
  go_simp
  refine P.mono ?_
  rintro e w23 ⟨v1, rfl, O1, BB⟩
  obtain ⟨a1, c1, rfl⟩ := own_form' O1
  have R1 := own_vws O1 rfl HPO.out
  have st23 := st22.later BB
  refine hK.out _ _ st23.f (fun hHeld => ?_)
  clear hK K P BB st22
  (try simp only [Act.put, List.setIfInBounds_toArray, List.set_cons_zero, List.set_cons_succ])
  refine wpAnyH_ready (rs := [9]) (by kernel_rfl) (by simp) (AllReadyH.cons rfl (fun K hK => ?_) AllReadyH.nil)
  clear hHeld
  rw [if_pos (by kernel_rfl)]
  have P := Q4.out w23 st23.l2
  go_simp
  refine P.mono ?_
  rintro e w24 ⟨v2, rfl, O2, BB⟩
  obtain ⟨a2, c2, rfl⟩ := own_form' O2
  have R2 := own_vws O2 rfl HPO.out
  have R1 := R1.below BB
  have st24 := st23.later BB
  refine hK.out _ _ st24.f (fun hHeld => ?_)
  clear hK K P BB st23
  (try simp only [Act.put, List.setIfInBounds_toArray, List.set_cons_zero, List.set_cons_succ])
  have QV : Calls Try.prog 13 #[.slice a1 P0.length c1, .slice a2 P0.length c2] w24 fun e w' => e = .returned (.bool true) ∧ Below w24.heap.size w24 w' := by
    have := rviews R1 R2 c1 c2 (by omega) (by omega)
    rw [decide_eq_true rfl] at this
    exact this
  refine wpAnyH_ready (rs := [10]) (by kernel_rfl) (by simp) (AllReadyH.cons rfl (fun K hK => ?_) AllReadyH.nil)
  clear hHeld
  rw [if_pos (by kernel_rfl)]
  have P := QV
  go_simp
  refine P.mono ?_
  rintro e w25 ⟨rfl, BB⟩
  have st25 := st24.later BB
  refine hK.out _ _ st25.f (fun hHeld => ?_)
  clear hK K P BB st24
  (try simp only [Act.put, List.setIfInBounds_toArray, List.set_cons_zero, List.set_cons_succ])
  clear QV R1 R2 O1 O2
  refine vtake (i := 11) (v := (.bool true)) 29 rfl (by kernel_rfl) (by kernel_rfl) (by kernel_rfl) (by kernel_rfl) (fun _ _ _ h => h) (.inl ⟨by kernel_rfl, fun w' hS => by (go_simp)⟩) hHeld ?_
  (try simp only [Act.put, List.setIfInBounds_toArray, List.set_cons_zero, List.set_cons_succ])
  refine vtake (i := 12) (v := (.bool true)) 30 rfl (by kernel_rfl) (by kernel_rfl) (by kernel_rfl) (by kernel_rfl) (fun _ _ _ h => h) (.inl ⟨by kernel_rfl, fun w' hS => by (go_simp)⟩) hHeld ?_
  (try simp only [Act.put, List.setIfInBounds_toArray, List.set_cons_zero, List.set_cons_succ])
  refine vtake (i := 13) (v := (.int .u64 (s : Int))) 31 rfl (by kernel_rfl) (by kernel_rfl) (by kernel_rfl) (by kernel_rfl) (fun _ _ _ h => h) (.inl ⟨by kernel_rfl, fun w' hS => by (go_simp)⟩) hHeld ?_
  (try simp only [Act.put, List.setIfInBounds_toArray, List.set_cons_zero, List.set_cons_succ])
  refine vtake (i := 14) (v := (.slice ao n c)) 32 rfl (by kernel_rfl) (by kernel_rfl) (by kernel_rfl) (by kernel_rfl) (fun _ _ _ h => h) (.inl ⟨by kernel_rfl, fun w' hS => by (go_simp)⟩) hHeld ?_
  (try simp only [Act.put, List.setIfInBounds_toArray, List.set_cons_zero, List.set_cons_succ])
  refine vtake (i := 16) (v := (.int .u64 (s : Int))) 34 rfl (by kernel_rfl) (by kernel_rfl) (by kernel_rfl) (by kernel_rfl) (fun _ _ _ h => h) (.inl ⟨by kernel_rfl, fun w' hS => by (go_simp)⟩) hHeld ?_
  (try simp only [Act.put, List.setIfInBounds_toArray, List.set_cons_zero, List.set_cons_succ])
  refine vtake (i := 17) (v := (.slice a7 n c7)) 35 rfl (by kernel_rfl) (by kernel_rfl) (by kernel_rfl) (by kernel_rfl) (fun _ _ _ h => h) (.inl ⟨by kernel_rfl, fun w' hS => by (go_simp)⟩) hHeld ?_
  (try simp only [Act.put, List.setIfInBounds_toArray, List.set_cons_zero, List.set_cons_succ])
  refine wpAnyH_ready (rs := [15]) (by kernel_rfl) (by simp) (AllReadyH.cons rfl (fun K hK => ?_) AllReadyH.nil)
  clear hHeld
  rw [if_pos (by kernel_rfl)]
  have P := Q5.out w25 st25.l1
  go_simp
  refine P.mono ?_
  rintro e w26 ⟨rfl, BB⟩
  have st26 := st25.later BB
  refine hK.out _ _ st26.f (fun hHeld => ?_)
  clear hK K P BB st25
  (try simp only [Act.put, List.setIfInBounds_toArray, List.set_cons_zero, List.set_cons_succ])
  refine wpAnyH_ready (rs := [18]) (by kernel_rfl) (by simp) (AllReadyH.cons rfl (fun K hK => ?_) AllReadyH.nil)
  clear hHeld
  rw [if_pos (by kernel_rfl)]
  have P := Q6.out w26 st26.l2
  go_simp
  refine P.mono ?_
  rintro e w27 ⟨rfl, BB⟩
  have st27 := st26.later BB
  refine hK.out _ _ st27.f (fun hHeld => ?_)
  clear hK K P BB st26
  (try simp only [Act.put, List.setIfInBounds_toArray, List.set_cons_zero, List.set_cons_succ])
  refine vtake (i := 19) (v := (.bool true)) 37 rfl (by kernel_rfl) (by kernel_rfl) (by kernel_rfl) (by kernel_rfl) (fun _ _ _ h => h) (.inl ⟨by kernel_rfl, fun w' hS => by (have hq : (bm == bm) = true := (by simp); go_simp)⟩) hHeld ?_
  (try simp only [Act.put, List.setIfInBounds_toArray, List.set_cons_zero, List.set_cons_succ])
  refine vtake (i := 20) (v := (.bool true)) 38 rfl (by kernel_rfl) (by kernel_rfl) (by kernel_rfl) (by kernel_rfl) (fun _ _ _ h => h) (.inl ⟨by kernel_rfl, fun w' hS => by (go_simp)⟩) hHeld ?_
  (try simp only [Act.put, List.setIfInBounds_toArray, List.set_cons_zero, List.set_cons_succ])
  refine vtake (i := 21) (v := (.bool true)) 39 rfl (by kernel_rfl) (by kernel_rfl) (by kernel_rfl) (by kernel_rfl) (fun _ _ _ h => h) (.inl ⟨by kernel_rfl, fun w' hS => by (go_simp)⟩) hHeld ?_
  (try simp only [Act.put, List.setIfInBounds_toArray, List.set_cons_zero, List.set_cons_succ])
  refine vtake (i := 22) (v := (.slice ao n c)) 40 rfl (by kernel_rfl) (by kernel_rfl) (by kernel_rfl) (by kernel_rfl) (fun _ _ _ h => h) (.inl ⟨by kernel_rfl, fun w' hS => by (go_simp)⟩) hHeld ?_
  (try simp only [Act.put, List.setIfInBounds_toArray, List.set_cons_zero, List.set_cons_succ])
  refine vtake (i := 24) (v := (.slice a7 n c7)) 42 rfl (by kernel_rfl) (by kernel_rfl) (by kernel_rfl) (by kernel_rfl) (fun _ _ _ h => h) (.inl ⟨by kernel_rfl, fun w' hS => by (go_simp)⟩) hHeld ?_
  (try simp only [Act.put, List.setIfInBounds_toArray, List.set_cons_zero, List.set_cons_succ])
  refine wpAnyH_ready (rs := [23]) (by kernel_rfl) (by simp) (AllReadyH.cons rfl (fun K hK => ?_) AllReadyH.nil)
  clear hHeld
  rw [if_pos (by kernel_rfl)]
  have P := Q7.out w27 st27.l1
  go_simp
  refine P.mono ?_
  rintro e w28 ⟨rfl, BB⟩
  have st28 := st27.later BB
  refine hK.out _ _ st28.f (fun hHeld => ?_)
  clear hK K P BB st27
  (try simp only [Act.put, List.setIfInBounds_toArray, List.set_cons_zero, List.set_cons_succ])
  refine wpAnyH_ready (rs := [25]) (by kernel_rfl) (by simp) (AllReadyH.cons rfl (fun K hK => ?_) AllReadyH.nil)
  clear hHeld
  rw [if_pos (by kernel_rfl)]
  have P := Q8.out w28 st28.l2
  go_simp
  refine P.mono ?_
  rintro e w29 ⟨rfl, hsame⟩
  subst hsame
  refine hK.out _ _ st28.f (fun hHeld => ?_)
  clear hK K P
  (try simp only [Act.put, List.setIfInBounds_toArray, List.set_cons_zero, List.set_cons_succ])
  refine vtake (i := 26) (v := (.bool true)) 44 rfl (by kernel_rfl) (by kernel_rfl) (by kernel_rfl) (by kernel_rfl) (fun _ _ _ h => h) (.inl ⟨by kernel_rfl, fun w' hS => by (go_simp)⟩) hHeld ?_
  (try simp only [Act.put, List.setIfInBounds_toArray, List.set_cons_zero, List.set_cons_succ])
  refine vtake (i := 27) (v := (.bool true)) 45 rfl (by kernel_rfl) (by kernel_rfl) (by kernel_rfl) (by kernel_rfl) (fun _ _ _ h => h) (.inl ⟨by kernel_rfl, fun w' hS => by (go_simp)⟩) hHeld ?_
  (try simp only [Act.put, List.setIfInBounds_toArray, List.set_cons_zero, List.set_cons_succ])
  refine vtake (i := 28) (v := (.bool true)) 46 rfl (by kernel_rfl) (by kernel_rfl) (by kernel_rfl) (by kernel_rfl) (fun _ _ _ h => h) (.inl ⟨by kernel_rfl, fun w' hS => by (go_simp)⟩) hHeld ?_
  (try simp only [Act.put, List.setIfInBounds_toArray, List.set_cons_zero, List.set_cons_succ])
  refine vtake (i := 29) (v := (.pointer (some ⟨fb, 0, none⟩))) 47 rfl (by kernel_rfl) (by kernel_rfl) (by kernel_rfl) (by kernel_rfl) (fun _ _ _ h => h) (.inl ⟨by kernel_rfl, fun w' hS => by (go_simp)⟩) hHeld ?_
  (try simp only [Act.put, List.setIfInBounds_toArray, List.set_cons_zero, List.set_cons_succ])
  refine vtake (i := 30) (v := (.agg #[.int .u64 0, .int .u64 0, .int .i64 0, .int .u64 (below nn : Nat)])) 48 rfl (by kernel_rfl) (by kernel_rfl) (by kernel_rfl) (by kernel_rfl) (fun _ _ _ h => h) (.inl ⟨by kernel_rfl, fun w' hS => by (have d0 : w'.cell? ⟨fb, 0, none⟩ = some (.int .u64 0) := (RcB.own hS).at_ 0 _ rfl; have d1 : w'.cell? ⟨fb, 1, none⟩ = some (.int .u64 0) := (RcB.own hS).at_ 1 _ rfl; have d2 : w'.cell? ⟨fb, 2, none⟩ = some (.int .i64 0) := (RcB.own hS).at_ 2 _ rfl; have d3 : w'.cell? ⟨fb, 3, none⟩ = some (.int .u64 (below nn : Nat)) := (RcB.own hS).at_ 3 _ rfl; go_simp)⟩) hHeld ?_
  (try simp only [Act.put, List.setIfInBounds_toArray, List.set_cons_zero, List.set_cons_succ])
  refine vtake (i := 31) (v := (.int .i64 nn)) 49 rfl (by kernel_rfl) (by kernel_rfl) (by kernel_rfl) (by kernel_rfl) (fun _ _ _ h => h) (.inl ⟨by kernel_rfl, fun w' hS => by (go_simp)⟩) hHeld ?_
  (try simp only [Act.put, List.setIfInBounds_toArray, List.set_cons_zero, List.set_cons_succ])
  have QA := all_any nn w28 hn64.1 hn64.2
  refine wpAnyH_ready (rs := [32]) (by kernel_rfl) (by simp) (AllReadyH.cons rfl (fun K hK => ?_) AllReadyH.nil)
  clear hHeld
  rw [if_pos (by kernel_rfl)]
  have P := QA
  go_simp
  refine P.mono ?_
  rintro e w29 ⟨rfl, hsame⟩
  subst hsame
  refine hK.out _ _ st28.f (fun hHeld => ?_)
  clear hK K P
  (try simp only [Act.put, List.setIfInBounds_toArray, List.set_cons_zero, List.set_cons_succ])
  refine vtake (i := 33) (v := (.agg #[.int .u64 0, .int .u64 0, .int .i64 0, .int .u64 (below nn : Nat)])) 51 rfl (by kernel_rfl) (by kernel_rfl) (by kernel_rfl) (by kernel_rfl) (fun _ _ _ h => h) (.inl ⟨by kernel_rfl, fun w' hS => by (go_simp)⟩) hHeld ?_
  (try simp only [Act.put, List.setIfInBounds_toArray, List.set_cons_zero, List.set_cons_succ])
  refine vtake (i := 34) (v := (.bool true)) 52 rfl (by kernel_rfl) (by kernel_rfl) (by kernel_rfl) (by kernel_rfl) (fun _ _ _ h => h) (.inl ⟨by kernel_rfl, fun w' hS => by (have hq := HQ2.out w'; go_simp)⟩) hHeld ?_
  (try simp only [Act.put, List.setIfInBounds_toArray, List.set_cons_zero, List.set_cons_succ])
  refine vtake (i := 35) (v := (.bool true)) 53 rfl (by kernel_rfl) (by kernel_rfl) (by kernel_rfl) (by kernel_rfl) (fun _ _ _ h => h) (.inl ⟨by kernel_rfl, fun w' hS => by (go_simp)⟩) hHeld ?_
  (try simp only [Act.put, List.setIfInBounds_toArray, List.set_cons_zero, List.set_cons_succ])
  refine vtake (i := 36) (v := (.bool true)) 54 rfl (by kernel_rfl) (by kernel_rfl) (by kernel_rfl) (by kernel_rfl) (fun _ _ _ h => h) (.inl ⟨by kernel_rfl, fun w' hS => by (go_simp)⟩) hHeld ?_
  (try simp only [Act.put, List.setIfInBounds_toArray, List.set_cons_zero, List.set_cons_succ])
  refine vtake (i := 37) (v := (.pointer (some ⟨fb, 4, none⟩))) 55 rfl (by kernel_rfl) (by kernel_rfl) (by kernel_rfl) (by kernel_rfl) (fun _ _ _ h => h) (.inl ⟨by kernel_rfl, fun w' hS => by (go_simp)⟩) hHeld ?_
  (try simp only [Act.put, List.setIfInBounds_toArray, List.set_cons_zero, List.set_cons_succ])
  refine vtake (i := 38) (v := (.slice none 0 0)) 56 rfl (by kernel_rfl) (by kernel_rfl) (by kernel_rfl) (by kernel_rfl) (fun _ _ _ h => h) (.inl ⟨by kernel_rfl, fun w' hS => by (have d4 : w'.cell? ⟨fb, 4, none⟩ = some (.slice none 0 0) := (RcB.own hS).at_ 4 _ rfl; go_simp)⟩) hHeld ?_
  (try simp only [Act.put, List.setIfInBounds_toArray, List.set_cons_zero, List.set_cons_succ])
  refine vtake (i := 39) (v := (.int .i64 0)) 57 rfl (by kernel_rfl) (by kernel_rfl) (by kernel_rfl) (by kernel_rfl) (fun _ _ _ h => h) (.inl ⟨by kernel_rfl, fun w' hS => by (go_simp)⟩) hHeld ?_
  (try simp only [Act.put, List.setIfInBounds_toArray, List.set_cons_zero, List.set_cons_succ])
  refine vtake (i := 40) (v := (.bool true)) 58 rfl (by kernel_rfl) (by kernel_rfl) (by kernel_rfl) (by kernel_rfl) (fun _ _ _ h => h) (.inl ⟨by kernel_rfl, fun w' hS => by (go_simp)⟩) hHeld ?_
  (try simp only [Act.put, List.setIfInBounds_toArray, List.set_cons_zero, List.set_cons_succ])
  refine vtake (i := 41) (v := (.bool true)) 59 rfl (by kernel_rfl) (by kernel_rfl) (by kernel_rfl) (by kernel_rfl) (fun _ _ _ h => h) (.inl ⟨by kernel_rfl, fun w' hS => by (go_simp)⟩) hHeld ?_
  (try simp only [Act.put, List.setIfInBounds_toArray, List.set_cons_zero, List.set_cons_succ])
  refine vtake (i := 42) (v := (.bool true)) 6 rfl (by kernel_rfl) (by kernel_rfl) (by kernel_rfl) (by kernel_rfl) (fun _ _ _ h => h) (.inl ⟨by kernel_rfl, fun w' hS => by (go_simp)⟩) hHeld ?_
  (try simp only [Act.put, List.setIfInBounds_toArray, List.set_cons_zero, List.set_cons_succ])
  refine wpAnyH_done (by kernel_rfl) ?_ _
  have HBE := Lib.hid st28.bel
  clear hHeld
  go_wp2
  go_ret
  exact ⟨rfl, HBE.out⟩
end Go.Proofs.Ytlaenabckpjikaa
