/- 'give' of fed: the next message of a sender is taken, and what can be delivered is. (Written by gen_ogive.py.) -/
import Derived.Test.YtlkmenjalpmipaaZOrdFedTail
import Derived.BigQuiet
set_option linter.unusedVariables false
set_option maxRecDepth 100000
set_option linter.unusedSimpArgs false
namespace Go.Proofs.Ytlkmenjalpmipaa
open Go.RowKit Go.Sort Go.Shelf

theorem dpIn_nil (w : World) (m : Mg) (h : m.dl = 0 ∧ m.deps = []) : DpIn w m := ⟨by rw [h.1, h.2]; rfl, fun e => by rw [h.1] at e; exact absurd e (Nat.lt_irrefl 0)⟩
/-- What 'give' leaves. -/
structure GiveSaid (w wr : World) (g N : Nat) (ga ab ob xb : Nat) (aa : Option Addr) (n ac : Nat) (A Z : List Mg) (me : Nat) (at_ : Nat → Nat) (p : Nat) (e : Ending) (w' : World) : Prop where
  ans : e = .returned (.tuple #[])
  ex : ∃ E P s Y k, GvF w w' E g (N + 1) P ga ab ob xb aa n ac A (updF at_ p (gv A p (at_ p))) s Y ∧ Fed1 A Z me (updF at_ p (gv A p (at_ p))) k P ∧ Y.map strip = Z.take k
theorem updF_id (f : Nat → Nat) (p n : Nat) (h : n = f p) : updF f p n = f := by
  funext q
  by_cases e : q = p
  · subst e; rw [updF_same]; exact h
  · rw [updF_other _ _ _ _ e]
set_option maxHeartbeats 8000000 in
theorem ogive {w wr : World} {E : Nat → Prop} {g N : Nat} {O : Od} {ga ab ob xb : Nat} {aa : Option Addr} {n ac : Nat} {A Z : List Mg} {at_ : Nat → Nat} {s : Sl} {X : List Mg} {me k : Nat} (h : GvF w wr E g N O ga ab ob xb aa n ac A at_ s X) (hf : Fed1 A Z me at_ k O) (hX : X.map strip = Z.take k) (hA : Hon A) (hD : ∀ x ∈ A, x.dl = 0 ∧ x.deps = []) (hZ : IsSrt Mg.key A Z) (m4 : 4 ≤ me) (hN : N ≤ 999) (p : Nat) (hp : p < 4) :
    Calls Try.prog 51 #[.int .i64 (p : Int), .pointer (some ⟨ga, 0, none⟩), .pointer (some ⟨ab, 0, none⟩), .pointer (some ⟨ob, 0, none⟩), .pointer (some ⟨xb, 0, none⟩)] wr (GiveSaid w wr g N ga ab ob xb aa n ac A Z me at_ p) := by
  have hn : n ≤ 1000 := by have h1 := h.la.size; have h2 := hA.few; omega
  obtain ⟨sa, sn, sc⟩ := s
  have H := Lib.hid h
  have HF := Lib.hid hf
  have HX := Lib.hid hX
  have HA := Lib.hid hA
  have HD := Lib.hid hD
  have HZ := Lib.hid hZ
  clear h hf hX hA hZ hD
  go_enter Try.func51, Try.ntmps51
  go_wp2_with fail
  go_loopw [6] (fun si wv => ∃ i : Nat, i ≤ n ∧ si = .int .i64 i ∧ Hid (GvF w wv E g N O ga ab ob xb aa n ac A at_ ⟨sa, sn, sc⟩ X) ∧ Hid (∀ y ∈ A.take i, y.f = (p : Int) → y.q ≠ (at_ p : Int) + 1)) (fun si _ => n - (intOf si).toNat)
  case atStart => exact ⟨0, Nat.zero_le _, rfl, H, Lib.hid fun y hy => by rw [List.take_zero] at hy; cases hy⟩
  case round =>
    clear H
    obtain ⟨i, hi, rfl, H, HNO⟩ := hrel
    have c1 := H.out.oa.at_ 0 _ rfl
    by_cases hlt : i < n
    · obtain ⟨x, hx⟩ : ∃ x, A[i]? = some x := ⟨_, List.getElem?_eq_getElem (by rw [H.out.la.size]; exact hlt)⟩
      obtain ⟨ad, o3, e3, hr3⟩ := H.out.la.src (show 0 < n by omega)
      subst e3
      have c0 := cell_later H.out.bel (hr3 i x hx 0 _ rfl)
      have q0 := cell_later H.out.bel (hr3 i x hx 1 _ rfl)
      rw [Nat.add_zero] at c0
      have HRX := Lib.hid (hr3 i x hx)
      have c2 := H.out.oc.at_ p _ (cells4_at .u32 at_ p hp)
      have hap : at_ p ≤ 1000 := Nat.le_trans (HF.out.fed.le p hp) (Nat.le_trans (sub_len A p) HA.out.few)
      have hw : IntKind.u32.wrap ((at_ p : Int) + 1) = (at_ p : Int) + 1 := by rw [IntKind.wrap_u32']; omega
      have hp' : (p : Int) < 4 := by omega
      have HXX := Lib.hid hx
      clear hr3 hap
      by_cases hxf : x.f = (p : Int)
      · by_cases hxq : x.q = (at_ p : Int) + 1
        · have hxm := List.mem_of_getElem? hx
          have hm := give_hit HA.out hp hxm hxf hxq
          have hgv := Lib.hid (gv_hit hm)
          obtain ⟨F4, hok4, hc4⟩ := HF.out.give HA.out m4 p hp hm
          have HF4 := Lib.hid (And.intro F4 (And.intro hok4 hc4))
          have HDX := Lib.hid (HD.out x hxm)
          have hself := HA.out.self x hxm
          clear hm F4 hok4 hc4 hx hxm
          obtain ⟨f, q, ss, v, xa, dl, dc, deps, text⟩ := x
          simp only at hxf hxq c0 q0
          subst hxf
          subst hxq
          have hxa : xa = none := (congrArg Mg.a hself).symm
          have hdc : dc = 0 := (congrArg Mg.dc hself).symm
          subst hxa
          subst hdc
          clear hself
          obtain ⟨ap, hap⟩ : ∃ ap : Int, ap = (at_ p : Int) + 1 := ⟨_, rfl⟩
          obtain ⟨pp, hpp⟩ : ∃ pp : Int, pp = (p : Int) := ⟨_, rfl⟩
          go_upto_region 3 with fail
          go_quiet (fail)
          have H2 := Lib.hid (H.out.later ((Grw.refl wr).drewN nq).below)
          clear H c0 q0 c1 c2
          generalize wr.drewN nq = w3 at *
          go_upto_region 4 with fail
          have S4 := Lib.hid (H2.out.later (Grw.refl w3).drew.below)
          clear H2
          refine wp_region_held_drew (S := fun w' => Below w.heap.size w w' ∧ Own w' ga 29 #[.slice (some ⟨ad, o3, none⟩) n ac] ∧ Own w' ob 26 #[.pointer (some ⟨g, 0, none⟩)]) (by kernel_rfl) ⟨S4.out.bel, S4.out.oa, S4.out.oo⟩ (fun hHeld => ?_)
          generalize w3.drew = w4 at *
          refine stake (i := 0) (v := (.pointer (some ⟨g, 0, none⟩))) 32 rfl (by kernel_rfl) (by kernel_rfl) (by kernel_rfl) (by kernel_rfl) (fun _ _ _ h => h) (.inl ⟨by kernel_rfl, fun w' hS => by (have hc := hS.2.2.at_ 0 _ rfl; go_simp)⟩) hHeld ?_
          (try simp only [Act.put, List.setIfInBounds_toArray, List.set_cons_zero, List.set_cons_succ])
          refine stake (i := 1) (v := (.slice (some ⟨ad, o3, none⟩) n ac)) 33 rfl (by kernel_rfl) (by kernel_rfl) (by kernel_rfl) (by kernel_rfl) (fun _ _ _ h => h) (.inl ⟨by kernel_rfl, fun w' hS => by (have hc := hS.2.1.at_ 0 _ rfl; go_simp)⟩) hHeld ?_
          (try simp only [Act.put, List.setIfInBounds_toArray, List.set_cons_zero, List.set_cons_succ])
          refine stake (i := 2) (v := (.int .i64 (i : Int))) 34 rfl (by kernel_rfl) (by kernel_rfl) (by kernel_rfl) (by kernel_rfl) (fun _ _ _ h => h) (.inl ⟨by kernel_rfl, fun w' hS => by (go_simp)⟩) hHeld ?_
          (try simp only [Act.put, List.setIfInBounds_toArray, List.set_cons_zero, List.set_cons_succ])
          refine stake (i := 3) (v := (.pointer (some ⟨ad, o3 + i * 6, none⟩))) 35 rfl (by kernel_rfl) (by kernel_rfl) (by kernel_rfl) (by kernel_rfl) (fun _ _ _ h => h) (.inl ⟨by kernel_rfl, fun w' hS => by (go_simp)⟩) hHeld ?_
          (try simp only [Act.put, List.setIfInBounds_toArray, List.set_cons_zero, List.set_cons_succ])
          refine stake (i := 4) (v := (.agg #[.int .i64 (p : Int), .int .u32 ((at_ p : Int) + 1), .int .u64 ss, .int .i64 v, .slice none dl 0, .string text])) 36 rfl (by kernel_rfl) (by kernel_rfl) (by kernel_rfl) (by kernel_rfl) (fun _ _ _ h => h) (.inl ⟨by kernel_rfl, fun w' hS => by (have b0 := cell_later hS.1 (HRX.out 0 _ rfl); have b1 := cell_later hS.1 (HRX.out 1 _ rfl); have b2 := cell_later hS.1 (HRX.out 2 _ rfl); have b3 := cell_later hS.1 (HRX.out 3 _ rfl); have b4 := cell_later hS.1 (HRX.out 4 _ rfl); have b5 := cell_later hS.1 (HRX.out 5 _ rfl); rw [Nat.add_zero] at b0; go_simp)⟩) hHeld ?_
          (try simp only [Act.put, List.setIfInBounds_toArray, List.set_cons_zero, List.set_cons_succ])
          refine wpAnyH_ready (rs := [5]) (by kernel_rfl) (by simp) (AllReadyH.cons rfl (fun K hK => ?_) AllReadyH.nil)
          clear hHeld
          have PT := otake S4.out.rep hN ⟨(p : Int), (at_ p : Int) + 1, ss, v, none, dl, 0, deps, text⟩ HF4.out.2.1 (dpIn_nil _ _ HDX.out) (by have h1 : dl = 0 := HDX.out.1; show dl ≤ 1048576; omega)
          unfold valG at PT
          simp only [encG] at PT
          rw [if_pos (by kernel_rfl)]
          go_simp
          refine PT.mono ?_
          rintro e w8 hs
          obtain ⟨rfl, k2, k3⟩ := hs
          have H8 := Lib.hid (S4.out.acted k2 k3)
          generalize newF E w4 w8 = E4 at *
          clear PT S4 k2 k3
          refine hK.out _ _ ⟨H8.out.bel, H8.out.oa, H8.out.oo⟩ (fun hHeld => ?_)
          clear hK K
          (try simp only [Act.put, List.setIfInBounds_toArray, List.set_cons_zero, List.set_cons_succ])
          refine wpAnyH_done (by kernel_rfl) ?_ _
          clear hHeld
          have c2 := H8.out.oc.at_ p _ (cells4_at .u32 at_ p hp)
          have f2 := H8.out.oc.free p
          have H9 := H8.out.count p (at_ p + 1) hp
          rw [show ((at_ p + 1 : Nat) : Int) = (at_ p : Int) + 1 by omega] at H9
          have H := Lib.hid H9
          replace HF := Lib.hid HF4.out.1
          clear H8 H9 HF4
          go_upto_region 6 with fail
          clear c2 f2
          generalize w8.setCell ⟨ab, p, none⟩ (.int .u32 ((at_ p : Int) + 1)) = w9 at *
          have S6 := Lib.hid (H.out.later (Grw.refl (w9)).drew.below)
          clear H
          refine wp_region_held_drew (S := fun w' => Own w' ob 26 #[.pointer (some ⟨g, 0, none⟩)]) (by kernel_rfl) S6.out.oo (fun hHeld => ?_)
          generalize (w9).drew = w7 at *
          refine stake (i := 1) (v := (.pointer (some ⟨g, 0, none⟩))) 44 rfl (by kernel_rfl) (by kernel_rfl) (by kernel_rfl) (by kernel_rfl) (fun _ _ _ h => h) (.inl ⟨by kernel_rfl, fun w' hS => by (have hc := hS.at_ 0 _ rfl; go_simp)⟩) hHeld ?_
          (try simp only [Act.put, List.setIfInBounds_toArray, List.set_cons_zero, List.set_cons_succ])
          refine wpAnyH_ready (rs := [0, 2]) (by kernel_rfl) (by simp) (AllReadyH.cons rfl (fun K hK => ?_) (AllReadyH.cons rfl (fun K hK => ?_) AllReadyH.nil))
          · clear hHeld
            have ct : (w7).cell? ⟨xb, 0, none⟩ = some (.slice sa sn sc) := S6.out.ox.at_ 0 _ rfl
            rw [if_pos (by kernel_rfl)]
            go_simp
            refine hK.out _ _ S6.out.oo (fun hHeld => ?_)
            clear hK K ct
            (try simp only [Act.put, List.setIfInBounds_toArray, List.set_cons_zero, List.set_cons_succ])
            refine wpAnyH_ready (rs := [2]) (by kernel_rfl) (by simp) (AllReadyH.cons rfl (fun K hK => ?_) AllReadyH.nil)
            clear hHeld
            have PD := odrain S6.out.rep (by omega)
            rw [if_pos (by kernel_rfl)]
            go_simp
            refine PD.mono ?_
            rintro e w8 hs
            obtain ⟨da, dm, dc, Y, P, rfl, H8, R8, F8, X8, n8⟩ := S6.out.drained HF.out HX.out HA.out HZ.out m4 hs
            have hb8 : w.heap.size ≤ w7.heap.size := S6.out.bel.size
            clear PD hs S6
            refine hK.out _ _ H8.oo (fun hHeld => ?_)
            clear hK K
            (try simp only [Act.put, List.setIfInBounds_toArray, List.set_cons_zero, List.set_cons_succ])
            refine wpAnyH_ready (rs := [3]) (by kernel_rfl) (by simp) (AllReadyH.cons rfl (fun K hK => ?_) AllReadyH.nil)
            clear hHeld
            rw [if_pos (by kernel_rfl)]
            refine wp_append_at (.tmp 43) (.tmp 45) rfl w.heap.size (.slice sa sn sc) sn X rfl H8.row.own da dm dc Y rfl R8.lst (own_none R8.own) n8 H8.bel.size ?_
            intro v9 w9 h1 h2 h3
            obtain ⟨ta, tc, rfl⟩ := own_form' h1
            have H9 := Lib.hid (H8.close R8 hb8 (t := ⟨ta, sn + dm, tc⟩) h1 h2 h3 rfl)
            have OX := H8.ox.grown h2 (own_ne H8.row.own H8.ox (by decide))
            have OO := H8.oo.grown h2 (own_ne H8.row.own H8.oo (by decide))
            clear h1 h2 h3 H8 R8 hb8 n8
            refine hK.out _ _ OO (fun hHeld => ?_)
            clear hK K
            (try simp only [Act.put, List.setIfInBounds_toArray, List.set_cons_zero, List.set_cons_succ])
            refine wpAnyH_ready (rs := [4]) (by kernel_rfl) (by simp) (AllReadyH.cons rfl (fun K hK => ?_) AllReadyH.nil)
            clear hHeld
            have ct := OX.at_ 0 _ rfl
            have ft := OX.free 0
            rw [if_pos (by kernel_rfl)]
            go_simp
            refine hK.out _ _ H9.out.oo (fun hHeld => ?_)
            clear hK K ct ft OX OO
            refine wpAnyH_done (by kernel_rfl) ?_ _
            clear hHeld
            go_wp2
            go_end0
            exact ⟨rfl, E4, P, ⟨ta, sn + dm, tc⟩, X ++ Y, k + dm, by rw [hgv.out]; exact H9.out, by rw [hgv.out]; exact F8, X8⟩
          · clear hHeld
            have PD := odrain S6.out.rep (by omega)
            rw [if_pos (by kernel_rfl)]
            go_simp
            refine PD.mono ?_
            rintro e w8 hs
            obtain ⟨da, dm, dc, Y, P, rfl, H8, R8, F8, X8, n8⟩ := S6.out.drained HF.out HX.out HA.out HZ.out m4 hs
            have hb8 : w.heap.size ≤ w7.heap.size := S6.out.bel.size
            clear PD hs S6
            refine hK.out _ _ H8.oo (fun hHeld => ?_)
            clear hK K
            (try simp only [Act.put, List.setIfInBounds_toArray, List.set_cons_zero, List.set_cons_succ])
            refine wpAnyH_ready (rs := [0]) (by kernel_rfl) (by simp) (AllReadyH.cons rfl (fun K hK => ?_) AllReadyH.nil)
            clear hHeld
            have ct : (w8).cell? ⟨xb, 0, none⟩ = some (.slice sa sn sc) := H8.ox.at_ 0 _ rfl
            rw [if_pos (by kernel_rfl)]
            go_simp
            refine hK.out _ _ H8.oo (fun hHeld => ?_)
            clear hK K ct
            (try simp only [Act.put, List.setIfInBounds_toArray, List.set_cons_zero, List.set_cons_succ])
            refine wpAnyH_ready (rs := [3]) (by kernel_rfl) (by simp) (AllReadyH.cons rfl (fun K hK => ?_) AllReadyH.nil)
            clear hHeld
            rw [if_pos (by kernel_rfl)]
            refine wp_append_at (.tmp 43) (.tmp 45) rfl w.heap.size (.slice sa sn sc) sn X rfl H8.row.own da dm dc Y rfl R8.lst (own_none R8.own) n8 H8.bel.size ?_
            intro v9 w9 h1 h2 h3
            obtain ⟨ta, tc, rfl⟩ := own_form' h1
            have H9 := Lib.hid (H8.close R8 hb8 (t := ⟨ta, sn + dm, tc⟩) h1 h2 h3 rfl)
            have OX := H8.ox.grown h2 (own_ne H8.row.own H8.ox (by decide))
            have OO := H8.oo.grown h2 (own_ne H8.row.own H8.oo (by decide))
            clear h1 h2 h3 H8 R8 hb8 n8
            refine hK.out _ _ OO (fun hHeld => ?_)
            clear hK K
            (try simp only [Act.put, List.setIfInBounds_toArray, List.set_cons_zero, List.set_cons_succ])
            refine wpAnyH_ready (rs := [4]) (by kernel_rfl) (by simp) (AllReadyH.cons rfl (fun K hK => ?_) AllReadyH.nil)
            clear hHeld
            have ct := OX.at_ 0 _ rfl
            have ft := OX.free 0
            rw [if_pos (by kernel_rfl)]
            go_simp
            refine hK.out _ _ H9.out.oo (fun hHeld => ?_)
            clear hK K ct ft OX OO
            refine wpAnyH_done (by kernel_rfl) ?_ _
            clear hHeld
            go_wp2
            go_end0
            exact ⟨rfl, E4, P, ⟨ta, sn + dm, tc⟩, X ++ Y, k + dm, by rw [hgv.out]; exact H9.out, by rw [hgv.out]; exact F8, X8⟩
        · have hd : decide (x.f = (p : Int)) = true := decide_eq_true hxf
          have hd2 : decide (x.q = (at_ p : Int) + 1) = false := decide_eq_false hxq
          go_upto_region 3 with fail
          go_quiet (fail)
          have H2 := Lib.hid (H.out.later ((Grw.refl wr).drewN nq).below)
          have HNO2 := Lib.hid (none_next HXX.out HNO.out (fun _ => hxq))
          clear H HNO c0 q0 c1 c2
          go_wp2_with fail
          go_roundw
          case rel => exact ⟨i + 1, by omega, by go_num, H2, HNO2⟩
          case measure => simp [intOf]; omega
      · have hd : decide (x.f = (p : Int)) = false := decide_eq_false hxf
        go_upto_region 3 with fail
        go_quiet (fail)
        have H2 := Lib.hid (H.out.later ((Grw.refl wr).drewN nq).below)
        have HNO2 := Lib.hid (none_next HXX.out HNO.out (fun e => absurd e hxf))
        clear H HNO c0 q0 c1 c2
        go_wp2_with fail
        go_roundw
        case rel => exact ⟨i + 1, by omega, by go_num, H2, HNO2⟩
        case measure => simp [intOf]; omega
    · have hin : i = n := by omega
      have hgv := Lib.hid (gv_none (give_none HA.out hp (fun y hy => HNO.out y (by rw [hin, ← H.out.la.size, List.take_length]; exact hy))))
      clear HNO hi
      go_upto_region 6 with fail
      have S6 := Lib.hid (H.out.later (Grw.refl (wr)).drew.below)
      clear H
      refine wp_region_held_drew (S := fun w' => Own w' ob 26 #[.pointer (some ⟨g, 0, none⟩)]) (by kernel_rfl) S6.out.oo (fun hHeld => ?_)
      generalize (wr).drew = w7 at *
      refine stake (i := 1) (v := (.pointer (some ⟨g, 0, none⟩))) 44 rfl (by kernel_rfl) (by kernel_rfl) (by kernel_rfl) (by kernel_rfl) (fun _ _ _ h => h) (.inl ⟨by kernel_rfl, fun w' hS => by (have hc := hS.at_ 0 _ rfl; go_simp)⟩) hHeld ?_
      (try simp only [Act.put, List.setIfInBounds_toArray, List.set_cons_zero, List.set_cons_succ])
      refine wpAnyH_ready (rs := [0, 2]) (by kernel_rfl) (by simp) (AllReadyH.cons rfl (fun K hK => ?_) (AllReadyH.cons rfl (fun K hK => ?_) AllReadyH.nil))
      · clear hHeld
        have ct : (w7).cell? ⟨xb, 0, none⟩ = some (.slice sa sn sc) := S6.out.ox.at_ 0 _ rfl
        rw [if_pos (by kernel_rfl)]
        go_simp
        refine hK.out _ _ S6.out.oo (fun hHeld => ?_)
        clear hK K ct
        (try simp only [Act.put, List.setIfInBounds_toArray, List.set_cons_zero, List.set_cons_succ])
        refine wpAnyH_ready (rs := [2]) (by kernel_rfl) (by simp) (AllReadyH.cons rfl (fun K hK => ?_) AllReadyH.nil)
        clear hHeld
        have PD := odrain S6.out.rep (by omega)
        rw [if_pos (by kernel_rfl)]
        go_simp
        refine PD.mono ?_
        rintro e w8 hs
        obtain ⟨da, dm, dc, Y, P, rfl, H8, R8, F8, X8, n8⟩ := S6.out.drained HF.out HX.out HA.out HZ.out m4 hs
        have hb8 : w.heap.size ≤ w7.heap.size := S6.out.bel.size
        clear PD hs S6
        refine hK.out _ _ H8.oo (fun hHeld => ?_)
        clear hK K
        (try simp only [Act.put, List.setIfInBounds_toArray, List.set_cons_zero, List.set_cons_succ])
        refine wpAnyH_ready (rs := [3]) (by kernel_rfl) (by simp) (AllReadyH.cons rfl (fun K hK => ?_) AllReadyH.nil)
        clear hHeld
        rw [if_pos (by kernel_rfl)]
        refine wp_append_at (.tmp 43) (.tmp 45) rfl w.heap.size (.slice sa sn sc) sn X rfl H8.row.own da dm dc Y rfl R8.lst (own_none R8.own) n8 H8.bel.size ?_
        intro v9 w9 h1 h2 h3
        obtain ⟨ta, tc, rfl⟩ := own_form' h1
        have H9 := Lib.hid (H8.close R8 hb8 (t := ⟨ta, sn + dm, tc⟩) h1 h2 h3 rfl)
        have OX := H8.ox.grown h2 (own_ne H8.row.own H8.ox (by decide))
        have OO := H8.oo.grown h2 (own_ne H8.row.own H8.oo (by decide))
        clear h1 h2 h3 H8 R8 hb8 n8
        refine hK.out _ _ OO (fun hHeld => ?_)
        clear hK K
        (try simp only [Act.put, List.setIfInBounds_toArray, List.set_cons_zero, List.set_cons_succ])
        refine wpAnyH_ready (rs := [4]) (by kernel_rfl) (by simp) (AllReadyH.cons rfl (fun K hK => ?_) AllReadyH.nil)
        clear hHeld
        have ct := OX.at_ 0 _ rfl
        have ft := OX.free 0
        rw [if_pos (by kernel_rfl)]
        go_simp
        refine hK.out _ _ H9.out.oo (fun hHeld => ?_)
        clear hK K ct ft OX OO
        refine wpAnyH_done (by kernel_rfl) ?_ _
        clear hHeld
        go_wp2
        go_end0
        exact ⟨rfl, E, P, ⟨ta, sn + dm, tc⟩, X ++ Y, k + dm, by rw [hgv.out, updF_id _ _ _ rfl]; exact H9.out.up (Nat.le_succ N), by rw [hgv.out, updF_id _ _ _ rfl]; exact F8, X8⟩
      · clear hHeld
        have PD := odrain S6.out.rep (by omega)
        rw [if_pos (by kernel_rfl)]
        go_simp
        refine PD.mono ?_
        rintro e w8 hs
        obtain ⟨da, dm, dc, Y, P, rfl, H8, R8, F8, X8, n8⟩ := S6.out.drained HF.out HX.out HA.out HZ.out m4 hs
        have hb8 : w.heap.size ≤ w7.heap.size := S6.out.bel.size
        clear PD hs S6
        refine hK.out _ _ H8.oo (fun hHeld => ?_)
        clear hK K
        (try simp only [Act.put, List.setIfInBounds_toArray, List.set_cons_zero, List.set_cons_succ])
        refine wpAnyH_ready (rs := [0]) (by kernel_rfl) (by simp) (AllReadyH.cons rfl (fun K hK => ?_) AllReadyH.nil)
        clear hHeld
        have ct : (w8).cell? ⟨xb, 0, none⟩ = some (.slice sa sn sc) := H8.ox.at_ 0 _ rfl
        rw [if_pos (by kernel_rfl)]
        go_simp
        refine hK.out _ _ H8.oo (fun hHeld => ?_)
        clear hK K ct
        (try simp only [Act.put, List.setIfInBounds_toArray, List.set_cons_zero, List.set_cons_succ])
        refine wpAnyH_ready (rs := [3]) (by kernel_rfl) (by simp) (AllReadyH.cons rfl (fun K hK => ?_) AllReadyH.nil)
        clear hHeld
        rw [if_pos (by kernel_rfl)]
        refine wp_append_at (.tmp 43) (.tmp 45) rfl w.heap.size (.slice sa sn sc) sn X rfl H8.row.own da dm dc Y rfl R8.lst (own_none R8.own) n8 H8.bel.size ?_
        intro v9 w9 h1 h2 h3
        obtain ⟨ta, tc, rfl⟩ := own_form' h1
        have H9 := Lib.hid (H8.close R8 hb8 (t := ⟨ta, sn + dm, tc⟩) h1 h2 h3 rfl)
        have OX := H8.ox.grown h2 (own_ne H8.row.own H8.ox (by decide))
        have OO := H8.oo.grown h2 (own_ne H8.row.own H8.oo (by decide))
        clear h1 h2 h3 H8 R8 hb8 n8
        refine hK.out _ _ OO (fun hHeld => ?_)
        clear hK K
        (try simp only [Act.put, List.setIfInBounds_toArray, List.set_cons_zero, List.set_cons_succ])
        refine wpAnyH_ready (rs := [4]) (by kernel_rfl) (by simp) (AllReadyH.cons rfl (fun K hK => ?_) AllReadyH.nil)
        clear hHeld
        have ct := OX.at_ 0 _ rfl
        have ft := OX.free 0
        rw [if_pos (by kernel_rfl)]
        go_simp
        refine hK.out _ _ H9.out.oo (fun hHeld => ?_)
        clear hK K ct ft OX OO
        refine wpAnyH_done (by kernel_rfl) ?_ _
        clear hHeld
        go_wp2
        go_end0
        exact ⟨rfl, E, P, ⟨ta, sn + dm, tc⟩, X ++ Y, k + dm, by rw [hgv.out, updF_id _ _ _ rfl]; exact H9.out.up (Nat.le_succ N), by rw [hgv.out, updF_id _ _ _ rfl]; exact F8, X8⟩
end Go.Proofs.Ytlkmenjalpmipaa
