/- The program's ready. (Written by wip/gen_sready.py.) -/
import Derived.Test.YtcnfkjjfegjecaaSRow
set_option linter.unusedVariables false
set_option linter.unusedSimpArgs false
namespace Go.Proofs.Ytcnfkjjfegjecaa
open Go.RowKit Go.Sort Go.Maps

/-- What ready answers: those that go on behind the count. -/
def ReadyPost (w : World) (g b sz c n : Nat) (H : Nat → Option Mg) (e : Ending) (w' : World) : Prop :=
  ∃ (k : Nat) (L : List Mg) (ao : Option Addr) (cap : Nat), e = .returned (.slice ao k cap) ∧ L.length = k ∧ k ≤ n ∧ (∀ i, i < k → ∃ m, L[i]? = some m ∧ H (c + 1 + i) = some m) ∧ H (c + k + 1) = none ∧
    SmB w' g b sz (c + k) (cutF H c k) (n - k) ∧ w'.ownsRow w.heap.size 37 6 (.slice ao k cap) k (flat encG L) ∧ Mv g b w w'
set_option maxHeartbeats 4000000 in
set_option maxRecDepth 100000 in
theorem sready {w : World} {g b sz c n : Nat} {H : Nat → Option Mg} (h : SmB w g b sz c H n) (hc : c + n + 1 < 4294967296) (hn : n ≤ 100000) :
    Calls Try.prog 22 #[.pointer (some ⟨g, 0, none⟩)] w (ReadyPost w g b sz c n H) := by
  have HH := Lib.hid h
  have hne := h.ne
  have hlt := h.lt
  clear h
  go_enter Try.func22, Try.ntmps22
  go_wp2
  go_loopw [3] (fun so wr => ∃ (k : Nat) (L : List Mg) (ao : Option Addr) (cap : Nat), so = .slice ao k cap ∧ L.length = k ∧ k ≤ n ∧ Hid (∀ i, i < k → ∃ m, L[i]? = some m ∧ H (c + 1 + i) = some m) ∧
      SmB wr g b sz (c + k) (cutF H c k) (n - k) ∧ wr.ownsRow w.heap.size 37 6 (.slice ao k cap) k (flat encG L) ∧ Mv g b w wr) (fun so _ => n - lenOf so)
  case atStart =>
    exact ⟨0, [], none, 0, rfl, rfl, Nat.zero_le _, Lib.hid fun i hi => absurd hi (Nat.not_lt_zero _), by rw [cutF_zero]; exact HH.out, World.ownsRow_nil _ _ _ _, Mv.refl _ _ _⟩
  case round =>
    obtain ⟨k, L, ao, cap, rfl, hL, hk, HL, hS, hO, hM⟩ := hrel
    obtain ⟨p, hp⟩ : ∃ p : Nat, p = c + k := ⟨_, rfl⟩
    obtain ⟨d, hd⟩ : ∃ d : Nat, d = p + 1 := ⟨_, rfl⟩
    have hde : (p : Int) + 1 = (d : Int) := by omega
    have hd4 : d < 4294967296 := by omega
    have HCA := Lib.hid (show cutF H c k d = H d by rw [hd, hp]; exact cutF_at H c k)
    rw [← hp] at hS
    have HHO := sholds hS d hd4
    rw [HCA.out] at HHO
    have HPD := Lib.hid (show p = c + k ∧ d = c + k + 1 from ⟨hp, by omega⟩)
    have c1 := hS.own.at_ 1 _ rfl
    have f1 := hS.own.free 1
    have HS := Lib.hid hS
    have HO := Lib.hid hO
    have HM := Lib.hid hM
    have HLEN := Lib.hid hL
    have hgr := hS.lt
    have hszr := hM.size
    clear hS hO hM hL hp hd
    cases hH : H d with
    | none =>
      rw [hH] at HHO
      have HN := Lib.hid hH
      have HP : Hid (∀ w', Grw wr w' → ReadyPost w g b sz c n H (.returned (.slice ao k cap)) w') := Lib.hid fun w' hG =>
        ⟨k, L, ao, cap, rfl, HLEN.out, hk, HL.out, by rw [← HPD.out.2]; exact HN.out, by rw [← HPD.out.1]; exact HS.out.below hG.below, own_grw HO.out hG, HM.out.trans (.grw hG)⟩
      clear hH HS HO HM HLEN HCA HL HN HPD
      go_wp2_with (go_at_call 20; refine HHO.mono ?_; rintro e w1 ⟨rfl, G1⟩)
      go_ret
      exact HP.out _ G1
    | some m =>
      rw [hH] at HHO
      have hkn : k < n := by
        have := HS.out.map.pos d hd4 (HCA.out.trans hH)
        omega
      have HN := Lib.hid hH
      clear hH
      go_upto_region 3 with (go_at_call 20; refine HHO.mono ?_; rintro e w1 ⟨rfl, G1⟩)
      have S1 := HS.out.below G1.below
      have O1 := own_grw HO.out G1
      have M1 := HM.out.trans (.grw G1)
      clear c1 f1 HHO HS HO HM G1
      have c1 := S1.own.at_ 1 _ rfl
      have f1 := S1.own.free 1
      have S2 : SmB (w1.setCell ⟨g, 1, none⟩ (.int .u32 (d : Int))) g b sz d (cutF H c k) (n - k) := ⟨S1.own.set 1 _, S1.map.setCell (by show b ≠ g; omega) _⟩
      have O2 : (w1.setCell ⟨g, 1, none⟩ (.int .u32 (d : Int))).ownsRow w.heap.size 37 6 (.slice ao k cap) k (flat encG L) := own_mv O1 ((Mv.refl g b w1).set 1 _) hlt.1 hlt.2
      have M2 := M1.set 1 (.int .u32 (d : Int))
      clear S1 O1 M1
      go_upto_region 4 with fail
      clear c1 f1 hde
      generalize (w1.setCell ⟨g, 1, none⟩ (.int .u32 (d : Int))) = w2 at *
      have LK : Hid (∀ w' : World, SmB w' g b sz d (cutF H c k) (n - k) → (Instr.lookup 54 (.map (some b)) (.int .u32 (d : Int)) false).run Try.prog w' = .ok (valG m) w') := Lib.hid fun w' hS => by
        have := (hS.map.look d hd4).1
        rw [HCA.out, HN.out] at this
        exact this
      obtain ⟨xf, xq, xs, xv, xa, xdl, xdc, xdeps, xt⟩ := m
      unfold valG at LK
      simp only [encG] at LK
      refine wp_region_held_drew (S := fun w' => SmB w' g b sz d (cutF H c k) (n - k)) (by kernel_rfl) S2.drew (fun hHeld => ?_)
      have O3 := own_grw O2 (Grw.refl w2).drew
      have M3 := M2.drew
      clear S2 O2 M2
      generalize w2.drew = w3 at *
      refine stake (i := 0) (v := (.slice ao k cap)) 18 rfl (by kernel_rfl) (by kernel_rfl) (by kernel_rfl) (by kernel_rfl) (fun _ _ _ h => h) (.inl ⟨by kernel_rfl, fun w' hS => by (go_simp)⟩) hHeld ?_
      (try simp only [Act.put, List.setIfInBounds_toArray, List.set_cons_zero, List.set_cons_succ])
      refine stake (i := 1) (v := (.pointer (some ⟨g, 0, none⟩))) 19 rfl (by kernel_rfl) (by kernel_rfl) (by kernel_rfl) (by kernel_rfl) (fun _ _ _ h => h) (.inl ⟨by kernel_rfl, fun w' hS => by (go_simp)⟩) hHeld ?_
      (try simp only [Act.put, List.setIfInBounds_toArray, List.set_cons_zero, List.set_cons_succ])
      refine stake (i := 2) (v := (.pointer (some ⟨g, 0, none⟩))) 20 rfl (by kernel_rfl) (by kernel_rfl) (by kernel_rfl) (by kernel_rfl) (fun _ _ _ h => h) (.inl ⟨by kernel_rfl, fun w' hS => by (go_simp)⟩) hHeld ?_
      (try simp only [Act.put, List.setIfInBounds_toArray, List.set_cons_zero, List.set_cons_succ])
      refine stake (i := 3) (v := (.pointer (some ⟨g, 2, none⟩))) 21 rfl (by kernel_rfl) (by kernel_rfl) (by kernel_rfl) (by kernel_rfl) (fun _ _ _ h => h) (.inl ⟨by kernel_rfl, fun w' hS => by (go_simp)⟩) hHeld ?_
      (try simp only [Act.put, List.setIfInBounds_toArray, List.set_cons_zero, List.set_cons_succ])
      refine stake (i := 4) (v := (.map (some b))) 22 rfl (by kernel_rfl) (by kernel_rfl) (by kernel_rfl) (by kernel_rfl) (fun _ _ _ h => h) (.inl ⟨by kernel_rfl, fun w' hS => by (have hc := hS.own.at_ 2 _ rfl; go_simp)⟩) hHeld ?_
      (try simp only [Act.put, List.setIfInBounds_toArray, List.set_cons_zero, List.set_cons_succ])
      refine stake (i := 5) (v := (.pointer (some ⟨g, 0, none⟩))) 23 rfl (by kernel_rfl) (by kernel_rfl) (by kernel_rfl) (by kernel_rfl) (fun _ _ _ h => h) (.inl ⟨by kernel_rfl, fun w' hS => by (go_simp)⟩) hHeld ?_
      (try simp only [Act.put, List.setIfInBounds_toArray, List.set_cons_zero, List.set_cons_succ])
      refine stake (i := 6) (v := (.pointer (some ⟨g, 0, none⟩))) 24 rfl (by kernel_rfl) (by kernel_rfl) (by kernel_rfl) (by kernel_rfl) (fun _ _ _ h => h) (.inl ⟨by kernel_rfl, fun w' hS => by (go_simp)⟩) hHeld ?_
      (try simp only [Act.put, List.setIfInBounds_toArray, List.set_cons_zero, List.set_cons_succ])
      refine stake (i := 7) (v := (.pointer (some ⟨g, 1, none⟩))) 25 rfl (by kernel_rfl) (by kernel_rfl) (by kernel_rfl) (by kernel_rfl) (fun _ _ _ h => h) (.inl ⟨by kernel_rfl, fun w' hS => by (go_simp)⟩) hHeld ?_
      (try simp only [Act.put, List.setIfInBounds_toArray, List.set_cons_zero, List.set_cons_succ])
      refine stake (i := 8) (v := (.int .u32 (d : Int))) 26 rfl (by kernel_rfl) (by kernel_rfl) (by kernel_rfl) (by kernel_rfl) (fun _ _ _ h => h) (.inl ⟨by kernel_rfl, fun w' hS => by (have hc := hS.own.at_ 1 _ rfl; go_simp)⟩) hHeld ?_
      (try simp only [Act.put, List.setIfInBounds_toArray, List.set_cons_zero, List.set_cons_succ])
      refine stake (i := 9) (v := (.agg #[.int .i64 xf, .int .u32 xq, .int .u64 xs, .int .i64 xv, .slice xa xdl xdc, .string xt])) 27 rfl (by kernel_rfl) (by kernel_rfl) (by kernel_rfl) (by kernel_rfl) (fun _ _ _ h => h) (.inl ⟨by kernel_rfl, fun w' hS => by (have hc := LK.out w' hS; go_simp)⟩) hHeld ?_
      (try simp only [Act.put, List.setIfInBounds_toArray, List.set_cons_zero, List.set_cons_succ])
      have HS4 := Lib.hid hHeld
      refine wpAnyH_ready (rs := [10]) (by kernel_rfl) (by simp) (AllReadyH.cons rfl (fun K hK => ?_) AllReadyH.nil)
      clear hHeld
      rw [if_pos (by kernel_rfl)]
      go_simp
      have S4 := HS4.out.alloc (.cells #[.int .i64 xf, .int .u32 xq, .int .u64 xs, .int .i64 xv, .slice xa xdl xdc, .string xt] 37)
      have O4 := O3.alloc (.cells #[.int .i64 xf, .int .u32 xq, .int .u64 xs, .int .i64 xv, .slice xa xdl xdc, .string xt] 37)
      have X4 : MgB (w3.alloc (.cells #[.int .i64 xf, .int .u32 xq, .int .u64 xs, .int .i64 xv, .slice xa xdl xdc, .string xt] 37)) w3.heap.size ⟨xf, xq, xs, xv, xa, xdl, xdc, xdeps, xt⟩ := MgB.new w3 ⟨xf, xq, xs, xv, xa, xdl, xdc, xdeps, xt⟩
      have M4 := M3.alloc (.cells #[.int .i64 xf, .int .u32 xq, .int .u64 xs, .int .i64 xv, .slice xa xdl xdc, .string xt] 37)
      have hx4 : w.heap.size ≤ w3.heap.size := M3.size
      clear HS4 O3 M3
      generalize (w3.alloc (.cells #[.int .i64 xf, .int .u32 xq, .int .u64 xs, .int .i64 xv, .slice xa xdl xdc, .string xt] 37)) = w4 at *
      generalize w3.heap.size = xb at *
      refine hK.out _ _ S4 (fun hHeld => ?_)
      clear hK K
      (try simp only [Act.put, List.setIfInBounds_toArray, List.set_cons_zero, List.set_cons_succ])
      have HS5 := Lib.hid hHeld
      refine wpAnyH_ready (rs := [11]) (by kernel_rfl) (by simp) (AllReadyH.cons rfl (fun K hK => ?_) AllReadyH.nil)
      clear hHeld
      rw [if_pos (by kernel_rfl)]
      refine wp_append_mg w4 (.tmp 18) (.tmp 28) rfl w.heap.size (.slice ao k cap) k _ rfl O4 (some ⟨xb, 0, none⟩) 1 1 [⟨xf, xq, xs, xv, xa, xdl, xdc, xdeps, xt⟩] rfl (fun e => by cases e) (lst_one X4) (by omega) M4.size ?_
      intro v5 w5 O5 G5
      have hbh := own_behind O4
      have S5 : SmB w5 g b sz d (cutF H c k) (n - k) := S4.grown G5 (fun e => by have := hbh g e.symm; omega) (fun e => by have := hbh b e.symm; omega)
      have M5 := M4.grown G5 (fun j hj => .inl (hbh j hj))
      clear S4 O4 X4 M4 G5 hbh
      refine hK.out _ _ S5 (fun hHeld => ?_)
      clear hK K S5
      (try simp only [Act.put, List.setIfInBounds_toArray, List.set_cons_zero, List.set_cons_succ])
      have hnf := own_form' O5
      obtain ⟨ao5, cap5, rfl⟩ := hnf
      refine stake (i := 12) (v := (.slice ao5 (k + 1) cap5)) 3 rfl (by kernel_rfl) (by kernel_rfl) (by kernel_rfl) (by kernel_rfl) (fun _ _ _ h => h) (.inl ⟨by kernel_rfl, fun w' hS => by (go_simp)⟩) hHeld ?_
      (try simp only [Act.put, List.setIfInBounds_toArray, List.set_cons_zero, List.set_cons_succ])
      refine wpAnyH_done (by kernel_rfl) ?_ _
      have HS6 := Lib.hid hHeld
      clear hHeld
      go_upto_region 5 with fail
      refine wp_region_held_drew (S := fun w' => Own w' g 56 #[.int .u32 (sz : Int), .int .u32 (d : Int), .map (some b)]) (by kernel_rfl) HS6.out.own.drew (fun hHeld => ?_)
      have S6 := HS6.out.drew
      have O6 := own_grw O5 (Grw.refl w5).drew
      have M6 := M5.drew
      clear HS6 O5 M5
      generalize w5.drew = w6 at *
      refine stake (i := 0) (v := (.pointer (some ⟨g, 0, none⟩))) 30 rfl (by kernel_rfl) (by kernel_rfl) (by kernel_rfl) (by kernel_rfl) (fun _ _ _ h => h) (.inl ⟨by kernel_rfl, fun w' hS => by (go_simp)⟩) hHeld ?_
      (try simp only [Act.put, List.setIfInBounds_toArray, List.set_cons_zero, List.set_cons_succ])
      refine stake (i := 1) (v := (.pointer (some ⟨g, 0, none⟩))) 31 rfl (by kernel_rfl) (by kernel_rfl) (by kernel_rfl) (by kernel_rfl) (fun _ _ _ h => h) (.inl ⟨by kernel_rfl, fun w' hS => by (go_simp)⟩) hHeld ?_
      (try simp only [Act.put, List.setIfInBounds_toArray, List.set_cons_zero, List.set_cons_succ])
      refine stake (i := 2) (v := (.pointer (some ⟨g, 2, none⟩))) 32 rfl (by kernel_rfl) (by kernel_rfl) (by kernel_rfl) (by kernel_rfl) (fun _ _ _ h => h) (.inl ⟨by kernel_rfl, fun w' hS => by (go_simp)⟩) hHeld ?_
      (try simp only [Act.put, List.setIfInBounds_toArray, List.set_cons_zero, List.set_cons_succ])
      refine stake (i := 3) (v := (.map (some b))) 33 rfl (by kernel_rfl) (by kernel_rfl) (by kernel_rfl) (by kernel_rfl) (fun _ _ _ h => h) (.inl ⟨by kernel_rfl, fun w' hS => by (have hc := hS.at_ 2 _ rfl; go_simp)⟩) hHeld ?_
      (try simp only [Act.put, List.setIfInBounds_toArray, List.set_cons_zero, List.set_cons_succ])
      refine stake (i := 4) (v := (.pointer (some ⟨g, 0, none⟩))) 34 rfl (by kernel_rfl) (by kernel_rfl) (by kernel_rfl) (by kernel_rfl) (fun _ _ _ h => h) (.inl ⟨by kernel_rfl, fun w' hS => by (go_simp)⟩) hHeld ?_
      (try simp only [Act.put, List.setIfInBounds_toArray, List.set_cons_zero, List.set_cons_succ])
      refine stake (i := 5) (v := (.pointer (some ⟨g, 0, none⟩))) 35 rfl (by kernel_rfl) (by kernel_rfl) (by kernel_rfl) (by kernel_rfl) (fun _ _ _ h => h) (.inl ⟨by kernel_rfl, fun w' hS => by (go_simp)⟩) hHeld ?_
      (try simp only [Act.put, List.setIfInBounds_toArray, List.set_cons_zero, List.set_cons_succ])
      refine stake (i := 6) (v := (.pointer (some ⟨g, 1, none⟩))) 36 rfl (by kernel_rfl) (by kernel_rfl) (by kernel_rfl) (by kernel_rfl) (fun _ _ _ h => h) (.inl ⟨by kernel_rfl, fun w' hS => by (go_simp)⟩) hHeld ?_
      (try simp only [Act.put, List.setIfInBounds_toArray, List.set_cons_zero, List.set_cons_succ])
      refine stake (i := 7) (v := (.int .u32 (d : Int))) 37 rfl (by kernel_rfl) (by kernel_rfl) (by kernel_rfl) (by kernel_rfl) (fun _ _ _ h => h) (.inl ⟨by kernel_rfl, fun w' hS => by (have hc := hS.at_ 1 _ rfl; go_simp)⟩) hHeld ?_
      (try simp only [Act.put, List.setIfInBounds_toArray, List.set_cons_zero, List.set_cons_succ])
      obtain ⟨w7, hrun7, A7, T7⟩ := S6.map.drop d hd4 (HCA.out.trans HN.out) 0
      refine wpAnyH_ready (rs := [8]) (by kernel_rfl) (by simp) (AllReadyH.cons rfl (fun K hK => ?_) AllReadyH.nil)
      have S7 : SmB w7 g b sz d (setF (cutF H c k) d none) (n - k - 1) := ⟨S6.own.grown T7.grown (fun e => by cases e; exact hne rfl), A7⟩
      have O7 : w7.ownsRow w.heap.size 37 6 (.slice ao5 (k + 1) cap5) (k + 1) (flat encG L ++ flat encG [⟨xf, xq, xs, xv, xa, xdl, xdc, xdeps, xt⟩]) := own_mv O6 ((Mv.refl g b w6).turn T7) hlt.1 hlt.2
      have M7 := M6.turn T7
      clear hHeld S6 O6 M6 T7 A7
      rw [if_pos (by kernel_rfl)]
      go_simp
      refine hK.out _ _ S7.own (fun hHeld => ?_)
      clear hK K hHeld hrun7
      refine wpAnyH_done (by kernel_rfl) ?_ _
      go_wp2
      go_roundw
      case rel =>
        have hp1 := HPD.out.1
        have hp2 := HPD.out.2
        refine ⟨k + 1, L ++ [⟨xf, xq, xs, xv, xa, xdl, xdc, xdeps, xt⟩], ao5, cap5, rfl, by rw [List.length_append, HLEN.out]; rfl, by omega, Lib.hid fun i hi => ?_, ?_, ?_, M7⟩
        · by_cases e : i < k
          · obtain ⟨m, h1, h2⟩ := HL.out i e
            exact ⟨m, by rw [List.getElem?_append_left (by rw [HLEN.out]; exact e)]; exact h1, h2⟩
          · have e2 : i = k := by omega
            subst e2
            refine ⟨⟨xf, xq, xs, xv, xa, xdl, xdc, xdeps, xt⟩, by rw [List.getElem?_append_right (by rw [HLEN.out]; exact Nat.le_refl _), HLEN.out, Nat.sub_self]; rfl, ?_⟩
            rw [show c + 1 + i = d by omega]
            exact HN.out
        · have := S7
          rw [hp2, cutF_next] at this
          rw [show c + (k + 1) = c + k + 1 by omega, show n - (k + 1) = n - k - 1 by omega]
          exact this
        · rw [flat_append]
          exact O7
      case measure => simp [lenOf]; omega
end Go.Proofs.Ytcnfkjjfegjecaa
