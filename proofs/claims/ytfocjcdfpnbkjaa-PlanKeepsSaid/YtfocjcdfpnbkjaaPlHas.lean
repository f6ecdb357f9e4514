/- Layer 15: has: is a message in a list? -/
import Derived.Test.YtfocjcdfpnbkjaaPlLaws
import Derived.Test.YtfocjcdfpnbkjaaBel
set_option linter.unusedVariables false
set_option maxRecDepth 100000
set_option linter.unusedSimpArgs false
namespace Go.Proofs.Ytfocjcdfpnbkjaa
open Go.RowKit Go.Sort Go.Shelf Go.Maps

theorem yields_mgm {ops : Array Oper} {S : World → Prop} {op : Oper} {a : Act} (hw : Region.wanted op (yielded ops a.tmps) = true) (x : Operand) (ho : op.op = .load 47 x)
    (g o : Nat) (hx : a.eval x = .pointer (some ⟨g, o, none⟩)) {m : Mg} (hS : ∀ w, S w → w.rangeAt g o (encG m)) : YieldsIf Try.prog ops S op (valG m) a :=
  yieldsIf_load_mid hw 47 x ho g o hx (encG m) _ (fun w' hS' => hS w' hS') Try.underlying47 rfl msg_size
set_option maxHeartbeats 4000000 in
theorem phas (ao : Option Addr) (n c : Nat) (X : List Mg) (m : Mg) (w : World) (hX : Lst encG 6 w ao n X) (hd : ∀ x ∈ X, DpIn w x ∧ x.dl ≤ 1048576) (hm : DpIn w m) (hy : ∃ x ∈ X, sameG x m = true) (hn : n ≤ 1048576) :
    Calls Try.prog 58 #[.slice ao n c, .agg (encG m).toArray] w fun e w' => e = .returned (.bool true) ∧ Below w.heap.size w w' := by
  have B1 := ((Grw.refl w).alloc (.cells (encG m).toArray 47)).below
  have M1 := Lib.hid (MgB.new w m)
  have HB1 := Lib.hid B1
  have HX := Lib.hid (And.intro hX (And.intro hd hm))
  have HLEN := Lib.hid hX.size
  have HY := Lib.hid hy
  clear hX hd hm hy B1
  obtain ⟨f, q, s, v, a, dl, dc, deps, text⟩ := m
  simp only at M1
  unfold encG at HB1 ⊢
  simp only at HB1
  go_enter Try.func58, Try.ntmps58
  go_upto_region 1 with fail
  generalize w.alloc (.cells #[.int .i64 f, .int .u32 q, .int .u64 s, .int .i64 v, .slice a dl dc, .string text] 47) = w1 at *
  obtain ⟨mb, hmb⟩ : ∃ mb, mb = w.heap.size := ⟨_, rfl⟩
  rw [← hmb] at M1
  try rw [← hmb]
  clear hmb
  go_wp2
  go_loopw [5] (fun si wr => ∃ k : Nat, k ≤ n ∧ si = .int .i64 k ∧ Aside (Below w1.heap.size w1 wr) ∧ Aside (∀ (j : Nat) (x : Mg), j < k → X[j]? = some x → sameG x ⟨f, q, s, v, a, dl, dc, deps, text⟩ = false)) (fun si _ => n - (intOf si).toNat)
  case atStart => exact ⟨0, Nat.zero_le _, rfl, Below.refl _ _, fun j x hj => absurd hj (Nat.not_lt_zero _)⟩
  case round =>
    obtain ⟨k, hk, rfl, BW, A⟩ := hrel
    by_cases hlt : k < n
    · obtain ⟨b, o, rfl, hr⟩ := HX.out.1.src (by omega)
      have hlt' : k < X.length := by rw [HLEN.out]; exact hlt
      obtain ⟨x, hx⟩ : ∃ x, X[k]? = some x := ⟨_, List.getElem?_eq_getElem hlt'⟩
      have HBW := Lib.hid (HB1.out.trans (BW.out.mono HB1.out.size))
      have HR := Lib.hid (show wr.rangeAt b (o + k * 6) (encG x) from fun j u hj => cell_later HBW.out (hr k x hx j u hj))
      have M2 := Lib.hid (M1.out.later BW.out)
      have hxd := HX.out.2.1 x (List.mem_of_getElem? hx)
      have D4 := (Grw.refl wr).drew.below
      have PS := sameG_any x ⟨f, q, s, v, a, dl, dc, deps, text⟩ wr.drew ((hxd.1.below HBW.out).below D4) ((HX.out.2.2.below HBW.out).below D4) hxd.2
      have HXK := Lib.hid hx
      have HD4 := Lib.hid D4
      clear hr hx hlt' hxd D4
      go_upto_region 4 with fail
      have hS0 : wr.drew.rangeAt b (o + k * 6) (encG x) ∧ MgB wr.drew mb ⟨f, q, s, v, a, dl, dc, deps, text⟩ := ⟨fun j u hj => cell_later HD4.out (HR.out j u hj), M2.out.later HD4.out⟩
      refine wp_region_held_drew (S := fun w' => w'.rangeAt b (o + k * 6) (encG x) ∧ MgB w' mb ⟨f, q, s, v, a, dl, dc, deps, text⟩) (by kernel_rfl) hS0 (fun hHeld => ?_)
      generalize wr.drew = w4 at *
      refine stake (i := 0) (v := (.slice (some ⟨b, o, none⟩) n c)) 12 rfl (by kernel_rfl) (by kernel_rfl) (by kernel_rfl) (by kernel_rfl) (fun _ _ _ h => h) (.inl ⟨by kernel_rfl, fun w' hS => by (go_simp)⟩) hHeld ?_
      (try simp only [Act.put, List.setIfInBounds_toArray, List.set_cons_zero, List.set_cons_succ])
      refine stake (i := 1) (v := (.int .i64 (k : Int))) 13 rfl (by kernel_rfl) (by kernel_rfl) (by kernel_rfl) (by kernel_rfl) (fun _ _ _ h => h) (.inl ⟨by kernel_rfl, fun w' hS => by (go_simp)⟩) hHeld ?_
      (try simp only [Act.put, List.setIfInBounds_toArray, List.set_cons_zero, List.set_cons_succ])
      refine stake (i := 2) (v := (.pointer (some ⟨b, o + k * 6, none⟩))) 14 rfl (by kernel_rfl) (by kernel_rfl) (by kernel_rfl) (by kernel_rfl) (fun _ _ _ h => h) (.inl ⟨by kernel_rfl, fun w' hS => by (go_simp)⟩) hHeld ?_
      (try simp only [Act.put, List.setIfInBounds_toArray, List.set_cons_zero, List.set_cons_succ])
      refine stake (i := 3) (v := (valG x)) 15 rfl (by kernel_rfl) (by kernel_rfl) (by kernel_rfl) (by kernel_rfl) (fun _ _ _ h => h) (yields_mgm (by kernel_rfl) (.tmp 14) rfl b (o + k * 6) (by kernel_rfl) (fun w hS => hS.1)) hHeld ?_
      (try simp only [Act.put, List.setIfInBounds_toArray, List.set_cons_zero, List.set_cons_succ])
      refine stake (i := 4) (v := (valG ⟨f, q, s, v, a, dl, dc, deps, text⟩)) 16 rfl (by kernel_rfl) (by kernel_rfl) (by kernel_rfl) (by kernel_rfl) (fun _ _ _ h => h) (yields_mgm (by kernel_rfl) (.tmp 3) rfl mb 0 (by kernel_rfl) (fun w hS => fun j u hj => by rw [Nat.zero_add]; exact hS.2.own.at_ j u (by rw [← List.getElem?_toArray] at hj; exact hj))) hHeld ?_
      (try simp only [Act.put, List.setIfInBounds_toArray, List.set_cons_zero, List.set_cons_succ])
      refine wpAnyH_ready (rs := [5]) (by kernel_rfl) (by simp) (AllReadyH.cons rfl (fun K hK => ?_) AllReadyH.nil)
      clear hHeld
      rw [if_pos (by kernel_rfl)]
      go_simp
      refine PS.mono ?_
      rintro e w5 ⟨rfl, hG⟩
      refine hK.out _ _ ⟨fun j u hj => cell_later hG.below (hS0.1 j u hj), hS0.2.later hG.below⟩ (fun hHeld => ?_)
      have HB5 := Lib.hid (BW.out.trans ((HD4.out.trans (hG.below.mono HD4.out.size)).mono BW.out.size))
      clear hK K PS hG hS0 HR M2 HBW HD4
      (try simp only [Act.put, List.setIfInBounds_toArray, List.set_cons_zero, List.set_cons_succ])
      refine wpAnyH_done (by kernel_rfl) ?_ _
      clear hHeld
      cases hs : sameG x ⟨f, q, s, v, a, dl, dc, deps, text⟩ with
      | true =>
        go_wp2
        go_ret
        exact ⟨rfl, HB1.out.trans (HB5.out.mono HB1.out.size)⟩
      | false =>
        have HA := Lib.hid (show ∀ (j : Nat) (y : Mg), j < k + 1 → X[j]? = some y → sameG y ⟨f, q, s, v, a, dl, dc, deps, text⟩ = false from fun j y hj hy => by
          by_cases e : j = k
          · subst e; rw [HXK.out] at hy; cases hy; exact hs
          · exact A.out j y (by omega) hy)
        go_wp2
        go_roundw
        case rel => exact ⟨k + 1, by omega, by go_num, HB5.out, HA.out⟩
        case measure => simp [intOf]; omega
    · exfalso
      obtain ⟨x, hx, hs⟩ := HY.out
      obtain ⟨j, hj⟩ := List.getElem?_of_mem hx
      have := A.out j x (by have := (List.getElem?_eq_some_iff.1 hj).1; rw [HLEN.out] at this; omega) hj
      rw [hs] at this
      cases this
end Go.Proofs.Ytfocjcdfpnbkjaa
