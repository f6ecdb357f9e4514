/- The document's ear: Epoch, Strange. (Written by wip/gen_refear3.py.) -/
import Derived.Test.YtcjbjcojmjfmaaaRefEar2
set_option linter.unusedVariables false
set_option linter.unusedSimpArgs false
namespace Go.Proofs.Ytcjbjcojmjfmaaa
open Go.RowKit Go.Sort

theorem sd_put (w : World) (s : Sd) : SdB ((w.alloc (.cells #[.int .i64 0, .int .i64 0, .bool false, .bool false, .int .u64 0, .int .i64 0, .int .u64 0, .int .i64 0, .int .u64 0] 39)).setRow w.heap.size #[.int .i64 s.p, .int .i64 s.at_, .bool s.beat, .bool s.gone, .int .u64 (s.b.ce : Int), .int .i64 s.b.cr, .int .u64 (s.b.pe : Int), .int .i64 s.b.pr, .int .u64 (s.b.ep : Int)]) w.heap.size s ∧ Below w.heap.size w ((w.alloc (.cells #[.int .i64 0, .int .i64 0, .bool false, .bool false, .int .u64 0, .int .i64 0, .int .u64 0, .int .i64 0, .int .u64 0] 39)).setRow w.heap.size #[.int .i64 s.p, .int .i64 s.at_, .bool s.beat, .bool s.gone, .int .u64 (s.b.ce : Int), .int .i64 s.b.cr, .int .u64 (s.b.pe : Int), .int .i64 s.b.pr, .int .u64 (s.b.ep : Int)]) :=
  ⟨SdB.put (SdB.zero w) s, ebelowRow ((Grw.refl w).alloc _).below _ (Nat.le_refl _) _⟩
/-- The greatest of a number and the first i of a list. -/
def pmx (n : Nat) (l : List Nat) (i : Nat) : Nat := (l.take i).foldl max n
theorem pmx_zero (n : Nat) (l : List Nat) : pmx n l 0 = n := rfl
theorem pmx_next (n : Nat) (l : List Nat) (i x : Nat) (h : l[i]? = some x) : pmx n l (i + 1) = max (pmx n l i) x := by
  unfold pmx
  obtain ⟨hi, rfl⟩ := List.getElem?_eq_some_iff.1 h
  rw [List.take_succ_eq_append_getElem hi, List.foldl_append]
  rfl
theorem rep_next (M : Rf) (k : Nat) (s : Sd) (hs : sdO (ofT M.all (k : Int)) = s) : repochK M (k + 1) = max (repochK M k) (max s.b.ep (max s.b.ce s.b.pe)) := by
  rw [← hs, sdO_b]
  rfl
theorem rep_none (M : Rf) (k : Nat) (h : (ofT M.all (k : Int)).isSome = false) : repochK M (k + 1) = repochK M k := by
  have : ofT M.all (k : Int) = none := by cases hx : ofT M.all (k : Int) with | none => rfl | some s => rw [hx] at h; cases h
  rw [rep_next M k sd0 (by rw [this]; rfl)]
  show max (repochK M k) (max 0 (max 0 0)) = _
  omega

set_option maxHeartbeats 4000000 in
theorem repoch {w : World} {M : Rf} {ao : Option Addr} (h : RfAt w M ao) (cap : Nat) :
    Calls Try.prog 19 #[.agg #[.int .i64 M.me, .int .i64 M.n, .int .i64 M.timeout, .int .i64 M.now, .slice ao M.all.length cap]] w fun e w' => e = .returned (.int .u64 (repochK M 64 : Nat)) ∧ Below w.heap.size w w' := by
  have L1 := ((Grw.refl w).alloc (.cells #[.int .i64 M.me, .int .i64 M.n, .int .i64 M.timeout, .int .i64 M.now, .slice ao M.all.length cap] 31)).below
  have H1 := h.below L1
  have O1 := Own.new w 31 #[.int .i64 M.me, .int .i64 M.n, .int .i64 M.timeout, .int .i64 M.now, .slice ao M.all.length cap]
  have HL := Lib.hid L1
  have HH := Lib.hid H1
  have HO := Lib.hid O1
  obtain ⟨f, hf⟩ : ∃ f : Nat → Nat, f = repochK M := ⟨_, rfl⟩
  have HF := Lib.hid hf
  rw [show repochK M 64 = f 64 by rw [hf]]
  clear h L1 H1 O1 hf
  obtain ⟨N, hN⟩ : ∃ N, N = 64 := ⟨_, rfl⟩
  rw [← hN]
  have HNN := Lib.hid hN
  clear hN
  go_enter Try.func19, Try.ntmps19
  go_upto_region 1 with fail
  generalize (w.alloc (.cells #[.int .i64 M.me, .int .i64 M.n, .int .i64 M.timeout, .int .i64 M.now, .slice ao M.all.length cap] 31)) = W at *
  go_wp2
  go_loopw [3, 4] (fun st sp wr => ∃ k : Nat, k ≤ 64 ∧ sp = .int .i64 k ∧ st = .int .u64 (f k : Nat) ∧ Below W.heap.size W wr) (fun _ sp _ => 64 - (intOf sp).toNat)
  case atStart => exact ⟨0, Nat.zero_le _, rfl, by rw [HF.out]; rfl, Below.refl _ _⟩
  case round =>
    obtain ⟨k, hk, rfl, rfl, L⟩ := hrel
    by_cases hlt : k < 64
    · have HX1 := Lib.hid (rep_next M k (sdO (ofT M.all (k : Int))) rfl)
      have HX0 := Lib.hid (rep_none M k)
      rw [← HF.out] at HX1 HX0
      have O := HO.out.below L HO.out.lt
      have H := HH.out.below L
      have v0 := O.at_ 0 _ rfl
      have v1 := O.at_ 1 _ rfl
      have v2 := O.at_ 2 _ rfl
      have v3 := O.at_ 3 _ rfl
      have v4 := O.at_ 4 _ rfl
      have R1 := rof H cap (k : Int) (by omega) (by omega)
      generalize f k = n0 at *
      generalize sdO (ofT M.all (k : Int)) = s at *
      generalize (ofT M.all (k : Int)).isSome = ob at *
      clear O H
      go_upto_region 6 with (first | (go_at_call 15; refine R1.mono ?_; rintro e w2 ⟨rfl, B2⟩) | (refine store_sd rfl (.tmp 5) (.tmp 17) rfl w2.heap.size s rfl rfl (SdB.zero w2) ?_))
      (try simp only [Act.put])
      obtain ⟨RS, LB⟩ := sd_put w2 s
      have LV := Lib.hid (L.trans ((B2.trans (LB.mono B2.size)).mono L.size))
      clear LB B2 R1 L v0 v1 v2 v3 v4
      generalize ((w2.alloc (.cells #[.int .i64 0, .int .i64 0, .bool false, .bool false, .int .u64 0, .int .i64 0, .int .u64 0, .int .i64 0, .int .u64 0] 39)).setRow w2.heap.size #[.int .i64 s.p, .int .i64 s.at_, .bool s.beat, .bool s.gone, .int .u64 (s.b.ce : Int), .int .i64 s.b.cr, .int .u64 (s.b.pe : Int), .int .i64 s.b.pr, .int .u64 (s.b.ep : Int)]) = V at *
      generalize w2.heap.size = sb at *
      have s4 := RS.own.at_ 4 _ rfl
      have s6 := RS.own.at_ 6 _ rfl
      have s7 := RS.own.at_ 7 _ rfl
      have s8 := RS.own.at_ 8 _ rfl
      clear RS
      obtain ⟨sp, sa, sbt, sg, ce, cr, pe, pr, ep⟩ := s
      simp only at *
      cases ob
      · have HX := Lib.hid (HX0.out rfl)
        clear HX0 HX1
        go_wp2
        go_roundw
        case rel => exact ⟨k + 1, by omega, by go_num, by rw [HX.out], LV.out⟩
        case measure => simp [intOf] <;> omega
      · go_upto_region 8 with fail
        have AO := Own.new V 74 #[.int .u64 (ep : Int), .int .u64 (ce : Int), .int .u64 (pe : Int)]
        have LA := Lib.hid (LV.out.trans (((Grw.refl V).alloc (.cells #[.int .u64 (ep : Int), .int .u64 (ce : Int), .int .u64 (pe : Int)] 74)).below.mono LV.out.size))
        have HX := Lib.hid (show f (k + 1) = pmx n0 [ep, ce, pe] 3 by
          rw [HX1.out]
          show _ = max (max (max n0 ep) ce) pe
          omega)
        have hcell : ∀ (i x : Nat), ([ep, ce, pe] : List Nat)[i]? = some x → (V.alloc (.cells #[.int .u64 (ep : Int), .int .u64 (ce : Int), .int .u64 (pe : Int)] 74)).cell? ⟨V.heap.size, i, none⟩ = some (.int .u64 (x : Int)) := by
          intro i x hx
          rcases i with _ | _ | _ | i
          · cases hx; exact AO.at_ 0 _ rfl
          · cases hx; exact AO.at_ 1 _ rfl
          · cases hx; exact AO.at_ 2 _ rfl
          · simp at hx
        have HCE := Lib.hid hcell
        have hlen : ([ep, ce, pe] : List Nat).length = 3 := rfl
        have HLE := Lib.hid hlen
        clear hcell hlen AO HX0 HX1 s4 s6 s7 s8 LV
        have HP := Lib.hid (fun i x h => pmx_next n0 [ep, ce, pe] i x h)
        have HP0 : pmx n0 [ep, ce, pe] 0 = n0 := rfl
        have HP0 := Lib.hid HP0
        generalize (V.alloc (.cells #[.int .u64 (ep : Int), .int .u64 (ce : Int), .int .u64 (pe : Int)] 74)) = V2 at *
        generalize V.heap.size = ab at *
        obtain ⟨px, hpx⟩ : ∃ px : Nat → Nat, px = pmx n0 [ep, ce, pe] := ⟨_, rfl⟩
        rw [← hpx] at HP HP0 HX
        clear hpx
        rename_i HP0'
        clear HP0'
        go_wp2
        go_loop [3, 8] (fun sn si => ∃ i : Nat, i ≤ 3 ∧ si = .int .i64 i ∧ sn = .int .u64 (px i : Nat)) (fun _ si => 3 - (intOf si).toNat)
        case atStart => exact ⟨0, by omega, rfl, by rw [HP0.out]⟩
        case round =>
          obtain ⟨i, hi, rfl, rfl⟩ := hrel
          by_cases hlt3 : i < 3
          · obtain ⟨x, hx⟩ : ∃ x, [ep, ce, pe][i]? = some x := ⟨_, List.getElem?_eq_getElem (by rw [HLE.out]; exact hlt3)⟩
            have x0 := HCE.out i x hx
            have HPN := Lib.hid (HP.out i x hx)
            have HPX : Hid (∀ a b : Nat, a < b → max a b = b) := Lib.hid (fun a b h => by omega)
            have HPY : Hid (∀ a b : Nat, ¬ a < b → max a b = a) := Lib.hid (fun a b h => by omega)
            clear hx
            generalize hpi : px i = y at *
            clear hpi
            by_cases hyx : y < x
            · have HZ := Lib.hid (HPN.out.trans (HPX.out y x hyx))
              go_wp2
              go_round
              case rel => exact ⟨i + 1, by omega, by go_num, by rw [HZ.out]⟩
              case measure => simp [intOf] <;> omega
            · have HZ := Lib.hid (HPN.out.trans (HPY.out y x hyx))
              go_wp2
              go_round
              case rel => exact ⟨i + 1, by omega, by go_num, by rw [HZ.out]⟩
              case measure => simp [intOf] <;> omega
          · have HZ := Lib.hid (show f (k + 1) = px i by rw [HX.out, show i = 3 by omega])
            go_wp2
            go_roundw
            case rel => exact ⟨k + 1, by omega, by go_num, by rw [HZ.out], LA.out⟩
            case measure => simp [intOf] <;> omega
    · have HLW := Lib.hid (HL.out.trans (L.mono HL.out.size))
      have HE := Lib.hid (show f k = f N by rw [HNN.out, show k = 64 by omega])
      clear L
      generalize f k = t at *
      go_wp2
      go_ret
      exact ⟨by rw [← HE.out]; rfl, HLW.out⟩

theorem and_bit64 (s k : Nat) (hs : s < 18446744073709551616) : bits .and .u64 ((s : Int) / 2 ^ k) 1 = (if s.testBit k = true then 1 else 0 : Int) := by
  have e1 : ((s : Int) / 2 ^ k) = ((s / 2 ^ k : Nat) : Int) := by rw [Int.natCast_ediv, Int.natCast_pow]; rfl
  rw [e1, show (1 : Int) = ((1 : Nat) : Int) from rfl, bits_and_u64_nat _ 1 (Nat.lt_of_le_of_lt (Nat.div_le_self _ _) hs) (by decide), Nat.and_one_is_mod, Nat.testBit_eq_decide_div_mod_eq]
  by_cases h : s / 2 ^ k % 2 = 1
  · rw [h]; simp
  · rw [show s / 2 ^ k % 2 = 0 by omega]; simp
def rsB (M : Rf) (s e : Nat) (r : Int) (q : Nat) : Bool := (ofT M.all (q : Int)).isSome && (s.testBit q && otherB (botO (ofT M.all (q : Int))) e r)

set_option maxHeartbeats 4000000 in
theorem rstrange {w : World} {M : Rf} {ao : Option Addr} (h : RfAt w M ao) (cap : Nat) (s0 : Nat) (hs0 : s0 < 18446744073709551616) (e0 : Nat) (r0 : Int) :
    Calls Try.prog 21 #[.agg #[.int .i64 M.me, .int .i64 M.n, .int .i64 M.timeout, .int .i64 M.now, .slice ao M.all.length cap], .int .u64 (s0 : Int), .agg #[.int .u64 (e0 : Int), .int .i64 r0]] w fun e w' => e = .returned (.int .u64 (rstrangeM M s0 e0 r0 : Nat)) ∧ Below w.heap.size w w' := by
  have L0 := ((Grw.refl w).alloc (.cells #[.int .i64 M.me, .int .i64 M.n, .int .i64 M.timeout, .int .i64 M.now, .slice ao M.all.length cap] 31)).below
  have L1 := L0.trans (((Grw.refl (w.alloc (.cells #[.int .i64 M.me, .int .i64 M.n, .int .i64 M.timeout, .int .i64 M.now, .slice ao M.all.length cap] 31))).alloc (.cells #[.int .u64 (e0 : Int), .int .i64 r0] 25)).below.mono L0.size)
  have H1 := h.below L1
  have O1 := (Own.new w 31 #[.int .i64 M.me, .int .i64 M.n, .int .i64 M.timeout, .int .i64 M.now, .slice ao M.all.length cap]).below ((Grw.refl (w.alloc (.cells #[.int .i64 M.me, .int .i64 M.n, .int .i64 M.timeout, .int .i64 M.now, .slice ao M.all.length cap] 31))).alloc (.cells #[.int .u64 (e0 : Int), .int .i64 r0] 25)).below (by simp)
  have C1 := Own.new (w.alloc (.cells #[.int .i64 M.me, .int .i64 M.n, .int .i64 M.timeout, .int .i64 M.now, .slice ao M.all.length cap] 31)) 25 #[.int .u64 (e0 : Int), .int .i64 r0]
  rw [show (w.alloc (.cells #[.int .i64 M.me, .int .i64 M.n, .int .i64 M.timeout, .int .i64 M.now, .slice ao M.all.length cap] 31)).heap.size = w.heap.size + 1 by simp] at C1
  have HL := Lib.hid L1
  have HH := Lib.hid H1
  have HO := Lib.hid O1
  have HC := Lib.hid C1
  have HSB := Lib.hid (fun k => and_bit64 s0 k hs0)
  clear h L0 L1 H1 O1 C1 hs0
  go_enter Try.func21, Try.ntmps21
  go_upto_region 1 with fail
  generalize ((w.alloc (.cells #[.int .i64 M.me, .int .i64 M.n, .int .i64 M.timeout, .int .i64 M.now, .slice ao M.all.length cap] 31)).alloc (.cells #[.int .u64 (e0 : Int), .int .i64 r0] 25)) = W at *
  go_wp2
  go_loopw [7, 8] (fun st sp wr => ∃ k : Nat, k ≤ 64 ∧ sp = .int .i64 k ∧ st = .int .u64 (rsetK (rsB M s0 e0 r0) k : Nat) ∧ Below W.heap.size W wr) (fun _ sp _ => 64 - (intOf sp).toNat)
  case atStart => exact ⟨0, Nat.zero_le _, rfl, by rw [rsetK_zero]; rfl, Below.refl _ _⟩
  case round =>
    obtain ⟨k, hk, rfl, rfl, L⟩ := hrel
    by_cases hlt : k < 64
    · have HY := Lib.hid (rsetK_yes (rsB M s0 e0 r0) k hlt)
      have HN := Lib.hid (rsetK_no (rsB M s0 e0 r0) k)
      have HOR := Lib.hid (or_one (rsetK (rsB M s0 e0 r0) k) k (rsetK_lt _ _) hlt)
      have HB : Hid (rsB M s0 e0 r0 k = ((ofT M.all (k : Int)).isSome && (s0.testBit k && otherB (sdO (ofT M.all (k : Int))).b e0 r0))) := Lib.hid (by rw [sdO_b]; rfl)
      have C := HC.out.below L HC.out.lt
      have hsb := HSB.out k
      have O := HO.out.below L HO.out.lt
      have H := HH.out.below L
      have v0 := O.at_ 0 _ rfl
      have v1 := O.at_ 1 _ rfl
      have v2 := O.at_ 2 _ rfl
      have v3 := O.at_ 3 _ rfl
      have v4 := O.at_ 4 _ rfl
      have R1 := rof H cap (k : Int) (by omega) (by omega)
      generalize rsetK (rsB M s0 e0 r0) k = n0 at *
      generalize sdO (ofT M.all (k : Int)) = s at *
      generalize (ofT M.all (k : Int)).isSome = ob at *
      clear O H
      go_upto_region 6 with (first | (go_at_call 15; refine R1.mono ?_; rintro e w2 ⟨rfl, B2⟩) | (refine store_sd rfl (.tmp 9) (.tmp 19) rfl w2.heap.size s rfl rfl (SdB.zero w2) ?_))
      (try simp only [Act.put])
      obtain ⟨RS, LB⟩ := sd_put w2 s
      have LV := Lib.hid (L.trans ((B2.trans (LB.mono B2.size)).mono L.size))
      have LC := Lib.hid (B2.trans (LB.mono B2.size))
      clear LB B2 R1 L v0 v1 v2 v3 v4
      generalize ((w2.alloc (.cells #[.int .i64 0, .int .i64 0, .bool false, .bool false, .int .u64 0, .int .i64 0, .int .u64 0, .int .i64 0, .int .u64 0] 39)).setRow w2.heap.size #[.int .i64 s.p, .int .i64 s.at_, .bool s.beat, .bool s.gone, .int .u64 (s.b.ce : Int), .int .i64 s.b.cr, .int .u64 (s.b.pe : Int), .int .i64 s.b.pr, .int .u64 (s.b.ep : Int)]) = V at *
      generalize w2.heap.size = sb at *
      have s4 := RS.own.at_ 4 _ rfl
      have s6 := RS.own.at_ 6 _ rfl
      have s7 := RS.own.at_ 7 _ rfl
      have s8 := RS.own.at_ 8 _ rfl
      clear RS
      obtain ⟨sp, sa, sbt, sg, ce, cr, pe, pr, ep⟩ := s
      simp only at *
      have u0 := (C.below LC.out C.lt).at_ 0 _ rfl
      have u1 := (C.below LC.out C.lt).at_ 1 _ rfl
      clear C LC
      cases ob
      · have HX := Lib.hid (HN.out (HB.out.trans rfl))
        clear HY HN HB hsb
        go_wp2
        go_roundw
        case rel => exact ⟨k + 1, by omega, by go_num, by rw [HX.out], LV.out⟩
        case measure => simp [intOf] <;> omega
      · cases hbit : s0.testBit k
        · rw [hbit] at hsb
          rw [hbit] at HB
          replace hsb : bits .and .u64 ((s0 : Int) / 2 ^ k) 1 = 0 := hsb
          have HX := Lib.hid (HN.out (HB.out.trans rfl))
          clear HY HN HB hbit
          go_wp2
          go_roundw
          case rel => exact ⟨k + 1, by omega, by go_num, by rw [HX.out], LV.out⟩
          case measure => simp [intOf] <;> omega
        · rw [hbit] at hsb
          rw [hbit] at HB
          replace hsb : bits .and .u64 ((s0 : Int) / 2 ^ k) 1 = 1 := hsb
          have hq : ∀ w, (binOp .neq 25 (.agg #[.int .u64 (pe : Int), .int .i64 pr]) (.agg #[.int .u64 (e0 : Int), .int .i64 r0])).run Try.prog w = .ok (.bool (otherB ⟨ce, cr, pe, pr, ep⟩ e0 r0)) w := fun w => other_neq ⟨ce, cr, pe, pr, ep⟩ e0 r0 w
          generalize otherB ⟨ce, cr, pe, pr, ep⟩ e0 r0 = qb at *
          clear hbit
          cases qb
          · have HX := Lib.hid (HN.out (HB.out.trans rfl))
            clear HY HN HB
            go_wp2
            go_roundw
            case rel => exact ⟨k + 1, by omega, by go_num, by rw [HX.out], LV.out⟩
            case measure => simp [intOf] <;> omega
          · have HX := Lib.hid (HY.out (HB.out.trans rfl))
            clear HY HN HB
            go_wp2
            go_roundw
            case rel => exact ⟨k + 1, by omega, by go_num, by rw [HOR.out, HX.out], LV.out⟩
            case measure => simp [intOf] <;> omega
    · have HLW := Lib.hid (HL.out.trans (L.mono HL.out.size))
      have HE := Lib.hid (show rsetK (rsB M s0 e0 r0) k = rstrangeM M s0 e0 r0 by rw [show k = 64 by omega]; exact rsetK_all _)
      clear L
      generalize rsetK (rsB M s0 e0 r0) k = t at *
      go_wp2
      go_ret
      exact ⟨by rw [← HE.out]; rfl, HLW.out⟩
end Go.Proofs.Ytcjbjcojmjfmaaa
