/- The walk of HoldBack. -/
import Derived.Test.YtafenlacacghoaaHdAwake
import Derived.Test.YtafenlacacghoaaSAll
set_option linter.unusedVariables false
set_option linter.unusedSimpArgs false
namespace Go.Proofs.Ytafenlacacghoaa
open Go.RowKit Go.Sort

/-- The message of a number, as the law puts it. -/
def mkB (l : List Mg) (k : Nat) : Mg := { (l[k]?.getD zeroG) with f := 7, q := ((k : Int) + 1) }
def rowB12 (l : List Mg) : Nat → List Mg
  | 0 => []
  | k + 1 => rowB12 l k ++ [strip (mkB l k)]
theorem rowB12_len (l : List Mg) : ∀ k, (rowB12 l k).length = k
  | 0 => rfl
  | k + 1 => by unfold rowB12; rw [List.length_append, rowB12_len l k]; rfl
theorem rowB12_at (l : List Mg) (i : Nat) : ∀ k, i < k → (rowB12 l k)[i]? = some (strip (mkB l i))
  | 0, h => by omega
  | k + 1, h => by
    unfold rowB12
    by_cases e : i = k
    · subst e
      rw [List.getElem?_append_right (by rw [rowB12_len]; omega), rowB12_len, Nat.sub_self]; rfl
    · rw [List.getElem?_append_left (by rw [rowB12_len]; omega)]
      exact rowB12_at l i k (by omega)
def sB12 (l : List Mg) (k : Nat) : Hs := ⟨fun _ => 0, updF (fun _ => []) 7 (rowB12 l k)⟩
theorem sB12_cnt (l : List Mg) (k : Nat) : (sB12 l k).cnt 7 = k := by
  show 0 + (updF (fun _ => []) 7 (rowB12 l k) 7).length = k
  rw [updF_same, rowB12_len, Nat.zero_add]
theorem sB12_put (l : List Mg) (k : Nat) : putS (sB12 l k) (mkB l k) = sB12 l (k + 1) ∧ putCode (sB12 l k) (mkB l k) = 0 := by
  have h7 : (mkB l k).f.toNat = 7 := rfl
  have hp : 0 ≤ (mkB l k).f ∧ (mkB l k).f < 64 := ⟨show (0 : Int) ≤ 7 by decide, show (7 : Int) < 64 by decide⟩
  have hq : (mkB l k).q = ((sB12 l k).cnt 7 : Int) + 1 := by rw [sB12_cnt]; rfl
  constructor
  · unfold putS
    rw [if_pos hp, h7, if_pos hq]
    unfold sB12
    congr 1
    funext p
    by_cases e : p = 7
    · subst e
      show updF (updF (fun _ => []) 7 (rowB12 l k)) 7 (updF (fun _ => []) 7 (rowB12 l k) 7 ++ [strip (mkB l k)]) 7 = updF (fun _ => []) 7 (rowB12 l (k + 1)) 7
      rw [updF_same, updF_same, updF_same]
      rfl
    · show updF (updF (fun _ => []) 7 (rowB12 l k)) 7 _ p = updF (fun _ => []) 7 (rowB12 l (k + 1)) p
      rw [updF_other _ _ _ _ e, updF_other _ _ _ _ e, updF_other _ _ _ _ e]
  · unfold putCode
    rw [if_pos hp, h7, if_pos hq]
theorem sB12_again (l : List Mg) (k : Nat) : putS (sB12 l (k + 1)) (mkB l k) = sB12 l (k + 1) ∧ putCode (sB12 l (k + 1)) (mkB l k) = 13 := by
  have h7 : (mkB l k).f.toNat = 7 := rfl
  have hp : 0 ≤ (mkB l k).f ∧ (mkB l k).f < 64 := ⟨show (0 : Int) ≤ 7 by decide, show (7 : Int) < 64 by decide⟩
  have hq : ¬ (mkB l k).q = ((sB12 l (k + 1)).cnt 7 : Int) + 1 := by
    rw [sB12_cnt]
    show ¬ ((k : Int) + 1 = ((k + 1 : Nat) : Int) + 1)
    omega
  constructor
  · unfold putS
    rw [if_pos hp, h7, if_neg hq]
  · unfold putCode
    rw [if_pos hp, h7, if_neg hq]
/-- What Get finds behind the drop. -/
theorem sB12_get (l : List Mg) (n upto i : Nat) (hi : i < n) : getX (onP 0 (dropS (sB12 l n) 7 upto).lo 7) (onP [] (dropS (sB12 l n) 7 upto).R 7) (i + 1) = if upto < i + 1 then some (strip (mkB l i)) else none := by
  have e0 : dropS (sB12 l n) 7 upto = ⟨updF (fun _ => 0) 7 (0 + dropN (sB12 l n) 7 upto), updF (sB12 l n).R 7 (((sB12 l n).R 7).drop (dropN (sB12 l n) 7 upto))⟩ := by unfold dropS; rw [if_pos (by decide)]; rfl
  have e1 : (sB12 l n).R 7 = rowB12 l n := updF_same (fun _ => ([] : List Mg)) 7 (rowB12 l n)
  have e2 : dropN (sB12 l n) 7 upto = min upto n := by unfold dropN; rw [e1, rowB12_len]; rfl
  rw [e0, e2, e1]
  rw [show ((7 : Int)) = ((7 : Nat) : Int) from rfl, onP_yes _ _ 7 (by decide), onP_yes _ _ 7 (by decide)]
  simp only
  rw [updF_same, updF_same, Nat.zero_add]
  unfold getX
  by_cases h : upto < i + 1
  · rw [if_pos h, if_pos (by omega), List.getElem?_drop, show min upto n + (i + 1 - min upto n - 1) = i by omega]
    exact rowB12_at l i n hi
  · rw [if_neg h, if_neg (by omega)]
theorem sB12_end (l : List Mg) (n upto : Nat) : onP 0 (dropS (sB12 l n) 7 upto).cnt 7 = n ∧ onP 0 (dropS (sB12 l n) 7 upto).lo 7 = min upto n ∧ onP 0 (dropS (sB12 l n) 7 upto).cnt 6 = 0 := by
  have e0 : dropS (sB12 l n) 7 upto = ⟨updF (fun _ => 0) 7 (0 + dropN (sB12 l n) 7 upto), updF (sB12 l n).R 7 (((sB12 l n).R 7).drop (dropN (sB12 l n) 7 upto))⟩ := by unfold dropS; rw [if_pos (by decide)]; rfl
  have e1 : (sB12 l n).R 7 = rowB12 l n := updF_same (fun _ => ([] : List Mg)) 7 (rowB12 l n)
  have e2 : dropN (sB12 l n) 7 upto = min upto n := by unfold dropN; rw [e1, rowB12_len]; rfl
  rw [e0, e2, e1]
  rw [show ((7 : Int)) = ((7 : Nat) : Int) from rfl, show ((6 : Int)) = ((6 : Nat) : Int) from rfl, onP_yes _ _ 7 (by decide), onP_yes _ _ 7 (by decide), onP_yes _ _ 6 (by decide)]
  unfold Hs.cnt
  simp only [updF_same, Nat.zero_add]
  have h6 : (sB12 l n).R 6 = [] := updF_other (fun _ => ([] : List Mg)) 7 6 (rowB12 l n) (by decide)
  rw [updF_other _ _ _ _ (by decide), updF_other _ _ _ _ (by decide), h6]
  refine ⟨?_, ?_, ?_⟩ <;> first | trivial | rfl | (rw [List.length_drop, rowB12_len]; omega)

set_option maxHeartbeats 8000000 in
set_option maxRecDepth 100000 in
theorem back_core (ao : Option Addr) (len cap : Nat) (l : List Mg) (upto : Nat) (hu : upto < 4294967296) (w : World) (hl : Lst encG 6 w ao len l) (hd : ∀ m ∈ l, DpIn w m ∧ 0 ≤ m.q ∧ m.q < 4294967296) :
    Calls Try.prog 4 #[.slice ao len cap, .int .u32 (upto : Int)] w fun e w' => e = .returned (.bool true) ∧ Below w.heap.size w w' := by
  have PA := hawake w
  have HL := Lib.hid hl
  have HD := Lib.hid hd
  clear hl hd
  go_enter Try.func4, Try.ntmps4
  go_wp2_with fail
  refine PA.mono ?_
  rintro e w1 ⟨rfl, B1⟩
  have PF := fewG_any ao len cap l w1 (HL.out.below B1)
  have HB1 := Lib.hid B1
  clear PA B1
  go_wp2_with fail
  refine PF.mono ?_
  rintro e w2 ⟨h2, B2⟩
  have HB2 := Lib.hid (HB1.out.trans (B2.mono HB1.out.size))
  clear PF B2 HB1
  rcases h2 with rfl | ⟨rfl, hlen, hdl⟩
  · go_wp2
    go_ret
    exact ⟨rfl, HB2.out⟩
  have HDL := Lib.hid hdl
  have PN := oh_new w w2 HB2.out
  clear hdl
  go_wp2_with fail
  refine PN.mono ?_
  rintro e w3 ⟨rfl, H3⟩
  generalize hg : w2.heap.size = g at *
  have HS3 : Hid (OwnH w w3 g 0 (sB12 l 0)) := Lib.hid (by
    have : sB12 l 0 = hs0 := by unfold sB12 hs0; congr 1; exact updF_self (fun _ => ([] : List Mg)) 7
    rw [this]; exact H3)
  clear PN H3 hg HB2
  go_wp2_with fail
  go_loopw [6] (fun si wr => ∃ k : Nat, k ≤ len ∧ si = .int .i64 k ∧ Hid (OwnH w wr g (2 * k) (sB12 l k))) (fun si _ => len - (intOf si).toNat)
  case atStart => exact ⟨0, Nat.zero_le _, rfl, HS3⟩
  case round =>
    obtain ⟨k, hk, rfl, HS⟩ := hrel
    by_cases hlt : k < len
    · obtain ⟨b, o, x, rfl, hx, hb, hc⟩ := HL.out.atG hlt
      have hcr : ∀ c v, (encG x)[c]? = some v → wr.cell? ⟨b, o + k * 6 + c, none⟩ = some v := fun c v hv => cell_later HS.out.bel (hc c v hv)
      have c0 := hcr 0 _ rfl
      have c1 := hcr 1 _ rfl
      have c2 := hcr 2 _ rfl
      have c3 := hcr 3 _ rfl
      have c4 := hcr 4 _ rfl
      have c5 := hcr 5 _ rfl
      rw [Nat.add_zero] at c0
      have hmk : Hid (mkB l k = ⟨7, (k : Int) + 1, x.s, x.v, x.a, x.dl, x.dc, x.deps, x.text⟩) := Lib.hid (by unfold mkB; rw [hx]; rfl)
      have HDX := Lib.hid (And.intro (HD.out x (List.mem_of_getElem? hx)).1 (HDL.out x (List.mem_of_getElem? hx)))
      clear hcr hc hx
      obtain ⟨f, q, s, v, a, dl, dc, deps, text⟩ := x
      simp only at c0 c1 c2 c3 c4 c5
      go_upto_region 12 with fail
      obtain ⟨F, h0, hF⟩ := HS.out.ex
      have hmbF : ¬ F wr.heap.size := fun e => by have := h0.lim _ e; omega
      have LB := ((Grw.refl wr).alloc (.cells #[.int .i64 7, .int .u32 ((k : Int) + 1), .int .u64 s, .int .i64 v, .slice a dl dc, .string text] 37)).below
      have BB := HS.out.bel.trans (LB.mono HS.out.bel.size)
      have hdi : DpIn (wr.alloc (.cells #[.int .i64 7, .int .u32 ((k : Int) + 1), .int .u64 s, .int .i64 v, .slice a dl dc, .string text] 37)) (mkB l k) := by
        rw [hmk.out]
        exact Lst.below HDX.out.1 BB
      have hdl2 : (mkB l k).dl ≤ 1048576 := by rw [hmk.out]; have := HDX.out.2; simp only at this ⊢; omega
      have hq0 : 0 ≤ (mkB l k).q := by rw [hmk.out]; show (0 : Int) ≤ (k : Int) + 1; omega
      have hq1 : (mkB l k).q < 4294967296 := by rw [hmk.out]; show (k : Int) + 1 < 4294967296; omega
      have P1 := hs_put (h0.below LB) (by omega) (mkB l k) hq0 hq1 hdi hdl2
      unfold PutSaid at P1
      rw [(sB12_put l k).1, (sB12_put l k).2] at P1
      have HP2 : Hid (∀ (F' : Nat → Prop) (W' : World), HRep W' F' g (2 * k + 1) (sB12 l (k + 1)) → Below (wr.alloc (.cells #[.int .i64 7, .int .u32 ((k : Int) + 1), .int .u64 s, .int .i64 v, .slice a dl dc, .string text] 37)).heap.size (wr.alloc (.cells #[.int .i64 7, .int .u32 ((k : Int) + 1), .int .u64 s, .int .i64 v, .slice a dl dc, .string text] 37)) W' ∨ Below w.heap.size w W' → Calls Try.prog 12 #[.pointer (some ⟨g, 0, none⟩), valG (mkB l k)] W' fun e w' => e = .returned (.int .i64 13) ∧ HRep w' (newF F' W' w') g (2 * k + 1 + 1) (sB12 l (k + 1)) ∧ Chg F' W' w') := Lib.hid fun F' W' hr hbb => by
        have hdi' : DpIn W' (mkB l k) := by
          rcases hbb with hbb | hbb
          · exact Lst.below hdi hbb
          · rw [hmk.out]; exact Lst.below HDX.out.1 hbb
        have := hs_put hr (by omega) (mkB l k) hq0 hq1 hdi' hdl2
        unfold PutSaid at this
        rw [(sB12_again l k).1, (sB12_again l k).2] at this
        exact this
      have HM0 := Lib.hid (show MgB (wr.alloc (.cells #[.int .i64 7, .int .u32 ((k : Int) + 1), .int .u64 s, .int .i64 v, .slice a dl dc, .string text] 37)) wr.heap.size ⟨7, (k : Int) + 1, s, v, a, dl, dc, deps, text⟩ from MgB.new wr ⟨7, (k : Int) + 1, s, v, a, dl, dc, deps, text⟩)
      have HB0 := Lib.hid BB
      have HF0 := Lib.hid hF
      have hws := HS.out.bel.size
      rw [hmk.out] at P1 HP2
      unfold valG at P1 HP2
      simp only [encG] at P1 HP2
      clear LB BB hdi hdl2 hq0 hq1 hF h0 HS HDX c0 c1 c2 c3 c4 c5
      generalize hmb : wr.heap.size = mb at *
      generalize hW : wr.alloc (.cells #[.int .i64 7, .int .u32 ((k : Int) + 1), .int .u64 s, .int .i64 v, .slice a dl dc, .string text] 37) = W at *
      have d0 := HM0.out.own.at_ 0 _ rfl
      have d1 := HM0.out.own.at_ 1 _ rfl
      have d2 := HM0.out.own.at_ 2 _ rfl
      have d3 := HM0.out.own.at_ 3 _ rfl
      have d4 := HM0.out.own.at_ 4 _ rfl
      have d5 := HM0.out.own.at_ 5 _ rfl
      clear hW
      go_wp2_with fail
      refine P1.mono ?_
      rintro e w4 ⟨rfl, h4, c4⟩
      have HM4 := Lib.hid (show MgB w4 mb ⟨7, (k : Int) + 1, s, v, a, dl, dc, deps, text⟩ from (c4.block mb HM0.out.lt hmbF).trans HM0.out)
      have HB4 := Lib.hid (HB0.out.trans (c4.below HB0.out.size HF0.out))
      have P2 := HP2.out _ w4 h4 (.inr HB4.out)
      have HF4 : Hid (∀ j, newF F W w4 j → w.heap.size ≤ j) := Lib.hid fun j hj => by
        rcases hj with hj | hj
        · exact HF0.out j hj
        · have := HB0.out.size; omega
      clear P1 HP2 h4 c4 HM0 HB0 d0 d1 d2 d3 d4 d5 HF0
      have d0 := HM4.out.own.at_ 0 _ rfl
      have d1 := HM4.out.own.at_ 1 _ rfl
      have d2 := HM4.out.own.at_ 2 _ rfl
      have d3 := HM4.out.own.at_ 3 _ rfl
      have d4 := HM4.out.own.at_ 4 _ rfl
      have d5 := HM4.out.own.at_ 5 _ rfl
      go_wp2_with fail
      refine P2.mono ?_
      rintro e w5 ⟨rfl, h5, c5⟩
      have HS5 : Hid (OwnH w w5 g (2 * (k + 1)) (sB12 l (k + 1))) := Lib.hid ⟨⟨_, h5, fun j hj => by
        rcases hj with hj | hj
        · exact HF4.out j hj
        · have := HB4.out.size; omega⟩, HB4.out.trans (c5.below HB4.out.size HF4.out)⟩
      clear P2 h5 c5 HM4 HB4 HF4 d0 d1 d2 d3 d4 d5
      go_wp2
      go_roundw
      case rel => exact ⟨k + 1, by omega, by go_num, HS5⟩
      case measure => simp [intOf]; omega
    · obtain rfl : k = len := by omega
      have P3 := oh_drop HS.out (by omega) 7 upto hu
      clear HS
      go_wp2_with fail
      refine P3.mono ?_
      rintro e w6 ⟨rfl, h6⟩
      have HS6 := Lib.hid h6
      clear P3 h6
      have HG := Lib.hid (sB12_get l k upto)
      have HE := Lib.hid (sB12_end l k upto)
      generalize dropS (sB12 l k) 7 upto = S at *
      go_wp2_with fail
      go_loopw [8] (fun si wr => ∃ i : Nat, i ≤ k ∧ si = .int .i64 i ∧ Hid (OwnH w wr g (2 * k) S)) (fun si _ => k - (intOf si).toNat)
      case atStart => exact ⟨0, Nat.zero_le _, rfl, HS6⟩
      case round =>
        obtain ⟨i, hi, rfl, HS⟩ := hrel
        by_cases hlt2 : i < k
        · obtain ⟨b, o, x, rfl, hx, hb, hc⟩ := HL.out.atG hlt2
          have hcr : ∀ c v, (encG x)[c]? = some v → wr.cell? ⟨b, o + i * 6 + c, none⟩ = some v := fun c v hv => cell_later HS.out.bel (hc c v hv)
          have c0 := hcr 0 _ rfl
          have c1 := hcr 1 _ rfl
          have c2 := hcr 2 _ rfl
          have c3 := hcr 3 _ rfl
          have c4 := hcr 4 _ rfl
          have c5 := hcr 5 _ rfl
          rw [Nat.add_zero] at c0
          have hmk : Hid (mkB l i = ⟨7, (i : Int) + 1, x.s, x.v, x.a, x.dl, x.dc, x.deps, x.text⟩) := Lib.hid (by unfold mkB; rw [hx]; rfl)
          have HDX := Lib.hid (And.intro (HD.out x (List.mem_of_getElem? hx)).1 (HDL.out x (List.mem_of_getElem? hx)))
          clear hcr hc hx
          obtain ⟨f, q, s, v, a, dl, dc, deps, text⟩ := x
          simp only at c0 c1 c2 c3 c4 c5
          have LB := ((Grw.refl wr).alloc (.cells #[.int .i64 7, .int .u32 ((i : Int) + 1), .int .u64 s, .int .i64 v, .slice a dl dc, .string text] 37)).below
          have P4 := oh_get (HS.out.later LB) (by omega) 7 (i + 1) (by omega)
          rw [HG.out i hlt2] at P4
          rw [show (((i + 1 : Nat)) : Int) = (i : Int) + 1 by omega] at P4
          have HM0 := Lib.hid (show MgB (wr.alloc (.cells #[.int .i64 7, .int .u32 ((i : Int) + 1), .int .u64 s, .int .i64 v, .slice a dl dc, .string text] 37)) wr.heap.size ⟨7, (i : Int) + 1, s, v, a, dl, dc, deps, text⟩ from MgB.new wr ⟨7, (i : Int) + 1, s, v, a, dl, dc, deps, text⟩)
          have HS7 := Lib.hid (HS.out.later LB)
          clear LB HS
          by_cases hup : upto < i + 1
          · rw [if_pos hup] at P4
            have hupz : (upto : Int) < (i : Int) + 1 := by omega
            clear hup
            go_wp2_with fail
            refine P4.mono ?_
            rintro e w8 hs
            cases hs with
            | yes m x w' k1 k2 k3 =>
              have HS8 := Lib.hid (HS7.out.later k3)
              have HM8 := Lib.hid (HM0.out.later k3)
              rw [hmk.out] at k1
              have HSM := Lib.hid (strip_same (k1.trans (strip_strip _)))
              have HDP := Lib.hid k2.deps
              have hxdl : x.dl ≤ 1048576 := k2.few
              clear P4 k1 k2 k3 HM0 HS7 c0 c1 c2 c3 c4 c5
              obtain ⟨xf, xq, xs, xv, xa, xdl, xdc, xdeps, xt⟩ := x
              simp only at hxdl
              generalize wr.heap.size = mb at *
              have LX := ((Grw.refl w8).alloc (.cells #[.int .i64 xf, .int .u32 xq, .int .u64 xs, .int .i64 xv, .slice xa xdl xdc, .string xt] 37)).below
              have d0 := (HM8.out.later LX).own.at_ 0 _ rfl
              have d1 := (HM8.out.later LX).own.at_ 1 _ rfl
              have d2 := (HM8.out.later LX).own.at_ 2 _ rfl
              have d3 := (HM8.out.later LX).own.at_ 3 _ rfl
              have d4 := (HM8.out.later LX).own.at_ 4 _ rfl
              have d5 := (HM8.out.later LX).own.at_ 5 _ rfl
              have PS := sameG_any ⟨xf, xq, xs, xv, xa, xdl, xdc, xdeps, xt⟩ ⟨7, (i : Int) + 1, s, v, a, dl, dc, deps, text⟩ _ (HDP.out.below LX) (Lst.below HDX.out.1 (HS8.out.bel.trans (LX.mono HS8.out.bel.size))) hxdl
              rw [HSM.out] at PS
              simp only [encG] at PS
              have HS9 := Lib.hid (HS8.out.later LX)
              clear LX HS8 HM8 HSM HDP
              unfold valG
              simp only [encG]
              go_wp2_with fail
              refine PS.mono ?_
              rintro e w9 ⟨rfl, hG⟩
              have HS10 := Lib.hid (HS9.out.later hG.below)
              clear PS hG HS9 d0 d1 d2 d3 d4 d5
              go_wp2
              go_roundw
              case rel => exact ⟨i + 1, by omega, by go_num, HS10⟩
              case measure => simp [intOf]; omega
          · rw [if_neg hup] at P4
            have hupz : ¬ ((upto : Int) < (i : Int) + 1) := by omega
            clear hup
            go_wp2_with fail
            refine P4.mono ?_
            rintro e w8 hs
            cases hs with
            | no w' k3 =>
              have HM8 := Lib.hid (HM0.out.later k3)
              have LX := ((Grw.refl w8).alloc (.cells #[.int .i64 0, .int .u32 0, .int .u64 0, .int .i64 0, .slice none 0 0, .string { data := #[] }] 37)).below
              have d1 := (HM8.out.later LX).own.at_ 1 _ rfl
              have HS9 := Lib.hid ((HS7.out.later k3).later LX)
              clear P4 k3 HM0 HS7 c0 c1 c2 c3 c4 c5 LX HM8
              generalize wr.heap.size = mb at *
              unfold valG zeroG
              simp only [encG]
              go_wp2
              go_roundw
              case rel => exact ⟨i + 1, by omega, by go_num, HS9⟩
              case measure => simp [intOf]; omega
        · have Q1 := oh_count HS.out (by omega) 7
          have Q2 := oh_low HS.out 7
          have Q3 := oh_count HS.out (by omega) 6
          rw [HE.out.1] at Q1
          rw [HE.out.2.1] at Q2
          rw [HE.out.2.2, show (((0 : Nat)) : Int) = 0 from rfl] at Q3
          have HB := Lib.hid HS.out.bel
          obtain ⟨mn, hmn⟩ : ∃ mn, mn = min upto k := ⟨_, rfl⟩
          rw [← hmn] at Q2
          have hm1 : min (upto : Int) (k : Int) = (mn : Int) := by omega
          have hm2 : (if (k : Int) < (upto : Int) then (k : Int) else (upto : Int)) = (mn : Int) := by split <;> omega
          clear hmn HS HG HE
          go_wp2_with (first | (go_at_call 26; refine Q2.mono ?_; rintro e w' ⟨rfl, rfl⟩) | (go_at_call 18; (first | (with_reducible refine Q1.mono ?_) | (with_reducible refine Q3.mono ?_)); rintro e w' ⟨rfl, rfl⟩))
          go_ret
          exact ⟨rfl, HB.out⟩
theorem walk_HoldBack {w : World} (ao : Option Addr) (len cap : Nat) (l : List Mg) (hl : Lst encG 6 w ao len l ∧ (ao = none → cap = 0) ∧ ∀ m ∈ l, DpIn w m ∧ 0 ≤ m.q ∧ m.q < 4294967296) (u : Int) (wu : (Lit.int .u32 u).wf = true) :
    Calls Try.prog 4 #[.slice ao len cap, .int .u32 u] w fun e w' => e = .returned (.bool true) ∧ Below w.heap.size w w' := by
  have b1 := Go.bounds_u32 wu
  obtain ⟨k, rfl⟩ : ∃ k : Nat, u = (k : Int) := ⟨u.toNat, by omega⟩
  exact back_core ao len cap l k (by omega) w hl.1 hl.2.2
end Go.Proofs.Ytafenlacacghoaa
