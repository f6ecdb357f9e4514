/- Layer 15: the document's own answers: Keep. -/
import Derived.Test.YtfocjcdfpnbkjaaPlGive
import Derived.Test.YtfocjcdfpnbkjaaSRow
import Derived.OwnWalk
import Derived.Laws.MakeOwn
set_option linter.unusedVariables false
set_option maxRecDepth 100000
set_option linter.unusedSimpArgs false
namespace Go.Proofs.Ytfocjcdfpnbkjaa
open Go.RowKit Go.Sort Go.Shelf Go.Maps

theorem infoB15 : (Try.prog.info? 4).map (fun i => (i.zero, i.size, i.bytes)) = some (some (.bool false), 1, 1) := by kernel_rfl
theorem makesB15 (n : Nat) (hc : n ≤ 1048576) (W : World) :
    (Instr.makeSlice 177 (.int .i64 (n : Int)) (.int .i64 (n : Int))).run Try.prog W = .ok (.slice (some ⟨W.heap.size, 0, none⟩) n n) (W.alloc (.cells (List.replicate n (Value.bool false)).toArray 4)) := by
  obtain ⟨i0, hi, hz0, hz1, hz2⟩ := info_parts infoB15
  have h := run_make (P := Try.prog) W 177 4 i0 (.bool false) Try.underlying177 hi hz0 .i64 .i64 (n : Int) (n : Int) (by omega) (by omega) (by rw [hz2]; omega) (by omega)
  have e : madeCells (Value.bool false).cells ((n : Int).toNat * 1) = (List.replicate n (Value.bool false)).toArray := by
    apply Array.ext'
    rw [Int.toNat_natCast, Nat.mul_one]
    exact toList_madeCells_one (.bool false) n
  rw [hz1, e, Int.toNat_natCast] at h
  exact h
/-- The block of what is given up. -/
structure GvSt (w wr : World) (G : List Bool) : Prop where
  own : Own wr w.heap.size 4 (G.map Value.bool).toArray
  bel : Below w.heap.size w wr
section
variable {w wr w' : World} {G : List Bool}
theorem GvSt.later (h : GvSt w wr G) (hb : Below wr.heap.size wr w') : GvSt w w' G := ⟨(hb.block _ h.own.lt).trans h.own, h.bel.trans (hb.mono h.bel.size)⟩
theorem GvSt.start (w : World) (n : Nat) : GvSt w (w.alloc (.cells (List.replicate n (Value.bool false)).toArray 4)) (List.replicate n false) := by
  refine ⟨?_, ((Grw.refl w).alloc _).below⟩
  rw [List.map_replicate]
  exact Own.new w _ _
theorem GvSt.lst (h : GvSt w wr G) : Lst (fun b : Bool => [.bool b]) 1 wr (some ⟨w.heap.size, 0, none⟩) G.length G :=
  ⟨rfl, fun _ => ⟨w.heap.size, 0, rfl, fun i x hx c v hv => by
    have hc : c < 1 := (List.getElem?_eq_some_iff.1 hv).1
    obtain rfl : c = 0 := by omega
    have hv' : v = .bool x := by simpa using hv.symm
    rw [hv', show 0 + i * 1 + 0 = i by omega]
    exact h.own.at_ i _ (by rw [List.getElem?_toArray, List.getElem?_map, hx]; rfl)⟩⟩
theorem GvSt.mark (h : GvSt w wr G) (k : Nat) : GvSt w (wr.setCell ⟨w.heap.size, k, none⟩ (.bool true)) (G.set k true) := by
  refine ⟨?_, h.bel.setCell (by simp) _⟩
  have h1 := h.own.set k (.bool true)
  rw [List.setIfInBounds_toArray] at h1
  rw [List.map_set]
  exact h1
theorem GvSt.there (h : GvSt w wr G) {k : Nat} (hk : k < G.length) : ∃ b, G[k]? = some b ∧ wr.cell? ⟨w.heap.size, k, none⟩ = some (.bool b) := by
  obtain ⟨b, hb⟩ : ∃ b, G[k]? = some b := ⟨_, List.getElem?_eq_getElem hk⟩
  exact ⟨b, hb, h.own.at_ k _ (by rw [List.getElem?_toArray, List.getElem?_map, hb]; rfl)⟩
end
/-- Amid the last loop. -/
structure OutSt (w wr : World) (G : List Bool) (v : Value) (m : Nat) (X : List Mg) : Prop where
  own : wr.ownsRow (w.heap.size + 1) 47 6 v m (flat encG X)
  len : X.length = m
  gv : GvSt w wr G
section
variable {w wr w' : World} {G : List Bool} {v v' : Value} {m : Nat} {X : List Mg}
theorem OutSt.later (h : OutSt w wr G v m X) (hb : Below wr.heap.size wr w') : OutSt w w' G v m X := ⟨own_stays h.own fun j _ hl => hb.block j hl, h.len, h.gv.later hb⟩
theorem OutSt.app (h : OutSt w wr G v m X) (x : Mg) (ho : w'.ownsRow (w.heap.size + 1) 47 6 v' (m + 1) (flat encG X ++ flat encG [x])) (hg : wr.grownBy w' v.ownBlock) : OutSt w w' G v' (m + 1) (X ++ [x]) := by
  have hs : ∀ j, v.ownBlock = some j → w.heap.size + 1 ≤ j := fun j hj => own_behind h.own j hj
  exact ⟨by rw [flat_append]; exact ho, by rw [List.length_append, h.len]; rfl, ⟨(hg.block _ h.gv.own.lt (fun e => by have := hs _ e.symm; omega)).trans h.gv.own, h.gv.bel.grown hg h.gv.bel.size fun j hj => by have := hs j hj; omega⟩⟩
theorem OutSt.sz (h : OutSt w wr G v m X) : w.heap.size + 1 ≤ wr.heap.size := h.gv.own.lt
end
theorem keepK {f : Nat → Wh} {R : List Mg} {k : Nat} {x : Mg} (hx : R[k]? = some x) : (R.take (k + 1)).filter (keptB f R) = (R.take k).filter (keptB f R) ++ (if keptB f R x = true then [x] else []) := by
  rw [List.take_add_one, hx, List.filter_append]
  congr 1
  show [x].filter (keptB f R) = _
  rw [List.filter_cons]; rfl
set_option maxHeartbeats 8000000 in
theorem refKeep {w : World} {ao ro : Option Addr} {n rn : Nat} {C : List Xg} {R : List Mg} (h : XgL w ao n C) (c rc : Nat) (hn : n ≤ 1048576) (hr : Lst encG 6 w ro rn R) (hd : ∀ x ∈ R, DpIn w x ∧ x.dl ≤ 1048576) (hrn : rn ≤ 1000) :
    Calls Try.prog 56 #[.slice ao n c, .slice ro rn rc] w fun e w' => ∃ a m c', e = .returned (.slice a m c') ∧ Lst encG 6 w' a m (keepL (whL C) R) ∧ Below w.heap.size w w' := by
  have HL := Lib.hid h
  have HR := Lib.hid hr
  have HD := Lib.hid hd
  have HLEN := Lib.hid hr.size
  have hmk := makesB15 rn (by omega) w
  have K0 : Hid (GvSt w (w.alloc (.cells (Array.replicate rn (Value.bool false)) 4)) (List.replicate rn false)) := Lib.hid (by have := GvSt.start w rn; rwa [List.toArray_replicate] at this)
  have S0 := Lib.hid (Sound.start (f := whL C) (R := R) rn)
  clear h hr hd
  go_enter Try.func56, Try.ntmps56
  go_wp2
  generalize w.alloc (.cells (Array.replicate rn (Value.bool false)) 4) = w1 at *
  clear hmk
  go_loopw [6] (fun sr wr => ∃ (r : Nat) (G : List Bool), r ≤ rn + 1 ∧ sr = .int .i64 r ∧ G.length = rn ∧ Aside (GvSt w wr G) ∧ Aside (Sound (whL C) R G) ∧ Aside (Closed (whL C) R G ∨ r ≤ cntT G)) (fun sr _ => rn + 1 - (intOf sr).toNat)
  case atStart => exact ⟨0, List.replicate rn false, Nat.zero_le _, rfl, by simp, K0.out, S0.out, .inr (Nat.zero_le _)⟩
  case round =>
    obtain ⟨r, G0, hrr, rfl, hgl0, HK, HS, HC⟩ := hrel
    clear K0 S0
    by_cases hle : r ≤ rn
    · go_wp2
      go_loopw [7] (fun si wr => ∃ (k : Nat) (G : List Bool), k ≤ rn ∧ si = .int .i64 k ∧ G.length = rn ∧ Aside (GvSt w wr G) ∧ Aside (Sound (whL C) R G) ∧ Aside (InSt (whL C) R G0 G k)) (fun si _ => rn - (intOf si).toNat)
      case atStart => exact ⟨0, G0, Nat.zero_le _, rfl, hgl0, HK.out, HS.out, InSt.start⟩
      case round =>
        obtain ⟨k, G, hk, rfl, hgl, HK2, HS2, HI⟩ := hrel
        clear HK HS
        by_cases hlt : k < rn
        · obtain ⟨br, ob, rfl, hrw⟩ := HR.out.src (show 0 < rn by omega)
          have hkl : k < R.length := by rw [HLEN.out]; exact hlt
          obtain ⟨x, hx⟩ : ∃ x, R[k]? = some x := ⟨_, List.getElem?_eq_getElem hkl⟩
          have HRX := Lib.hid (show ∀ W, Below w.heap.size w W → W.rangeAt br (ob + k * 6) (encG x) from fun W hW i' u' hj' => cell_later hW (hrw k x hx i' u' hj'))
          have HX := Lib.hid hx
          have hxd := HD.out x (List.mem_of_getElem? hx)
          have PC := refCounts (HL.out.below HK2.out.bel) c hn x
          have HXD := Lib.hid hxd
          have HSK := Lib.hid (fun hb => HI.out.skip hx hb)
          have HMK := Lib.hid (fun h1 h2 => HI.out.mark hx h1 h2 (by omega))
          have HSM := Lib.hid (fun h1 h2 => HS2.out.set hx h1 h2)
          clear hrw hx hxd hkl HI
          obtain ⟨b1, hb1⟩ : ∃ b1, b1 = countsB (whL C) x := ⟨_, rfl⟩
          rw [← hb1] at PC
          have HB1 := Lib.hid hb1
          clear hb1
          have HRW := Lib.hid (HRX.out wr HK2.out.bel)
          obtain ⟨xf, xq, xs, xv, xa, xl, xc, xd, xt⟩ := x
          unfold encG at PC
          simp only at PC
          go_wp2_with (first | (refine load_mgm rfl (.tmp 28) rfl br (ob + k * 6) ⟨xf, xq, xs, xv, xa, xl, xc, xd, xt⟩ rfl HRW.out ?_) | fail)
          refine PC.mono ?_
          rintro e w2 ⟨rfl, B2⟩
          have HK3 := Lib.hid (HK2.out.later B2)
          clear PC B2 HK2 HRW
          cases b1 with
          | false =>
            have HI2 := Lib.hid (HSK.out (fun hb => by have := countsB_iff.2 hb.1; rw [← HB1.out] at this; cases this))
            clear HSK HMK HSM
            go_wp2
            go_roundw
            case rel => exact ⟨k + 1, G, by omega, by go_num, hgl, HK3.out, HS2.out, HI2.out⟩
            case measure => simp [intOf]; omega
          | true =>
            have HCX := Lib.hid (countsB_iff.1 HB1.out.symm)
            have PL := refLost (m := ⟨xf, xq, xs, xv, xa, xl, xc, xd, xt⟩) (HL.out.below HK3.out.bel) c rc rn hn (Lst.below HR.out HK3.out.bel) (fun y hy => ((HD.out y hy).1).below HK3.out.bel) (by have := HK3.out.lst; rwa [hgl] at this) rfl (by omega) (HXD.out.1.below HK3.out.bel) HXD.out.2
            have HRW := Lib.hid (HRX.out w2 HK3.out.bel)
            unfold encG at PL
            simp only at PL
            have e0 : w2.cell? ⟨br, ob + k * 6, none⟩ = some (.int .i64 xf) := HRW.out 0 _ rfl
            have e1 : w2.cell? ⟨br, ob + k * 6 + 1, none⟩ = some (.int .u32 xq) := HRW.out 1 _ rfl
            have e2 : w2.cell? ⟨br, ob + k * 6 + 2, none⟩ = some (.int .u64 xs) := HRW.out 2 _ rfl
            have e3 : w2.cell? ⟨br, ob + k * 6 + 3, none⟩ = some (.int .i64 xv) := HRW.out 3 _ rfl
            have e4 : w2.cell? ⟨br, ob + k * 6 + 4, none⟩ = some (.slice xa xl xc) := HRW.out 4 _ rfl
            have e5 : w2.cell? ⟨br, ob + k * 6 + 5, none⟩ = some (.string xt) := HRW.out 5 _ rfl
            go_wp2_with fail
            refine PL.mono ?_
            rintro e w3 ⟨hlo, B3⟩
            have HK4 := Lib.hid (HK3.out.later B3)
            clear PL B3 HK3 HRW e0 e1 e2 e3 e4 e5
            rcases hlo with ⟨rfl, hlo⟩ | ⟨rfl, hlo⟩
            · have HI2 := Lib.hid (HMK.out HCX.out hlo)
              have HS3 := Lib.hid (HSM.out HCX.out hlo)
              have HK5 := Lib.hid (HK4.out.mark k)
              obtain ⟨ob', _, g0⟩ := HK4.out.there (show k < G.length by omega)
              have gf := HK4.out.own.free k
              clear HSK HMK HSM hlo
              go_wp2
              go_roundw
              case rel => exact ⟨k + 1, G.set k true, by omega, by go_num, by simp [hgl], HK5.out, HS3.out, HI2.out⟩
              case measure => simp [intOf]; omega
            · have HI2 := Lib.hid (HSK.out (fun hb => hlo hb.2))
              clear HSK HMK HSM hlo
              go_wp2
              go_roundw
              case rel => exact ⟨k + 1, G, by omega, by go_num, hgl, HK4.out, HS2.out, HI2.out⟩
              case measure => simp [intOf]; omega
        · have HI2 := Lib.hid (show InSt (whL C) R G0 G R.length by rw [HLEN.out, ← show k = rn by omega]; exact HI.out)
          have HC2 := Lib.hid (HI2.out.done HC.out)
          clear HI HI2
          go_wp2
          go_roundw
          case rel => exact ⟨r + 1, G, by omega, by go_num, hgl, HK2.out, HS2.out, HC2.out⟩
          case measure => simp [intOf]; omega
    · have HCL := Lib.hid (closed_end (show Closed (whL C) R G0 ∨ R.length + 1 ≤ cntT G0 by rw [HLEN.out, ← show r = rn + 1 by omega]; exact HC.out) (by rw [HLEN.out]; exact hgl0))
      have O0 := Lib.hid (show OutSt w wr G0 (.slice none 0 0) 0 ((R.take 0).filter (keptB (whL C) R)) from ⟨World.ownsRow_nil _ _ _ _, rfl, HK.out⟩)
      have HS0 := Lib.hid HS.out
      have HKA := Lib.hid (fun (k : Nat) (x : Mg) (b : Bool) (h1 : R[k]? = some x) (h2 : G0[k]? = some b) => kept_at HS.out HCL.out h1 b h2)
      clear HK HS HC HCL
      go_wp2
      go_loopw [8, 9] (fun sv si wr => ∃ (k m c2 : Nat) (a2 : Option Addr), k ≤ rn ∧ m ≤ k ∧ sv = .slice a2 m c2 ∧ si = .int .i64 k ∧ Aside (OutSt w wr G0 (.slice a2 m c2) m ((R.take k).filter (keptB (whL C) R)))) (fun _ si _ => rn - (intOf si).toNat)
      case atStart => exact ⟨0, 0, 0, none, Nat.zero_le _, Nat.le_refl _, rfl, rfl, O0.out⟩
      case round =>
        obtain ⟨k, m, c2, a2, hk, hm, rfl, rfl, HO⟩ := hrel
        clear O0
        by_cases hlt : k < rn
        · obtain ⟨br, ob, rfl, hrw⟩ := HR.out.src (show 0 < rn by omega)
          have hkl : k < R.length := by rw [HLEN.out]; exact hlt
          obtain ⟨x, hx⟩ : ∃ x, R[k]? = some x := ⟨_, List.getElem?_eq_getElem hkl⟩
          have HRX := Lib.hid (show ∀ W, Below w.heap.size w W → W.rangeAt br (ob + k * 6) (encG x) from fun W hW i' u' hj' => cell_later hW (hrw k x hx i' u' hj'))
          have PC := refCounts (HL.out.below HO.out.gv.bel) c hn x
          obtain ⟨gb, hgb, _⟩ := HO.out.gv.there (show k < G0.length by omega)
          have HKP := Lib.hid (HKA.out k x gb hx hgb)
          have HKK := Lib.hid (keepK (f := whL C) hx)
          have HGB := Lib.hid hgb
          clear hrw hx hkl hgb
          obtain ⟨b1, hb1⟩ : ∃ b1, b1 = countsB (whL C) x := ⟨_, rfl⟩
          rw [← hb1] at PC HKP
          clear hb1
          have HRW := Lib.hid (HRX.out wr HO.out.gv.bel)
          obtain ⟨xf, xq, xs, xv, xa, xl, xc, xd, xt⟩ := x
          unfold encG at PC
          simp only at PC
          go_wp2_with (first | (refine load_mgm rfl (.tmp 53) rfl br (ob + k * 6) ⟨xf, xq, xs, xv, xa, xl, xc, xd, xt⟩ rfl HRW.out ?_) | fail)
          refine PC.mono ?_
          rintro e w2 ⟨rfl, B2⟩
          have HO2 := Lib.hid (HO.out.later B2)
          clear PC B2 HO HRW
          cases b1 with
          | false =>
            have HE := HKK.out
            rw [HKP.out, Bool.false_and, if_neg (by decide), List.append_nil] at HE
            have HO3 := Lib.hid (show OutSt w w2 G0 (.slice a2 m c2) m ((R.take (k + 1)).filter (keptB (whL C) R)) by rw [HE]; exact HO2.out)
            clear HE HKK HKP HO2
            go_wp2
            go_roundw
            case rel => exact ⟨k + 1, m, c2, a2, by omega, by omega, rfl, by go_num, HO3.out⟩
            case measure => simp [intOf]; omega
          | true =>
            obtain ⟨gb', hgb', g0⟩ := HO2.out.gv.there (show k < G0.length by omega)
            obtain rfl : gb' = gb := by have := HGB.out; rw [hgb'] at this; cases this; rfl
            clear hgb'
            cases gb' with
            | true =>
              have HE := HKK.out
              rw [HKP.out, Bool.true_and, if_neg (by decide), List.append_nil] at HE
              have HO3 := Lib.hid (show OutSt w w2 G0 (.slice a2 m c2) m ((R.take (k + 1)).filter (keptB (whL C) R)) by rw [HE]; exact HO2.out)
              clear HE HKK HKP HO2
              go_wp2
              go_roundw
              case rel => exact ⟨k + 1, m, c2, a2, by omega, by omega, rfl, by go_num, HO3.out⟩
              case measure => simp [intOf]; omega
            | false =>
              have HE := HKK.out
              rw [HKP.out, Bool.true_and, if_pos (by decide)] at HE
              have HE2 := Lib.hid HE
              have HRW := Lib.hid (HRX.out w2 HO2.out.gv.bel)
              have O8 := Lib.hid (HO2.out.later ((Grw.refl w2).alloc (.cells #[.int .i64 xf, .int .u32 xq, .int .u64 xs, .int .i64 xv, .slice xa xl xc, .string xt] 47)).below)
              have X8 : Hid (MgB (w2.alloc (.cells #[.int .i64 xf, .int .u32 xq, .int .u64 xs, .int .i64 xv, .slice xa xl xc, .string xt] 47)) w2.heap.size ⟨xf, xq, xs, xv, xa, xl, xc, xd, xt⟩) := Lib.hid (MgB.new w2 ⟨xf, xq, xs, xv, xa, xl, xc, xd, xt⟩)
              clear HE HKK HKP HO2
              go_wp2_with (first
                | (refine load_mgm rfl (.tmp 66) rfl br (ob + k * 6) ⟨xf, xq, xs, xv, xa, xl, xc, xd, xt⟩ rfl HRW.out ?_)
                | (at_builtin; refine append_mg _ rfl (.tmp 63) (.tmp 68) rfl (w.heap.size + 1) (.slice a2 m c2) m _ rfl O8.out.own (some ⟨w2.heap.size, 0, none⟩) 1 1 [⟨xf, xq, xs, xv, xa, xl, xc, xd, xt⟩] rfl (fun e => by cases e) (lst_one X8.out) (by omega) O8.out.sz ?_; intro v9 w9 h1 h2)
                | fail)
              obtain ⟨a9, c9, rfl⟩ := own_form' h1
              have S9 := O8.out.app ⟨xf, xq, xs, xv, xa, xl, xc, xd, xt⟩ h1 h2
              rw [← HE2.out] at S9
              have HS9 := Lib.hid S9
              clear h1 h2 S9 O8 X8 HE2 HRW
              go_roundw
              case rel => exact ⟨k + 1, m + 1, c9, a9, by omega, by omega, rfl, by go_num, HS9.out⟩
              case measure => simp [intOf]; omega
        · have HF := HO.out
          rw [List.take_of_length_le (by rw [HLEN.out]; omega)] at HF
          have HF2 := Lib.hid (own_lst' encG_length HF.len HF.own)
          have HB := Lib.hid HF.gv.bel
          clear HF HO
          go_wp2
          go_ret
          exact ⟨a2, m, c2, rfl, HF2.out, HB.out⟩
end Go.Proofs.Ytfocjcdfpnbkjaa
