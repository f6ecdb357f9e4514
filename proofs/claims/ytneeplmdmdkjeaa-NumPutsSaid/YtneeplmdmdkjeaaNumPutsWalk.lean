/- The walk of 'NumPuts'. -/
import Derived.Test.YtneeplmdmdkjeaaOpen
import Derived.Test.YtneeplmdmdkjeaaRefPut
import Derived.Test.YtneeplmdmdkjeaaNumGetsWalk
import Derived.Deep.RegionWith
import Derived.Deep.DeepCutAuto
set_option linter.unusedVariables false
set_option linter.unusedSimpArgs false
namespace Go.Proofs.Ytneeplmdmdkjeaa
open Go.RowKit

theorem Src.at_ {w : World} {ao : Option Addr} {l : List UInt8} (h : Src w ao l) (ad : Addr) (e : ao = some ad) : ∀ j v, (cells8 l)[j]? = some v → w.cell? (ad.add j) = some v := by
  rcases h with ⟨rfl, _⟩ | ⟨b, rfl, hs⟩
  · cases e
  · cases e; exact hs

set_option maxHeartbeats 1000000 in
theorem walk_NumPuts (w : World) (ao : Option Addr) (len cap : Nat) (l : List UInt8) (hin : In8 w ao len cap l) (v : Int) (wv : (Lit.int .u64 v).wf = true) (n : Int) (wn : (Lit.int .i64 n).wf = true) :
    Calls Try.prog 3 #[.slice ao len cap, .int .u64 v, .int .i64 n] w fun e w' => e = .returned (.bool true) ∧ Below w.heap.size w w' := by
  obtain ⟨v0, v1⟩ := wf_u64 wv
  obtain ⟨n0, n1⟩ := wf_i64 wn
  by_cases hbig : (20000 : Int) < len
  · go_enter Try.func3, Try.ntmps3
    go_wp2_with fail
    refine (awake_any _).mono ?_
    rintro e w1 ⟨rfl, hb1⟩
    go_wp2
    go_ret
    exact ⟨rfl, hb1⟩
  obtain ⟨u, rfl⟩ := Int.eq_ofNat_of_zero_le v0
  obtain ⟨m, hwid, hm8⟩ := wid_nat n
  have HW := Lib.hid hwid
  have hu : u < 18446744073709551616 := by omega
  clear hwid
  obtain ⟨hlen, hsrc, hnil, _⟩ := hin
  have HL := Lib.hid hlen
  have HNL := Lib.hid hnil
  clear hlen hnil
  obtain ⟨i0, hi, hz0, hz1, hz2⟩ := info_parts Try.info8
  obtain ⟨C, hCr⟩ : ∃ C, C = List.replicate (len + 16) (Value.int .u8 0) := ⟨_, rfl⟩
  have hmk : ∀ W, (Instr.makeSlice 22 (.int .i64 0) (.int .i64 ((len : Int) + 16))).run Try.prog W = .ok (.slice (some ⟨W.heap.size, 0, none⟩) 0 (len + 16)) (W.alloc (.cells C.toArray 5)) := fun W => by
    rw [hCr]
    exact makes8 0 (len + 16) (by omega) (by omega) W
  have hCl : 0 + len ≤ C.length := by rw [hCr]; simp
  have HC := Lib.hid hCr
  have HCl := Lib.hid hCl
  clear hCr hCl
  go_enter Try.func3, Try.ntmps3
  go_wp2_with fail
  refine (awake_any _).mono ?_
  rintro e w1 ⟨rfl, hb1⟩
  go_wp2_with (at_builtin; refine wpList_append_known _ rfl (.tmp 20) (.tmp 21) 22 rfl 5 i0 Try.underlying22 hi hz1 w1.heap.size 0 (len + 16) C (heap_alloc_last w1 _) rfl ao len cap (cells8 l) rfl ((cells8_length l).trans HL.out) HNL.out (fun ad h j u hj => cell_later (hb1.alloc hb1.size _) (hsrc.at_ ad h j u hj)) (cells8_one l) (by omega) HCl.out ?_; intro w2 hg2 hgr2)
  have hmine : Src w2 (some ⟨w1.heap.size, 0, none⟩) l := Src.row hg2.out l (by
    simp only [splice, List.take_zero, List.nil_append]
    rw [List.take_append_of_le_length (by rw [cells8_length]; omega)]
    exact List.take_of_length_le (by rw [cells8_length]; omega))
  have hb2 : Below w.heap.size w w2 := (hb1.alloc hb1.size _).grown hgr2 (by simp; have := hb1.size; omega) (fun k hk => by cases hk; exact hb1.size)
  have hz2' : w1.heap.size < w2.heap.size := by have := hgr2.size; simp at this; omega
  have hspare : ∀ i, len ≤ i → i < len + 16 → w2.cell? ⟨w1.heap.size, i, none⟩ = some (.int .u8 0) := fun i h1 h2 => by
    rw [cell_of_row w2 w1.heap.size i _ _ _ hg2.out, HC.out]
    simp only [splice, List.take_zero, List.nil_append, List.getElem?_toArray]
    rw [List.getElem?_append_right (by rw [cells8_length, HL.out]; omega), List.getElem?_drop, List.getElem?_replicate, if_pos (by rw [cells8_length, HL.out]; omega)]
  have HSP := Lib.hid hspare
  clear hspare hgr2 hg2
  go_wp2_with fail
  refine (put_len w2.heap.size _ l _ _ u n m _ rfl hmine ?_ (by omega) hu HW.out hm8).mono ?_
  · have := HL.out; omega
  rintro e w3 ⟨rfl, hown, hb3⟩
  obtain ⟨X, hX⟩ : ∃ X : ByteArray, X = ⟨(l ++ pb m u).toArray⟩ := ⟨_, rfl⟩
  obtain ⟨Y, hY⟩ : ∃ Y : ByteArray, Y = ⟨l.toArray⟩ := ⟨_, rfl⟩
  have hYs : Y.size ≤ 1099511627776 := by
    rw [hY]
    show l.toArray.size ≤ _
    rw [List.size_toArray, HL.out]; omega
  have hXd : X.data.toList = Y.data.toList ++ pb m u := by rw [hX, hY]
  have cgot : ∀ W, Src W (some ⟨w2.heap.size, 0, none⟩) (l ++ pb m u) → (convert 22 9 (.slice (some ⟨w2.heap.size, 0, none⟩) (len + m) (len + m))).run Try.prog W = .ok (.string X) W := fun W h => by
    rw [hX]; exact conv_in W _ _ _ _ (by rw [List.length_append, pb_length, HL.out]) h
  have cb : ∀ W ao' c, Src W ao' l → (convert 22 9 (.slice ao' len c)).run Try.prog W = .ok (.string Y) W := fun W ao' c h => by
    rw [hY]; exact conv_in W _ _ _ _ HL.out h
  have sgot : Src w3 (some ⟨w2.heap.size, 0, none⟩) (l ++ pb m u) := Src.own hown
  have smine : Src w3 (some ⟨w1.heap.size, 0, none⟩) l := hmine.below hb3
  have sb : Src w3 ao l := hsrc.below (hb2.trans (hb3.mono (by have := hb2.size; omega)))
  have CG := Lib.hid cgot
  have CB := Lib.hid cb
  have HXd := Lib.hid hXd
  have e1 := cgot w3.drew sgot
  have e2 := cb w3.drew ao cap sb
  have e3 := cb w3.drew (some ⟨w1.heap.size, 0, none⟩) (len + 16) smine
  clear hX hY cgot cb hXd
  go_upto_region 7 with fail
  go_cut [41] (fun s41 wc => s41 = .bool false ∧ Below w3.heap.size w3 wc)
  case first =>
    go_region_with (go_at_call 10; refine (refPut_any Y X u n m _ hYs hu HW.out hm8 HXd.out).mono ?_; rintro e w4 ⟨rfl, hb4⟩; have f1 := CG.out w4 (sgot.drew.below hb4); have f2 := CB.out w4 ao cap (sb.drew.below hb4); have f3 := CB.out w4 (some ⟨w1.heap.size, 0, none⟩) (len + 16) (smine.drew.below hb4))
    all_goals (go_wp2_with fail; go_meet; exact ⟨rfl, ((Below.refl _ w3).drew).trans hb4⟩)
  case rest =>
    obtain ⟨rfl, hb5⟩ := hcut
    have hb6 : Below w2.heap.size w2 wc := hb3.trans (hb5.mono hb3.size)
    have hsp : ∀ i, len ≤ i → i < len + 16 → wc.cell? ⟨w1.heap.size, i, none⟩ = some (.int .u8 0) := fun i h1 h2 => (hb6.cell (p := ⟨w1.heap.size, i, none⟩) hz2').trans (HSP.out i h1 h2)
    have HS2 := Lib.hid hsp
    clear hsp e1 e2 e3
    go_wp2
    go_loop [10] (fun i => ∃ k : Nat, len ≤ k ∧ k ≤ len + 16 ∧ i = .int .i64 k) (fun i => len + 16 - (intOf i).toNat)
    case atStart => exact ⟨len, Nat.le_refl _, by omega, rfl⟩
    case round =>
      obtain ⟨k, hk1, hk2, rfl⟩ := hrel
      by_cases hlt : k < len + 16
      · have hc := HS2.out k hk1 hlt
        go_wp2
        go_round
        case rel => exact ⟨k + 1, by omega, by omega, by go_num⟩
        case measure => simp [intOf]; omega
      · go_wp2
        have hown2 : wc.ownsRow w2.heap.size 5 1 (.slice (some ⟨w2.heap.size, 0, none⟩) (len + m) (len + m)) (len + m) (((l ++ pb m u).map (fun c => (c.toNat : Int))).map (Value.int .u8)) := by
          have := hown.kept (w' := wc) (row := none) ⟨hb5.os, hb5.tape, hb5.output, hb5.size, fun k hk _ => hb5.block k hk⟩ (.inr (by simp [Value.ownBlock]))
          rw [List.map_map]
          exact this
        have hzl : ((l ++ pb m u).map (fun c => (c.toNat : Int))).length = len + m := by rw [List.length_map, List.length_append, pb_length, HL.out]
        go_loopw [11] (fun i wr => ∃ (k : Nat) (zs : List Int), k ≤ len + m ∧ i = .int .i64 k ∧ zs.length = len + m ∧ wr.ownsRow w2.heap.size 5 1 (.slice (some ⟨w2.heap.size, 0, none⟩) (len + m) (len + m)) (len + m) (zs.map (Value.int .u8)) ∧ Below w2.heap.size w2 wr)
          (fun i _ => len + m - (intOf i).toNat)
        case atStart => exact ⟨0, _, Nat.zero_le _, rfl, hzl, hown2, hb6⟩
        case round =>
          obtain ⟨q, zs, hq, rfl, hzs, ho, hbr⟩ := hrel
          by_cases hql : q < len + m
          · have hc : wr.cell? ⟨w2.heap.size, q, none⟩ = some (.int .u8 zs[q]) := by
              rw [ho.cellAt q (by omega), List.getElem?_map, List.getElem?_eq_getElem (by omega)]; rfl
            have hf := ho.frozenAt q
            go_wp2
            go_roundw
            case rel => exact ⟨q + 1, zs.set q ((zs[q] + 1) % 256), by omega, by go_num, by simp [hzs], by rw [List.map_set]; exact (ho.stored q _).1, hbr.setCell (Nat.le_refl _) _⟩
            case measure => simp [intOf]; omega
          · have hbw : Below w.heap.size w wr := hb2.trans (hbr.mono hb2.size)
            have e1 := CB.out wr (some ⟨w1.heap.size, 0, none⟩) (len + 16) (hmine.below hbr)
            have e2 := CB.out wr ao cap (hsrc.below hbw)
            go_wp2
            go_ret
            exact ⟨rfl, hbw⟩
end Go.Proofs.Ytneeplmdmdkjeaa
