/- Epoch. -/
import Derived.Test.YtcjbjcojmjfmaaaEarReach
set_option linter.unusedVariables false
set_option linter.unusedSimpArgs false
namespace Go.Proofs.Ytcjbjcojmjfmaaa
open Go.RowKit Go.Sort

theorem lst_four (w : World) (a b c d : K) : Lst encK 2 (w.alloc (.cells #[.int .u64 a.n, .int .i64 a.p, .int .u64 b.n, .int .i64 b.p, .int .u64 c.n, .int .i64 c.p, .int .u64 d.n, .int .i64 d.p] 25)) (some ⟨w.heap.size, 0, none⟩) 4 [a, b, c, d] := by
  have O := Own.new w 25 #[.int .u64 a.n, .int .i64 a.p, .int .u64 b.n, .int .i64 b.p, .int .u64 c.n, .int .i64 c.p, .int .u64 d.n, .int .i64 d.p]
  refine ⟨rfl, fun _ => ⟨_, _, rfl, fun i x hx j v hv => ?_⟩⟩
  have hj : j < 2 := (List.getElem?_eq_some_iff.1 hv).1
  have hi : i < 4 := (List.getElem?_eq_some_iff.1 hx).1
  refine O.at_ _ v ?_
  rw [← hv]
  rcases i with _ | _ | _ | _ | i
  · cases hx; rcases j with _ | _ | j <;> first | rfl | omega
  · cases hx; rcases j with _ | _ | j <;> first | rfl | omega
  · cases hx; rcases j with _ | _ | j <;> first | rfl | omega
  · cases hx; rcases j with _ | _ | j <;> first | rfl | omega
  · omega

set_option maxHeartbeats 4000000 in
theorem eepoch {w : World} {g : Nat} {E : Er} (h : EarAt w g E) :
    Calls Try.prog 18 #[.pointer (some ⟨g, 0, none⟩)] w fun e w' => e = .returned (.int .u64 (epochE E : Nat)) ∧ Below w.heap.size w w' := by
  have hg := h.lt
  have L1 := ((Grw.refl w).alloc (.cells #[.int .u64 0, .int .i64 0] 25)).below
  have A1 := h.below L1
  have HR := Lib.hid A1.range
  have HC := Lib.hid (rowR_length E.recs)
  have HK : Hid (∀ k : Nat, k = 64 → (newestK E k).n = (epochE E : Int)) := Lib.hid (fun k e => by rw [e]; exact newest_n E 64)
  have hidx : Hid (∀ k : Nat, k < 64 → ∀ W, (Instr.index 66 (.agg (rowR E.recs).toArray) (.int .i64 (k : Int))).run Try.prog W = .ok (.agg #[.int .i64 (E.recs k).tick, .bool (E.recs k).ever, .int .u64 ((E.recs k).b.ce : Int), .int .i64 (E.recs k).b.cr, .int .u64 ((E.recs k).b.pe : Int), .int .i64 (E.recs k).b.pr, .int .u64 ((E.recs k).b.ep : Int), .bool (E.recs k).told]) W) := Lib.hid (fun k hk W => index_recs E.recs k hk W)
  have HA := Lib.hid h
  have T1 : Two (w.alloc (.cells #[.int .u64 0, .int .i64 0] 25)) w.heap.size (.int .u64 (newestK E 0).n) (.int .i64 (newestK E 0).p) := by
    refine ⟨?_, ?_, ?_, ?_⟩
    all_goals simp [newestK]
  clear h A1
  generalize rowR E.recs = C at *
  go_enter Try.func18, Try.ntmps18
  go_upto_region 2 with fail
  go_wp2_with (with_reducible refine wpList_load_mid rfl 66 (.tmp 8) rfl g 4 rfl C _ HR.out Try.underlying66 rfl (by rw [HC.out]; exact recs_size) ?_)
  clear HR HC
  generalize (w.alloc (.cells #[.int .u64 0, .int .i64 0] 25)) = w1 at *
  go_loopw [10] (fun i wr => ∃ k : Nat, k ≤ 64 ∧ i = .int .i64 k ∧ Two wr w.heap.size (.int .u64 (newestK E k).n) (.int .i64 (newestK E k).p) ∧ Below w.heap.size w wr) (fun i _ => 64 - (intOf i).toNat)
  case atStart => exact ⟨0, Nat.zero_le _, rfl, T1, L1⟩
  case round =>
    obtain ⟨k, hk, rfl, T, L⟩ := hrel
    clear T1 L1
    by_cases hlt : k < 64
    · have hx := hidx.out k hlt
      have HN := Lib.hid (show newestK E (k + 1) = lastK [newestK E k, ⟨(E.recs k).b.ce, (E.recs k).b.cr⟩, ⟨(E.recs k).b.pe, (E.recs k).b.pr⟩, ⟨(E.recs k).b.ep, 0⟩] from rfl)
      generalize E.recs k = r at *
      have hx' := Lib.hid hx
      clear hx
      have R := RcB.put (RcB.zero wr) r
      have LB : Below wr.heap.size wr ((wr.alloc (.cells #[.int .i64 0, .bool false, .int .u64 0, .int .i64 0, .int .u64 0, .int .i64 0, .int .u64 0, .bool false] 65)).setRow wr.heap.size #[.int .i64 r.tick, .bool r.ever, .int .u64 (r.b.ce : Int), .int .i64 r.b.cr, .int .u64 (r.b.pe : Int), .int .i64 r.b.pr, .int .u64 (r.b.ep : Int), .bool r.told]) := ebelowRow ((Grw.refl wr).alloc _).below _ (Nat.le_refl _) _
      go_upto_region 5 with (first | (with_reducible refine step_index rfl 66 (.tmp 9) (.tmp 10) rfl (.agg C.toArray) (.int .i64 (k : Int)) (.agg #[.int .i64 r.tick, .bool r.ever, .int .u64 (r.b.ce : Int), .int .i64 r.b.cr, .int .u64 (r.b.pe : Int), .int .i64 r.b.pr, .int .u64 (r.b.ep : Int), .bool r.told]) rfl rfl (hx'.out _) ?_) | (refine store_rc rfl (.tmp 5) (.tmp 12) rfl wr.heap.size r rfl rfl (RcB.zero wr) ?_))
      (try simp only [Act.put])
      have TV := T.below LB T.lt
      have LV := Lib.hid (L.trans (LB.mono L.size))
      have hwg : w.heap.size < wr.heap.size := T.lt
      clear LB T hx'
      generalize ((wr.alloc (.cells #[.int .i64 0, .bool false, .int .u64 0, .int .i64 0, .int .u64 0, .int .i64 0, .int .u64 0, .bool false] 65)).setRow wr.heap.size #[.int .i64 r.tick, .bool r.ever, .int .u64 (r.b.ce : Int), .int .i64 r.b.cr, .int .u64 (r.b.pe : Int), .int .i64 r.b.pr, .int .u64 (r.b.ep : Int), .bool r.told]) = V at *
      generalize wr.heap.size = rb at *
      have e2 := R.own.at_ 2 _ rfl
      have e3 := R.own.at_ 3 _ rfl
      have e4 := R.own.at_ 4 _ rfl
      have e5 := R.own.at_ 5 _ rfl
      have e6 := R.own.at_ 6 _ rfl
      obtain ⟨rt, re, ⟨ce, cr, pe, pr, ep⟩, rd⟩ := r
      simp only at *
      generalize newestK E k = m at *
      obtain ⟨mn, mp⟩ := m
      have m0 := TV.c0
      have m1 := TV.c1
      simp only at m0 m1
      have HL := Lib.hid (lst_four V ⟨mn, mp⟩ ⟨ce, cr⟩ ⟨pe, pr⟩ ⟨ep, 0⟩)
      have HNW := newest_any (some ⟨V.heap.size, 0, none⟩) 4 4 _ _ HL.out (by decide)
      rw [← HN.out] at HNW
      have HNW := Lib.hid HNW
      have LW := ((Grw.refl V).alloc (.cells #[.int .u64 (mn : Int), .int .i64 mp, .int .u64 (ce : Int), .int .i64 cr, .int .u64 (pe : Int), .int .i64 pr, .int .u64 (ep : Int), .int .i64 0] 25)).below
      have TW := Lib.hid (TV.below LW TV.lt)
      have LW := Lib.hid (LV.out.trans (LW.mono LV.out.size))
      clear TV HL R HN
      go_wp2_with fail
      refine HNW.out.mono ?_
      rintro e w2 ⟨rfl, hB⟩
      have T2 := TW.out.below hB TW.out.lt
      have L2 := Lib.hid (LW.out.trans (hB.mono LW.out.size))
      have HT := Lib.hid T2
      obtain ⟨t0, t1, f0, f1⟩ := T2
      clear HNW hB LW TW LV m0 m1 e2 e3 e4 e5 e6
      generalize hm : newestK E (k + 1) = m at *
      have Hm := Lib.hid hm
      clear hm
      go_wp2
      go_roundw
      case rel => exact ⟨k + 1, by omega, by go_num, by rw [Hm.out]; exact HT.out.set _ _, (L2.out.setCell (Nat.le_refl _) _).setCell (Nat.le_refl _) _⟩
      case measure => simp [intOf]; omega
    · have t0 := T.c0
      rw [HK.out k (by omega)] at t0
      have HL := Lib.hid L
      clear L T
      go_wp2
      go_ret
      exact ⟨rfl, HL.out⟩
end Go.Proofs.Ytcjbjcojmjfmaaa
