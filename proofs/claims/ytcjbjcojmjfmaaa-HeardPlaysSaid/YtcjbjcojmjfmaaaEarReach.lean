/- Reach. -/
import Derived.Test.YtcjbjcojmjfmaaaEarOf
import Derived.IntWalk
set_option linter.unusedVariables false
set_option linter.unusedSimpArgs false
namespace Go.Proofs.Ytcjbjcojmjfmaaa
open Go.RowKit Go.Sort

/-- A record's block. -/
def RcB (w : World) (g : Nat) (r : Rc) : Prop := Own w g 65 #[.int .i64 r.tick, .bool r.ever, .int .u64 (r.b.ce : Int), .int .i64 r.b.cr, .int .u64 (r.b.pe : Int), .int .i64 r.b.pr, .int .u64 (r.b.ep : Int), .bool r.told]
theorem RcB.own {w : World} {g : Nat} {r : Rc} (h : RcB w g r) : Own w g 65 #[.int .i64 r.tick, .bool r.ever, .int .u64 (r.b.ce : Int), .int .i64 r.b.cr, .int .u64 (r.b.pe : Int), .int .i64 r.b.pr, .int .u64 (r.b.ep : Int), .bool r.told] := h
theorem RcB.zero (w : World) : RcB (w.alloc (.cells #[.int .i64 0, .bool false, .int .u64 0, .int .i64 0, .int .u64 0, .int .i64 0, .int .u64 0, .bool false] 65)) w.heap.size rc0 := Own.new w _ _
theorem RcB.put {w : World} {g : Nat} {r : Rc} (h : RcB w g r) (s : Rc) : RcB (w.setRow g #[.int .i64 s.tick, .bool s.ever, .int .u64 (s.b.ce : Int), .int .i64 s.b.cr, .int .u64 (s.b.pe : Int), .int .i64 s.b.pr, .int .u64 (s.b.ep : Int), .bool s.told]) g s := setRow_heap _ _ _ _ _ _ h
theorem store_rc {ops : Array Oper} {rest : List Oper} {o : Oper} {A : Act} {w : World} {Q : Exit → Act → World → Prop} (hgd : o.guard = none) (x y : Operand) (ho : o.op = .store 65 x y)
    (g : Nat) (r : Rc) (hx : A.eval x = .pointer (some ⟨g, 0, none⟩)) (hy : A.eval y = .agg #[.int .i64 r.tick, .bool r.ever, .int .u64 (r.b.ce : Int), .int .i64 r.b.cr, .int .u64 (r.b.pe : Int), .int .i64 r.b.pr, .int .u64 (r.b.ep : Int), .bool r.told])
    {r0 : Rc} (hg : RcB w g r0) (h : wpList Try.prog ops Q rest (A.put o.dst undef) (w.setRow g #[.int .i64 r.tick, .bool r.ever, .int .u64 (r.b.ce : Int), .int .i64 r.b.cr, .int .u64 (r.b.pe : Int), .int .i64 r.b.pr, .int .u64 (r.b.ep : Int), .bool r.told])) : wpList Try.prog ops Q (o :: rest) A w :=
  wpList_store_row hgd 65 x y ho g _ hx hy 65 _ hg record_size rfl (rec_one r) h
theorem rec_size : (Try.prog.info? 65).map (fun i => i.size) = some 8 := by kernel_rfl
theorem recs_size : (Try.prog.info? 66).map (·.size) = some 512 := by kernel_rfl
/-- An array's element, read. -/
theorem index_recs (f : Nat → Rc) (k : Nat) (hk : k < 64) (w : World) : (Instr.index 66 (.agg (rowR f).toArray) (.int .i64 (k : Int))).run Try.prog w = .ok (.agg #[.int .i64 (f k).tick, .bool (f k).ever, .int .u64 ((f k).b.ce : Int), .int .i64 (f k).b.cr, .int .u64 ((f k).b.pe : Int), .int .i64 (f k).b.pr, .int .u64 ((f k).b.ep : Int), .bool (f k).told]) w := by
  have hx : (rowR f).toArray.extract (k * 8) (k * 8 + 8) = #[.int .i64 (f k).tick, .bool (f k).ever, .int .u64 ((f k).b.ce : Int), .int .i64 (f k).b.cr, .int .u64 ((f k).b.pe : Int), .int .i64 (f k).b.pr, .int .u64 ((f k).b.ep : Int), .bool (f k).told] := by
    obtain ⟨A, B, hA, hf, _⟩ := rowR_split f k hk
    apply Array.ext'
    rw [hf, List.extract_toArray, List.extract_eq_take_drop]
    show List.take _ (List.drop _ _) = encR (f k)
    rw [List.append_assoc, List.drop_left' hA, show k * 8 + 8 - k * 8 = 8 by omega, List.take_left' (encR_length _)]
  have hk' : 0 ≤ (k : Int) ∧ (k : Int) < ((64 : Nat) : Int) := by omega
  have ha : (isAgg 65).run Try.prog w = .ok true w := Try.isAgg65 w
  have hs : (sizeOf 65).run Try.prog w = .ok 8 w := Try.sizeOf65 w
  simp only [Instr.index, asIntOf, Sem.run_bind, Sem.run_pure, Result.andThen_ok, run_underlying Try.underlying66]
  rw [if_pos hk']
  simp only [Sem.run_bind, Sem.run_pure, Result.andThen_ok, hs, part, ha, if_true, Int.toNat_natCast, hx]
theorem step_index {ops : Array Oper} {rest : List Oper} {o : Oper} {a : Act} {w : World} {Q : Exit → Act → World → Prop} (hgd : o.guard = none) (ty : TypeId) (x y : Operand) (ho : o.op = .index ty x y)
    (vx vy v : Value) (hx : a.eval x = vx) (hy : a.eval y = vy) (hb : (Instr.index ty vx vy).run Try.prog w = .ok v w)
    (h : wpList Try.prog ops Q rest (a.put o.dst v) w) : wpList Try.prog ops Q (o :: rest) a w :=
  wpList_plain hgd fun _ hK => by
    unfold Oper.wp execOp
    simp only [ho, hx, hy, Sem.run_bind, Sem.run_pure, Result.andThen_ok, hb]
    exact hK _ _ h
theorem InI.one (w : World) (z : Int) (h0 : -9223372036854775808 ≤ z) (h1 : z ≤ 9223372036854775807) : InI (w.alloc (.cells #[.int .i64 z] 3)) (some ⟨w.heap.size, 0, none⟩) 1 [z] := ⟨rfl, fun j v hj => ⟨_, rfl, by
    cases j with
    | zero => simp at hj; subst hj; simp [Addr.add]
    | succ j => simp at hj⟩, fun v hv => by simp at hv; omega⟩

set_option maxHeartbeats 4000000 in
theorem ereach {w : World} {g : Nat} {E : Er} (h : EarAt w g E) :
    Calls Try.prog 16 #[.pointer (some ⟨g, 0, none⟩)] w fun e w' => e = .returned (.int .u64 (reachE E : Nat)) ∧ Below w.heap.size w w' := by
  have hg := h.lt
  have c0 := h.c0
  have h0 := h
  have HI := InI.one w E.me h.ok.m0 h.ok.m1
  have HO := of_any (some ⟨w.heap.size, 0, none⟩) 1 1 [E.me] _ HI (by decide)
  rw [ofl_one, ← reachK_zero E] at HO
  have L1 := ((Grw.refl w).alloc (.cells #[.int .i64 E.me] 3)).below
  have A1 := h.below L1
  have HR := Lib.hid A1.range
  have HC := Lib.hid (rowR_length E.recs)
  have HK := Lib.hid (reachK_all E)
  have hok := Lib.hid h.ok
  have hidx : Hid (∀ k : Nat, k < 64 → ∀ W, (Instr.index 66 (.agg (rowR E.recs).toArray) (.int .i64 (k : Int))).run Try.prog W = .ok (.agg #[.int .i64 (E.recs k).tick, .bool (E.recs k).ever, .int .u64 ((E.recs k).b.ce : Int), .int .i64 (E.recs k).b.cr, .int .u64 ((E.recs k).b.pe : Int), .int .i64 (E.recs k).b.pr, .int .u64 ((E.recs k).b.ep : Int), .bool (E.recs k).told]) W) := Lib.hid (fun k hk W => index_recs E.recs k hk W)
  clear h HI
  generalize rowR E.recs = C at *
  go_enter Try.func16, Try.ntmps16
  go_upto_region 2 with (go_at_call 23; refine HO.mono ?_; rintro e w' ⟨rfl, rfl⟩)
  go_wp2_with (with_reducible refine wpList_load_mid rfl 66 (.tmp 14) rfl g 4 rfl C _ HR.out Try.underlying66 rfl (by rw [HC.out]; exact recs_size) ?_)
  clear HR HC HO c0
  have HA := Lib.hid h0
  clear h0
  have L1 := Lib.hid L1
  have hL1 := L1.out.size
  generalize (w.alloc (.cells #[.int .i64 E.me] 3)) = w1 at *
  go_loopw [3, 16] (fun s i wr => ∃ k : Nat, k ≤ 64 ∧ i = .int .i64 k ∧ s = .int .u64 (reachK E k : Nat) ∧ Below w.heap.size w wr) (fun _ i _ => 64 - (intOf i).toNat)
  case atStart => exact ⟨0, Nat.zero_le _, rfl, rfl, L1.out⟩
  case round =>
    obtain ⟨k, hk, rfl, rfl, L⟩ := hrel
    have A := HA.out.below (L.mono (Nat.le_refl _))
    by_cases hlt : k < 64
    · have hx := hidx.out k hlt
      have hrc := hok.out.rc k
      have HY := Lib.hid (reachK_yes E k hlt)
      have HN := Lib.hid (reachK_no E k)
      have HBK := Lib.hid (show reachB E k = ((E.recs k).ever && decide (E.clock - (E.recs k).tick ≤ E.timeout)) from rfl)
      have t0 := hrc.t0
      have t1 := hrc.t1
      have q0 := hok.out.c0
      have q1 := hok.out.c1
      generalize E.recs k = r at *
      have hx := Lib.hid hx
      have R := RcB.put (RcB.zero wr) r
      have LB : Below wr.heap.size wr ((wr.alloc (.cells #[.int .i64 0, .bool false, .int .u64 0, .int .i64 0, .int .u64 0, .int .i64 0, .int .u64 0, .bool false] 65)).setRow wr.heap.size #[.int .i64 r.tick, .bool r.ever, .int .u64 (r.b.ce : Int), .int .i64 r.b.cr, .int .u64 (r.b.pe : Int), .int .i64 r.b.pr, .int .u64 (r.b.ep : Int), .bool r.told]) := ebelowRow ((Grw.refl wr).alloc _).below _ (Nat.le_refl _) _
      clear hrc
      go_upto_region 5 with (first | (with_reducible refine step_index rfl 66 (.tmp 15) (.tmp 16) rfl (.agg C.toArray) (.int .i64 (k : Int)) (.agg #[.int .i64 r.tick, .bool r.ever, .int .u64 (r.b.ce : Int), .int .i64 r.b.cr, .int .u64 (r.b.pe : Int), .int .i64 r.b.pr, .int .u64 (r.b.ep : Int), .bool r.told]) rfl rfl (hx.out _) ?_) | (refine store_rc rfl (.tmp 5) (.tmp 19) rfl wr.heap.size r rfl rfl (RcB.zero wr) ?_))
      (try simp only [Act.put])
      have AV := A.below LB
      have LV := Lib.hid (L.trans (LB.mono L.size))
      have e0 := R.own.at_ 0 _ rfl
      have e1 := R.own.at_ 1 _ rfl
      have c2 := AV.c2
      have c3 := AV.c3
      have hwg := L.size
      clear R LB A
      generalize ((wr.alloc (.cells #[.int .i64 0, .bool false, .int .u64 0, .int .i64 0, .int .u64 0, .int .i64 0, .int .u64 0, .bool false] 65)).setRow wr.heap.size #[.int .i64 r.tick, .bool r.ever, .int .u64 (r.b.ce : Int), .int .i64 r.b.cr, .int .u64 (r.b.pe : Int), .int .i64 r.b.pr, .int .u64 (r.b.ep : Int), .bool r.told]) = V at *
      generalize wr.heap.size = rb at *
      obtain ⟨rt, re, rb', rd⟩ := r
      simp only at *
      have hW : IntKind.i64.wrap (E.clock - rt) = E.clock - rt := IntWalk.i64_in _ (by omega)
      cases re
      · have HZ := Lib.hid (HN.out HBK.out)
        clear HN HY HBK AV
        go_quiet (fail)
        go_wp2
        go_roundw
        case rel => exact ⟨k + 1, by omega, by go_num, by rw [← HZ.out], LV.out.trans (((Grw.refl V).drewN _).below.mono LV.out.size)⟩
        case measure => simp [intOf]; omega
      · cases hd : decide (E.clock - rt ≤ E.timeout)
        · have HZ := Lib.hid (HN.out (by rw [HBK.out, hd]; rfl))
          clear HN HY HBK AV
          go_quiet (fail)
          go_wp2
          go_roundw
          case rel => exact ⟨k + 1, by omega, by go_num, by rw [← HZ.out], LV.out.trans (((Grw.refl V).drewN _).below.mono LV.out.size)⟩
          case measure => simp [intOf]; omega
        · have HZ := Lib.hid (HY.out (by rw [HBK.out, hd]; rfl))
          have hlt2 := reachK_lt E k
          clear HN HY HBK AV
          go_quiet (fail)
          have LV2 := Lib.hid (LV.out.trans (((Grw.refl V).drewN nq).below.mono LV.out.size))
          clear c2 c3 e0 e1
          generalize V.drewN nq = V2 at *
          have HWi := with_any (reachK E k) (some ⟨V2.heap.size, 0, none⟩) 1 1 [(k : Int)] _ hlt2 (InI.one V2 (k : Int) (by omega) (by omega)) (by decide)
          rw [HZ.out] at HWi
          clear hW hd
          go_wp2_with (go_at_call 30; refine HWi.mono ?_; rintro e w' ⟨rfl, rfl⟩)
          go_roundw
          case rel => exact ⟨k + 1, by omega, by go_num, rfl, LV2.out.trans (((Grw.refl V2).alloc _).below.mono LV2.out.size)⟩
          case measure => simp [intOf]; omega
    · obtain rfl : k = 64 := by omega
      have HL := Lib.hid L
      clear L A
      go_wp2
      go_ret
      exact ⟨by rw [HK.out]; rfl, HL.out⟩
end Go.Proofs.Ytcjbjcojmjfmaaa
