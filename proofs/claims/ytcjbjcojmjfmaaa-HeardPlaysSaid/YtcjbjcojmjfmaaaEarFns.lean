/- New, Tick, Hear, Beat. -/
import Derived.Test.YtcjbjcojmjfmaaaEarAt
import Derived.Deep.DeepCutAuto
import Derived.Deep.RegionWith
set_option linter.unusedVariables false
set_option linter.unusedSimpArgs false
namespace Go.Proofs.Ytcjbjcojmjfmaaa
open Go.RowKit Go.Sort

theorem etick {w : World} {g : Nat} {E : Er} (h : EarAt w g E) (hc : E.clock ≤ 1000000) :
    Calls Try.prog 9 #[.pointer (some ⟨g, 0, none⟩)] w fun e w' => e = .returned (.tuple #[]) ∧ Eared w w' g (tickE E) := by
  have c := h.c3
  have f := h.free 3
  have b0 := h.ok.c0
  have H := Lib.hid (h.clock (E.clock + 1) (ok_tick h.ok hc))
  have hg := h.lt
  clear h
  go_enter Try.func9, Try.ntmps9
  go_wp2
  go_end0
  exact ⟨rfl, H.out⟩

theorem upd_upd (f : Nat → Rc) (p : Nat) (r s : Rc) : upd (upd f p r) p s = upd f p s := by
  funext q
  unfold upd
  split <;> rfl
theorem Eared.refl {w : World} {g : Nat} {E : Er} (h : EarAt w g E) : Eared w w g E := ⟨h, World.grownBy.refl _ _⟩

theorem ehear {w : World} {g : Nat} {E : Er} (h : EarAt w g E) (p : Int) (p0 : -9223372036854775808 ≤ p) (p1 : p ≤ 9223372036854775807) :
    Calls Try.prog 10 #[.pointer (some ⟨g, 0, none⟩), .int .i64 p] w fun e w' => e = .returned (.tuple #[]) ∧ Eared w w' g (hearE E p) := by
  have M := has_any E.ot p w h.ok.ot p0 p1
  have c1 := h.c1
  cases hm : mem E.ot p with
  | false =>
    have H := Lib.hid (show hearE E p = E by unfold hearE; rw [if_neg (by rw [hm]; decide)])
    have HH := Lib.hid h
    rw [hm] at M
    clear h hm
    go_enter Try.func10, Try.ntmps10
    go_wp2_with (go_at_call 22; refine M.mono ?_; rintro e w' ⟨rfl, rfl⟩)
    (try simp only [Exit.inBlock, Exit.then])
    refine bodyPost_ret (results_none rfl _ _ _) rfl ?_
    exact ⟨rfl, by rw [H.out]; exact Eared.refl HH.out⟩
  | true =>
    obtain ⟨k, rfl, hk, hb⟩ := mem_bit hm
    have H := Lib.hid (show hearE E k = { E with recs := upd E.recs k (hearR E k) } by unfold hearE; rw [if_pos hm, Int.toNat_natCast])
    have c3 := h.c3
    have k0 : w.cell? ⟨g, 4 + k * 8, none⟩ = some (.int .i64 (E.recs k).tick) := h.cl k hk 0 _ rfl
    have k1 := h.cl k hk 1 _ rfl
    have f0 := h.free (4 + k * 8)
    have f1 := h.free (4 + k * 8 + 1)
    have A := h.putN k hk 0 [.int .i64 E.clock, .bool true] (by simp) (hearR E k) rfl (ok_upd h.ok k hb _ (ok_hearR h.ok k))
    have HA := Lib.hid A
    rw [hm] at M
    clear h hm A
    go_enter Try.func10, Try.ntmps10
    go_wp2_with (go_at_call 22; refine M.mono ?_; rintro e w' ⟨rfl, rfl⟩)
    go_end0
    exact ⟨rfl, by rw [H.out]; exact HA.out⟩

theorem beat_size : (Try.prog.info? 33).map (·.size) = some 5 := by kernel_rfl
theorem bt_one (b : Bt) : (#[.int .u64 (b.ce : Int), .int .i64 b.cr, .int .u64 (b.pe : Int), .int .i64 b.pr, .int .u64 (b.ep : Int)] : Array Value).all (·.oneCell') = true := by simp [Value.oneCell']
/-- A beat stored amid a block. -/
theorem store_beat_mid {ops : Array Oper} {rest : List Oper} {o : Oper} {A : Act} {w : World} {Q : Exit → Act → World → Prop} (hgd : o.guard = none) (x y : Operand) (ho : o.op = .store 33 x y)
    (g q : Nat) (b : Bt) (hx : A.eval x = .pointer (some ⟨g, q, none⟩)) (hy : A.eval y = .agg #[.int .u64 (b.ce : Int), .int .i64 b.cr, .int .u64 (b.pe : Int), .int .i64 b.pr, .int .u64 (b.ep : Int)])
    (hg : w.there g q 5) (h : wpList Try.prog ops Q rest (A.put o.dst undef) (w.setCells g q (encB b))) : wpList Try.prog ops Q (o :: rest) A w :=
  wpList_store_mid hgd 33 x y ho g q _ hx hy hg beat_size (bt_one b) h
/-- A beat's block. -/
def BtB (w : World) (g : Nat) (b : Bt) : Prop := Own w g 33 #[.int .u64 (b.ce : Int), .int .i64 b.cr, .int .u64 (b.pe : Int), .int .i64 b.pr, .int .u64 (b.ep : Int)]
theorem BtB.own {w : World} {g : Nat} {b : Bt} (h : BtB w g b) : Own w g 33 #[.int .u64 (b.ce : Int), .int .i64 b.cr, .int .u64 (b.pe : Int), .int .i64 b.pr, .int .u64 (b.ep : Int)] := h
set_option maxHeartbeats 1000000 in
theorem ebeat {w : World} {g : Nat} {E : Er} (h : EarAt w g E) (p : Int) (p0 : -9223372036854775808 ≤ p) (p1 : p ≤ 9223372036854775807) (b : Bt) (hb : b.ok) :
    Calls Try.prog 12 #[.pointer (some ⟨g, 0, none⟩), .int .i64 p, .agg #[.int .u64 (b.ce : Int), .int .i64 b.cr, .int .u64 (b.pe : Int), .int .i64 b.pr, .int .u64 (b.ep : Int)]] w fun e w' => e = .returned (.tuple #[]) ∧ Eared w w' g (beatE E p b) := by
  have hg := h.lt
  have L := ((Grw.refl w).alloc (.cells #[.int .u64 (b.ce : Int), .int .i64 b.cr, .int .u64 (b.pe : Int), .int .i64 b.pr, .int .u64 (b.ep : Int)] 33)).below
  have B := Own.new w 33 #[.int .u64 (b.ce : Int), .int .i64 b.cr, .int .u64 (b.pe : Int), .int .i64 b.pr, .int .u64 (b.ep : Int)]
  have h1 := h.below L
  have HE := Lib.hid (show E.ok from h.ok)
  clear h
  have M := has_any E.ot p (w.alloc (.cells #[.int .u64 (b.ce : Int), .int .i64 b.cr, .int .u64 (b.pe : Int), .int .i64 b.pr, .int .u64 (b.ep : Int)] 33)) HE.out.ot p0 p1
  have c1 := h1.c1
  have Q := ehear h1 p p0 p1
  cases hm : mem E.ot p with
  | false =>
    have H := Lib.hid (show beatE E p b = E by unfold beatE; rw [if_neg (by rw [hm]; decide)])
    have HH := Lib.hid (show Eared w _ g E from ⟨h1, egrown_below L _⟩)
    rw [hm] at M
    clear h1 hm B L Q
    go_enter Try.func12, Try.ntmps12
    go_wp2_with (go_at_call 22; refine M.mono ?_; rintro e w' ⟨rfl, rfl⟩)
    (try simp only [Exit.inBlock, Exit.then])
    refine bodyPost_ret (results_none rfl _ _ _) rfl ?_
    exact ⟨rfl, by rw [H.out]; exact HH.out⟩
  | true =>
    obtain ⟨k, rfl, hk, hbt⟩ := mem_bit hm
    have H := Lib.hid (show beatE E k b = { E with recs := upd E.recs k ⟨E.clock, true, b, true⟩ } by unfold beatE; rw [if_pos hm, Int.toNat_natCast])
    have H1 : hearE E k = { E with recs := upd E.recs k (hearR E k) } := by unfold hearE; rw [if_pos hm, Int.toNat_natCast]
    rw [H1] at Q
    rw [hm] at M
    have HB := Lib.hid B
    have HL := Lib.hid L
    have hbt := Lib.hid hbt
    have hbo := Lib.hid hb
    clear h1 hm B L H1 hb
    go_enter Try.func12, Try.ntmps12
    go_upto_region 3 with (first | (go_at_call 22; refine M.mono ?_; rintro e w' ⟨rfl, rfl⟩) | (go_at_call 10; refine Q.mono ?_; rintro e w2 ⟨rfl, A⟩))
    have BO : Own w2 w.heap.size 33 #[.int .u64 (b.ce : Int), .int .i64 b.cr, .int .u64 (b.pe : Int), .int .i64 b.pr, .int .u64 (b.ep : Int)] := HB.out.grown A.gr (by intro e; cases e; omega)
    have b0 := BO.at_ 0 _ rfl
    have b1 := BO.at_ 1 _ rfl
    have b2 := BO.at_ 2 _ rfl
    have b3 := BO.at_ 3 _ rfl
    have b4 := BO.at_ 4 _ rfl
    have T5 := Lib.hid (A.at_.there k hk 2 5 (by decide))
    have O5 := eput A.at_.own k hk 2 (encB b) (by simp [encB]) { hearR E k with b := b } (by simp only [upd_same]; rfl)
    have e5 := ear_cl O5 k hk 7 _ rfl
    have f5 := O5.free (4 + k * 8 + 7)
    have R := A.at_.putN k hk 2 (encB b ++ [.bool true]) (by simp [encB]) ⟨E.clock, true, b, true⟩ (by simp only [upd_same]; rfl) (by
      rw [upd_upd]
      exact ok_upd HE.out k hbt.out _ ⟨HE.out.c0, Int.le_refl _, hbo.out, fun e => by cases e⟩)
    simp only [upd_upd] at R
    have HR := Lib.hid (show Eared w _ g _ from ⟨R.at_, egrown_tr (egrown_tr (egrown_below HL.out _) A.gr) R.gr⟩)
    clear BO A O5 R M Q HB HL
    simp only at e5
    go_upto_region 4 with fail
    go_wp2_with (with_reducible refine store_beat_mid rfl (.tmp 26) (.tmp 24) rfl g (4 + k * 8 + 2) b rfl rfl T5.out ?_)
    go_end0
    exact ⟨rfl, by rw [H.out]; exact HR.out⟩
theorem ofl_one (z : Int) : ofl [z] = onl z := set_ext _ _ (num_lt _) (onl_lt _) fun i hi => by
  unfold ofl
  rw [num_bit, onl_bit _ _ hi]
  simp [hi]
theorem build_ear (me t : Int) (s : Nat) (w : World) : (Instr.build 68 #[(0, .int .i64 me), (1, .int .u64 (s : Int)), (2, .int .i64 t)]).run Try.prog w = .ok (.agg (Er.cells ⟨me, s, t, 0, fun _ => rc0⟩).toArray) w := by kernel_rfl
theorem step_build3 {ops : Array Oper} {rest : List Oper} {o : Oper} {a : Act} {w : World} {Q : Exit → Act → World → Prop} (hgd : o.guard = none) (ty : TypeId) (x y z : Operand) (ho : o.op = .build ty #[(0, x), (1, y), (2, z)])
    (vx vy vz v : Value) (hx : a.eval x = vx) (hy : a.eval y = vy) (hz : a.eval z = vz) (hb : (Instr.build ty #[(0, vx), (1, vy), (2, vz)]).run Try.prog w = .ok v w)
    (h : wpList Try.prog ops Q rest (a.put o.dst v) w) : wpList Try.prog ops Q (o :: rest) a w :=
  wpList_plain hgd fun _ hK => by
    unfold Oper.wp execOp
    simp only [ho, List.map_toArray, List.map_cons, List.map_nil, hx, hy, hz, Sem.run_bind, Sem.run_pure, Result.andThen_ok, hb]
    exact hK _ _ h
set_option maxHeartbeats 2000000 in
theorem enew (me n t : Int) (w : World) (m0 : -9223372036854775808 ≤ me) (m1 : me ≤ 9223372036854775807) (n0 : -9223372036854775808 ≤ n) (n1 : n ≤ 9223372036854775807) (t0 : -9223372036854775808 ≤ t) (t1 : t ≤ 9223372036854775807) :
    Calls Try.prog 8 #[.int .i64 me, .int .i64 n, .int .i64 t] w fun e w' => e = .returned (.pointer (some ⟨w.heap.size + 1, 0, none⟩)) ∧ EarAt w' (w.heap.size + 1) (earN me n t) ∧ Below w.heap.size w w' := by
  have HA := all_any n w n0 n1
  have HI : InI (w.alloc (.cells #[.int .i64 me] 3)) (some ⟨w.heap.size, 0, none⟩) 1 [me] := ⟨rfl, fun j v hj => ⟨_, rfl, by
    cases j with
    | zero => simp at hj; subst hj; simp [Addr.add]
    | succ j => simp at hj⟩, fun v hv => by simp at hv; omega⟩
  have HL := less_any (below n) (some ⟨w.heap.size, 0, none⟩) 1 1 [me] _ (below_lt n) HI (by decide)
  rw [ofl_one] at HL
  have HO := Lib.hid (show EarAt ((w.alloc (.cells #[.int .i64 me] 3)).alloc (.cells (Er.cells ⟨me, but (below n) (onl me), t, 0, fun _ => rc0⟩).toArray 68)) (w.heap.size + 1) (earN me n t) from ⟨by
    have := Own.new (w.alloc (.cells #[.int .i64 me] 3)) 68 (Er.cells ⟨me, but (below n) (onl me), t, 0, fun _ => rc0⟩).toArray
    rw [show (w.alloc (.cells #[.int .i64 me] 3)).heap.size = w.heap.size + 1 by simp] at this
    exact this, ok_new me n t m0 m1 t0 t1⟩)
  have hb := Lib.hid (build_ear me t (but (below n) (onl me)))
  have HB := Lib.hid (((Grw.refl w).alloc (.cells #[.int .i64 me] 3)).alloc (.cells (Er.cells ⟨me, but (below n) (onl me), t, 0, fun _ => rc0⟩).toArray 68)).below
  generalize below n = bn at *
  generalize but bn (onl me) = s at *
  generalize Er.cells ⟨me, s, t, 0, fun _ => rc0⟩ = C at *
  clear HI
  go_enter Try.func8, Try.ntmps8
  go_wp2_with fail
  refine HA.mono ?_
  rintro e w' ⟨rfl, rfl⟩
  go_wp2_with fail
  refine HL.mono ?_
  rintro e w' ⟨rfl, rfl⟩
  rename_i hK0 hK
  refine hK _ _ ?_
  clear hK
  refine wpList_plain rfl (fun K hK => ?_)
  go_simp
  refine hK _ _ ?_
  clear hK K
  refine step_build3 rfl 68 (.tmp 7) (.tmp 12) (.tmp 13) rfl (.int .i64 me) (.int .u64 (s : Int)) (.int .i64 t) (.agg C.toArray) rfl rfl rfl (hb.out _) ?_
  clear hb HA HL
  go_wp2
  go_ret
  exact ⟨rfl, HO.out, HB.out⟩
end Go.Proofs.Ytcjbjcojmjfmaaa
