/- New, Sent, Of, Got, Low. -/
import Derived.Test.YtlmajpckgjnbdaaLinkAt
import Derived.Deep.DeepCutAuto
import Derived.Deep.RegionWith
import Derived.BigQuiet
import Derived.StillTailTactics
import Derived.Lib.MinMax
set_option linter.unusedVariables false
set_option linter.unusedSimpArgs false
namespace Go.Proofs.Ytlmajpckgjnbdaa
open Go.RowKit Go.Sort

theorem ofl_one (z : Int) : ofl [z] = onl z := set_ext _ _ (num_lt _) (onl_lt _) fun i hi => by
  unfold ofl
  rw [num_bit, onl_bit _ _ hi]
  simp [hi]
theorem InI.one (w : World) (z : Int) (h0 : -9223372036854775808 ≤ z) (h1 : z ≤ 9223372036854775807) : InI (w.alloc (.cells #[.int .i64 z] 3)) (some ⟨w.heap.size, 0, none⟩) 1 [z] := ⟨rfl, fun j v hj => ⟨_, rfl, by
    cases j with
    | zero => simp at hj; subst hj; simp [Addr.add]
    | succ j => simp at hj⟩, fun v hv => by simp at hv; omega⟩
theorem build_link (me z : Int) (s : Nat) (w : World) (n : Nat) (hz : z = (n : Int)) : (Instr.build 59 #[(0, .int .i64 me), (1, .int .u64 (s : Int)), (2, .int .i64 z)]).run Try.prog w = .ok (.agg (Wn.cells ⟨me, s, n, 0, fun _ => 0⟩).toArray) w := by subst hz; kernel_rfl
theorem step_build3 {ops : Array Oper} {rest : List Oper} {o : Oper} {a : Act} {w : World} {Q : Exit → Act → World → Prop} (hgd : o.guard = none) (ty : TypeId) (x y z : Operand) (ho : o.op = .build ty #[(0, x), (1, y), (2, z)])
    (vx vy vz v : Value) (hx : a.eval x = vx) (hy : a.eval y = vy) (hz : a.eval z = vz) (hb : (Instr.build ty #[(0, vx), (1, vy), (2, vz)]).run Try.prog w = .ok v w)
    (h : wpList Try.prog ops Q rest (a.put o.dst v) w) : wpList Try.prog ops Q (o :: rest) a w :=
  wpList_plain hgd fun _ hK => by
    unfold Oper.wp execOp
    simp only [ho, List.map_toArray, List.map_cons, List.map_nil, hx, hy, hz, Sem.run_bind, Sem.run_pure, Result.andThen_ok, hb]
    exact hK _ _ h
set_option maxHeartbeats 2000000 in
theorem lnew (me size : Int) (s : Nat) (w : World) (hs : s < 18446744073709551616) (m0 : -9223372036854775808 ≤ me) (m1 : me ≤ 9223372036854775807) (n0 : -9223372036854775808 ≤ size) (n1 : size ≤ 9223372036854775807) :
    Calls Try.prog 8 #[.int .i64 me, .int .u64 (s : Int), .int .i64 size] w fun e w' => e = .returned (.pointer (some ⟨w.heap.size + 1, 0, none⟩)) ∧ LkAt w' (w.heap.size + 1) (newN me s size) ∧ Below w.heap.size w w' := by
  have HI := InI.one w me m0 m1
  have HL := less_any s (some ⟨w.heap.size, 0, none⟩) 1 1 [me] _ hs HI (by decide)
  rw [ofl_one] at HL
  have HO := Lib.hid (show LkAt ((w.alloc (.cells #[.int .i64 me] 3)).alloc (.cells (newN me s size).cells.toArray 59)) (w.heap.size + 1) (newN me s size) from ⟨by
    have := Own.new (w.alloc (.cells #[.int .i64 me] 3)) 59 (newN me s size).cells.toArray
    rw [show (w.alloc (.cells #[.int .i64 me] 3)).heap.size = w.heap.size + 1 by simp] at this
    exact this, new_ok me s size m0 m1⟩)
  have hz : min (max size 1) 64 = ((sizeN size : Nat) : Int) := by rw [sizeN_max]; omega
  have hb := Lib.hid (fun w => build_link me (min (max size 1) 64) (but s (onl me)) w (sizeN size) hz)
  have HB := Lib.hid (((Grw.refl w).alloc (.cells #[.int .i64 me] 3)).alloc (.cells (newN me s size).cells.toArray 59)).below
  unfold newN othersN at *
  generalize but s (onl me) = t at *
  generalize hC : Wn.cells ⟨me, t, sizeN size, 0, fun _ => 0⟩ = C at *
  have hC := Lib.hid hC
  clear HI hz
  go_enter Try.func8, Try.ntmps8
  go_wp2_with fail
  refine HL.mono ?_
  rintro e w' ⟨rfl, rfl⟩
  go_wp2_with (with_reducible refine step_build3 rfl 59 (.tmp 7) (.tmp 11) (.tmp 14) rfl (.int .i64 me) (.int .u64 (t : Int)) (.int .i64 (min (max size 1) 64)) (.agg C.toArray) rfl rfl rfl (hb.out _) ?_)
  go_ret
  exact ⟨rfl, HO.out, HB.out⟩

theorem lsent {w : World} {g : Nat} {W : Wn} (h : LkAt w g W) :
    Calls Try.prog 16 #[.pointer (some ⟨g, 0, none⟩)] w fun e w' => e = .returned (.int .u32 (W.sent : Int)) ∧ w = w' := by
  have c3 := h.c3
  clear h
  go_enter Try.func16, Try.ntmps16
  go_wp2
  go_ret
  exact ⟨rfl, rfl⟩

theorem lof {w : World} {g : Nat} {W : Wn} (h : LkAt w g W) (p : Int) (p0 : -9223372036854775808 ≤ p) (p1 : p ≤ 9223372036854775807) :
    Calls Try.prog 21 #[.pointer (some ⟨g, 0, none⟩), .int .i64 p] w fun e w' => e = .returned (.int .u32 (ofN W p : Nat)) ∧ w = w' := by
  have c0 := h.c0
  have c1 := h.c1
  have c3 := h.c3
  by_cases hp : p = W.me
  · rw [ofN_me (by rw [hp]; exact h.ok.inv.me_out) hp]
    have hp' : (p == W.me) = true := by simpa using hp
    clear h hp c1
    go_enter Try.func21, Try.ntmps21
    go_wp2
    go_ret
    exact ⟨rfl, rfl⟩
  · have hp' : (p == W.me) = false := by simpa using hp
    have M := has_any W.oth p w h.ok.inv.olt p0 p1
    clear c3
    cases hm : mem W.oth p with
    | false =>
      rw [ofN_no hm hp]
      rw [hm] at M
      clear h hm hp
      go_enter Try.func21, Try.ntmps21
      go_wp2_with (go_at_call 28; refine M.mono ?_; rintro e w' ⟨rfl, rfl⟩)
      go_ret
      exact ⟨rfl, rfl⟩
    | true =>
      rw [ofN_oth hm]
      rw [hm] at M
      obtain ⟨k, rfl, hk, -⟩ := mem_nat11 hm
      rw [Int.toNat_natCast]
      have cg := h.cg k hk
      have hk' : (k : Int) < 64 := by omega
      clear h hm hp
      go_enter Try.func21, Try.ntmps21
      go_wp2_with (go_at_call 28; refine M.mono ?_; rintro e w' ⟨rfl, rfl⟩)
      go_ret
      exact ⟨rfl, rfl⟩

theorem g64_size : (Try.prog.info? 30).map (·.size) = some 64 := by kernel_rfl
/-- An element of 64 numbers that are held by value. -/
theorem index_got (f : Nat → Nat) (k : Nat) (h : k < 64) (W : World) : (Instr.index 30 (.agg (rowG f).toArray) (.int .i64 (k : Int))).run Try.prog W = .ok (.int .u32 (f k : Int)) W := by
  have hk : (0 : Int) ≤ k ∧ (k : Int) < 64 := by omega
  have hs : (sizeOf 29).run Try.prog W = .ok 1 W := by kernel_rfl
  have hr := rowG_at f k h
  generalize rowG f = R at *
  simp [Instr.index, run_underlying Try.underlying30, asIntOf, hk, go_sem]
  rw [if_pos h, hr]
  rfl
theorem step_index {ops : Array Oper} {rest : List Oper} {o : Oper} {a : Act} {w : World} {Q : Exit → Act → World → Prop} (hgd : o.guard = none) (ty : TypeId) (x y : Operand) (ho : o.op = .index ty x y)
    (vx vy v : Value) (hx : a.eval x = vx) (hy : a.eval y = vy) (hb : (Instr.index ty vx vy).run Try.prog w = .ok v w)
    (h : wpList Try.prog ops Q rest (a.put o.dst v) w) : wpList Try.prog ops Q (o :: rest) a w :=
  wpList_plain hgd fun _ hK => by
    unfold Oper.wp execOp
    simp only [ho, hx, hy, Sem.run_bind, Sem.run_pure, Result.andThen_ok, hb]
    exact hK _ _ h
theorem mem_lt {a : Nat} {k : Nat} (hk : k < 64) : mem a (k : Int) = a.testBit k := by
  unfold mem
  have h1 : (0 : Int) ≤ k := by omega
  have h2 : (k : Int) < 64 := by omega
  simp [h1, h2, hk]
theorem lowK_min (W : Wn) (k : Nat) (h : W.oth.testBit k = true) : ((lowK W (k + 1) : Nat) : Int) = min (lowK W k : Int) (W.got k : Int) := by
  by_cases h2 : W.got k < lowK W k
  · rw [lowK_yes W k h h2]; omega
  · rw [lowK_not W k (by omega)]; omega
set_option maxHeartbeats 4000000 in
theorem llow {w : World} {g : Nat} {W : Wn} (h : LkAt w g W) :
    Calls Try.prog 17 #[.pointer (some ⟨g, 0, none⟩)] w fun e w' => e = .returned (.int .u32 (lowN W : Nat)) ∧ w = w' := by
  have c1 := h.c1
  have c3 := h.c3
  have HR := Lib.hid h.range
  have HC := Lib.hid (rowG_length W.got)
  have HK := Lib.hid (fun k (h1 : 64 ≤ k) (h2 : k ≤ 64) => lowN_at W k h1 h2)
  have HY := Lib.hid (lowK_min W)
  have HN := Lib.hid (lowK_out W)
  have olt := h.ok.inv.olt
  have hidx : Hid (∀ k : Nat, k < 64 → ∀ V, (Instr.index 30 (.agg (rowG W.got).toArray) (.int .i64 (k : Int))).run Try.prog V = .ok (.int .u32 (W.got k : Int)) V) := Lib.hid (fun k hk V => index_got W.got k hk V)
  have h0 := lowK_zero W
  generalize rowG W.got = C at *
  clear h
  go_enter Try.func17, Try.ntmps17
  go_wp2_with (with_reducible refine wpList_load_mid rfl 30 (.tmp 12) rfl g 4 rfl C _ HR.out Try.underlying30 rfl (by rw [HC.out]; exact g64_size) ?_)
  rw [← h0]
  clear HR HC h0 c3
  go_loop [3, 14] (fun s i => ∃ k : Nat, k ≤ 64 ∧ i = .int .i64 k ∧ s = .int .u32 (lowK W k : Nat)) (fun _ i => 64 - (intOf i).toNat)
  case atStart => exact ⟨0, Nat.zero_le _, rfl, rfl⟩
  case round =>
    obtain ⟨k, hk, rfl, rfl⟩ := hrel
    by_cases hlt : k < 64
    · have hx := hidx.out k hlt
      have hy := Lib.hid (HY.out k)
      have hn := Lib.hid (HN.out k)
      have M := has_any W.oth (k : Int) w olt (by omega) (by omega)
      rw [mem_lt hlt] at M
      have hx := Lib.hid hx
      generalize W.got k = r at *
      cases hb : W.oth.testBit k with
      | false =>
        rw [hb] at M
        have e := Lib.hid (hn.out hb)
        clear hb HY HN hy hn
        go_wp2_with (first | (with_reducible refine step_index rfl 30 (.tmp 13) (.tmp 14) rfl (.agg C.toArray) (.int .i64 (k : Int)) (.int .u32 (r : Int)) rfl rfl (hx.out _) ?_) | (go_at_call 28; refine M.mono ?_; rintro e w' ⟨rfl, rfl⟩))
        go_round
        case rel => exact ⟨k + 1, by omega, by go_num, by rw [e.out]⟩
        case measure => simp [intOf]; omega
      | true =>
        rw [hb] at M
        have e := Lib.hid (hy.out hb)
        clear hb HY HN hy hn
        go_wp2_with (first | (with_reducible refine step_index rfl 30 (.tmp 13) (.tmp 14) rfl (.agg C.toArray) (.int .i64 (k : Int)) (.int .u32 (r : Int)) rfl rfl (hx.out _) ?_) | (go_at_call 28; refine M.mono ?_; rintro e w' ⟨rfl, rfl⟩))
        go_round
        case rel => exact ⟨k + 1, by omega, by go_num, by rw [e.out]⟩
        case measure => simp [intOf]; omega
    · have HZ := Lib.hid (HK.out k (by omega) hk)
      clear c1 olt
      go_wp2
      go_ret
      exact ⟨by rw [HZ.out]; rfl, rfl⟩
end Go.Proofs.Ytlmajpckgjnbdaa
