/- New, Clock, See, Stamp, Reached, All, Safe. -/
import Derived.Test.YtfocjcdfpnbkjaaHzAt
import Derived.Lib.MinMax
set_option linter.unusedVariables false
set_option linter.unusedSimpArgs false
namespace Go.Proofs.Ytfocjcdfpnbkjaa
open Go.RowKit Go.Sort Go.Shelf

theorem ofl_oneZ (z : Int) : ofl [z] = onl z := set_ext _ _ (num_lt _) (onl_lt _) fun i hi => by
  unfold ofl
  rw [num_bit, onl_bit _ _ hi]
  simp [hi]
theorem InI.oneZ (w : World) (z : Int) (h0 : -9223372036854775808 ≤ z) (h1 : z ≤ 9223372036854775807) : InI (w.alloc (.cells #[.int .i64 z] 3)) (some ⟨w.heap.size, 0, none⟩) 1 [z] := ⟨rfl, fun j v hj => ⟨_, rfl, by
    cases j with
    | zero => simp at hj; subst hj; simp [Addr.add]
    | succ j => simp at hj⟩, fun v hv => by simp at hv; omega⟩
theorem build_hz (o : Nat) (w : World) : (Instr.build 146 #[(0, .int .u64 (o : Int))]).run Try.prog w = .ok (.agg (Hz.cells ⟨o, 0, fun _ => ⟨0, 0, 0⟩, []⟩ zslNil.v).toArray) w := by kernel_rfl
theorem step_build1 {ops : Array Oper} {rest : List Oper} {o : Oper} {a : Act} {w : World} {Q : Exit → Act → World → Prop} (hgd : o.guard = none) (ty : TypeId) (x : Operand) (ho : o.op = .build ty #[(0, x)])
    (vx v : Value) (hx : a.eval x = vx) (hb : (Instr.build ty #[(0, vx)]).run Try.prog w = .ok v w)
    (h : wpList Try.prog ops Q rest (a.put o.dst v) w) : wpList Try.prog ops Q (o :: rest) a w :=
  wpList_plain hgd fun _ hK => by
    unfold Oper.wp execOp
    simp only [ho, hx, List.map_toArray, List.map_cons, List.map_nil, Sem.run_bind, Sem.run_pure, Result.andThen_ok, hb]
    exact hK _ _ h
set_option maxHeartbeats 2000000 in
theorem znew (me : Int) (s : Nat) (w : World) (hs : s < 18446744073709551616) (m0 : -9223372036854775808 ≤ me) (m1 : me ≤ 9223372036854775807) :
    Calls Try.prog 64 #[.int .i64 me, .int .u64 (s : Int)] w fun e w' => e = .returned (.pointer (some ⟨w.heap.size + 1, 0, none⟩)) ∧ HzAt w' (w.heap.size + 1) w.heap.size (newZ me s) zslNil ∧ Below w.heap.size w w' := by
  have HI := InI.oneZ w me m0 m1
  have HL := less_any s (some ⟨w.heap.size, 0, none⟩) 1 1 [me] _ hs HI (by decide)
  rw [ofl_oneZ] at HL
  have HO := Lib.hid (show HzAt ((w.alloc (.cells #[.int .i64 me] 3)).alloc (.cells ((newZ me s).cells zslNil.v).toArray 146)) (w.heap.size + 1) w.heap.size (newZ me s) zslNil from ⟨by
    have := Own.new (w.alloc (.cells #[.int .i64 me] 3)) 146 ((newZ me s).cells zslNil.v).toArray
    rw [show (w.alloc (.cells #[.int .i64 me] 3)).heap.size = w.heap.size + 1 by simp] at this
    exact this, ZSlot.nil _, by omega, (fun x hx => by cases hx), ok_new me s⟩)
  have hb := Lib.hid (fun w => build_hz (but s (onl me)) w)
  have HB := Lib.hid (((Grw.refl w).alloc (.cells #[.int .i64 me] 3)).alloc (.cells ((newZ me s).cells zslNil.v).toArray 146)).below
  unfold newZ at *
  generalize but s (onl me) = t at *
  generalize hC : Hz.cells ⟨t, 0, fun _ => ⟨0, 0, 0⟩, []⟩ zslNil.v = C at *
  have hC := Lib.hid hC
  clear HI
  go_enter Try.func64, Try.ntmps64
  go_wp2_with fail
  refine HL.mono ?_
  rintro e w' ⟨rfl, rfl⟩
  go_wp2_with (with_reducible refine step_build1 rfl 146 (.tmp 8) rfl (.int .u64 (t : Int)) (.agg C.toArray) rfl (hb.out _) ?_)
  go_ret
  exact ⟨rfl, HO.out, HB.out⟩

section
variable {w : World} {g B : Nat} {H : Hz} {s : ZSl}
theorem zclock (h : HzAt w g B H s) :
    Calls Try.prog 23 #[.pointer (some ⟨g, 0, none⟩)] w fun e w' => e = .returned (.int .u64 (H.clock : Int)) ∧ w = w' := by
  have c1 := h.c1
  clear h
  go_enter Try.func23, Try.ntmps23
  go_wp2
  go_ret
  exact ⟨rfl, rfl⟩
set_option maxHeartbeats 1000000 in
theorem zsee (h : HzAt w g B H s) (c : Nat) (hc : c < 18446744073709551616) :
    Calls Try.prog 77 #[.pointer (some ⟨g, 0, none⟩), .int .u64 (c : Int)] w fun e w' => e = .returned (.tuple #[]) ∧ HzAt w' g B (seeZ H c) s ∧ ZMoved w w' g s.a s.a := by
  have c1 := h.c1
  have f1 := h.free 1
  obtain ⟨z, hz⟩ : ∃ z, z = max H.clock c := ⟨_, rfl⟩
  have hok := ok_see h.ok hc
  have HT := h.tick (max H.clock c) hok
  rw [← hz] at HT
  have hzi : max (H.clock : Int) (c : Int) = (z : Int) := by omega
  have HT := Lib.hid HT
  have HZ := Lib.hid (show seeZ H c = { H with clock := z } by rw [hz]; rfl)
  clear h hz hok
  go_enter Try.func77, Try.ntmps77
  go_wp2
  go_end0
  rw [HZ.out]
  exact ⟨rfl, HT.out.1, HT.out.2⟩
theorem mem_nat13 {a : Nat} {p : Int} (h : mem a p = true) : ∃ k : Nat, p = (k : Int) ∧ k < 64 ∧ a.testBit k = true := by
  unfold mem at h
  simp at h
  obtain ⟨⟨h1, h2⟩, h3⟩ := h
  obtain ⟨k, rfl⟩ := Int.eq_ofNat_of_zero_le h1
  exact ⟨k, rfl, by omega, by simpa using h3⟩
set_option maxHeartbeats 2000000 in
theorem zreached (h : HzAt w g B H s) (p : Int) (p0 : -9223372036854775808 ≤ p) (p1 : p ≤ 9223372036854775807) (c : Nat) (hc : c < 18446744073709551616) :
    Calls Try.prog 35 #[.pointer (some ⟨g, 0, none⟩), .int .i64 p, .int .u64 (c : Int)] w fun e w' => e = .returned (.tuple #[]) ∧ HzAt w' g B (reachZ H p c) s ∧ ZMoved w w' g s.a s.a := by
  have c0 := h.c0
  have M := has_any H.oth p w h.ok.o p0 p1
  cases hm : mem H.oth p with
  | false =>
    rw [reachZ_no hm]
    rw [hm] at M
    have HH := Lib.hid h
    clear h hm
    go_enter Try.func35, Try.ntmps35
    go_wp2_with (go_at_call 57; refine M.mono ?_; rintro e w' ⟨rfl, rfl⟩)
    go_end0
    exact ⟨rfl, HH.out, ZMoved.refl _ _ _⟩
  | true =>
    rw [reachZ_yes hm]
    rw [hm] at M
    obtain ⟨k, rfl, hk, -⟩ := mem_nat13 hm
    rw [Int.toNat_natCast]
    have k1 := h.k1 k hk
    have f1 := h.free (2 + k * 3 + 1)
    have hk' : (k : Int) < 64 := by omega
    have hr := h.ok.r k
    obtain ⟨z, hz⟩ : ∃ z, z = max (H.mks k).rc c := ⟨_, rfl⟩
    have hzi : max ((H.mks k).rc : Int) (c : Int) = (z : Int) := by omega
    have HT := h.mark k hk 1 (by decide) (.int .u64 (z : Int)) ⟨(H.mks k).hd, z, (H.mks k).cm⟩ rfl (ok_mark h.ok k (h.ok.h k) (by show z < _; omega) (h.ok.n k))
    rw [← hz]
    have HT := Lib.hid HT
    clear h hm hz hr
    go_enter Try.func35, Try.ntmps35
    go_wp2_with (go_at_call 57; refine M.mono ?_; rintro e w' ⟨rfl, rfl⟩)
    go_end0
    exact ⟨rfl, HT.out.1, HT.out.2⟩
/-- What the two closures answer. -/
theorem zheard (h : HzAt w g B H s) (k : Nat) (hk : k < 64) :
    Calls Try.prog 146 #[.pointer (some ⟨g, 2 + k * 3, none⟩)] w fun e w' => e = .returned (.int .u64 ((H.mks k).hd : Int)) ∧ w = w' := by
  have k0 := h.k0 k hk
  clear h
  go_enter Try.func146, Try.ntmps146
  go_wp2
  go_ret
  exact ⟨rfl, rfl⟩
theorem zreach (h : HzAt w g B H s) (k : Nat) (hk : k < 64) :
    Calls Try.prog 145 #[.pointer (some ⟨g, 2 + k * 3, none⟩)] w fun e w' => e = .returned (.int .u64 ((H.mks k).rc : Int)) ∧ w = w' := by
  have k1 := h.k1 k hk
  clear h
  go_enter Try.func145, Try.ntmps145
  go_wp2
  go_ret
  exact ⟨rfl, rfl⟩
theorem mem_ltZ {a : Nat} {k : Nat} (hk : k < 64) : mem a (k : Int) = a.testBit k := mem_nat a k hk
set_option maxHeartbeats 4000000 in
theorem zleast (h : HzAt w g B H s) (fn : Nat) (eg : ∀ args w, (callFunc fn args).run Try.prog w = .ok (.enter fn args) w) (f : Nat → Nat) (c : Nat) (hf : ∀ k, k < 64 → Calls Try.prog fn #[.pointer (some ⟨g, 2 + k * 3, none⟩)] w fun e w' => e = .returned (.int .u64 (f k : Int)) ∧ w = w') :
    Calls Try.prog 144 #[.pointer (some ⟨g, 0, none⟩), .int .u64 (c : Int), .func (.func fn) #[] #[]] w fun e w' => e = .returned (.int .u64 (leastN H.oth f c : Nat)) ∧ w = w' := by
  have c0 := h.c0
  have HK := Lib.hid (fun k (h1 : 64 ≤ k) (h2 : k ≤ 64) => leastN_at H.oth f c k h1 h2)
  have HY := Lib.hid (leastK_yes H.oth f c)
  have HN := Lib.hid (leastK_no H.oth f c)
  have olt := h.ok.o
  have HF := Lib.hid hf
  have h0 := leastK_zero H.oth f c
  clear h hf
  go_enter Try.func144, Try.ntmps144
  go_wp2
  rw [← h0]
  clear h0
  go_loop [1, 8] (fun s i => ∃ k : Nat, k ≤ 64 ∧ i = .int .i64 k ∧ s = .int .u64 (leastK H.oth f c k : Nat)) (fun _ i => 64 - (intOf i).toNat)
  case atStart => exact ⟨0, Nat.zero_le _, rfl, rfl⟩
  case round =>
    obtain ⟨k, hk, rfl, rfl⟩ := hrel
    by_cases hlt : k < 64
    · have M := has_any H.oth (k : Int) w olt (by omega) (by omega)
      rw [mem_ltZ hlt] at M
      have hy := Lib.hid (HY.out k)
      have hn := Lib.hid (HN.out k)
      have C := HF.out k hlt
      have hk' : (k : Int) < 64 := by omega
      cases hb : H.oth.testBit k with
      | false =>
        rw [hb] at M
        have e := Lib.hid (hn.out hb)
        clear hb HY HN hy hn
        go_wp2_with (first | (go_at_call 57; refine M.mono ?_; rintro e w' ⟨rfl, rfl⟩))
        go_round
        case rel => exact ⟨k + 1, by omega, by go_num, by rw [e.out]⟩
        case measure => simp [intOf]; omega
      | true =>
        rw [hb] at M
        have e := hy.out hb
        obtain ⟨a, ha⟩ : ∃ a, a = leastK H.oth f c k := ⟨_, rfl⟩
        obtain ⟨b, hb2⟩ : ∃ b, b = f k := ⟨_, rfl⟩
        obtain ⟨z, hz⟩ : ∃ z, z = min a b := ⟨_, rfl⟩
        rw [← ha, ← hb2, ← hz] at e
        rw [← ha]
        rw [← hb2] at C
        have hzi : min (a : Int) (b : Int) = (z : Int) := by omega
        have e := Lib.hid e
        clear hb HY HN hy hn ha hb2 hz
        go_wp2_with (first | (go_at_call 57; refine M.mono ?_; rintro e w' ⟨rfl, rfl⟩) | (go_at_fn fn; refine C.mono ?_; rintro e w' ⟨rfl, rfl⟩))
        go_round
        case rel => exact ⟨k + 1, by omega, by go_num, by rw [e.out]⟩
        case measure => simp [intOf]; omega
    · have HZ := Lib.hid (HK.out k (by omega) hk)
      clear c0 olt
      go_wp2
      go_ret
      exact ⟨by rw [HZ.out]; rfl, rfl⟩
set_option maxHeartbeats 1000000 in
theorem zall (h : HzAt w g B H s) :
    Calls Try.prog 137 #[.pointer (some ⟨g, 0, none⟩)] w fun e w' => e = .returned (.int .u64 (allN H : Nat)) ∧ w = w' := by
  have K := zleast h 146 (enters_of Try.func146 (by kernel_rfl) rfl) (fun p => (H.mks p).hd) H.clock (fun k hk => zheard h k hk)
  rw [show leastN H.oth (fun p => (H.mks p).hd) H.clock = allN H from rfl] at K
  have c1 := h.c1
  generalize allN H = z at *
  clear h
  go_enter Try.func137, Try.ntmps137
  go_wp2_with fail
  refine K.mono ?_
  rintro e w' ⟨rfl, rfl⟩
  go_wp2
  go_ret
  exact ⟨rfl, rfl⟩
set_option maxHeartbeats 1000000 in
theorem zsafe (h : HzAt w g B H s) :
    Calls Try.prog 136 #[.pointer (some ⟨g, 0, none⟩)] w fun e w' => e = .returned (.int .u64 (safeN H : Nat)) ∧ w = w' := by
  have KA := zall h
  have K := zleast h 145 (enters_of Try.func145 (by kernel_rfl) rfl) (fun p => (H.mks p).rc) (allN H) (fun k hk => zreach h k hk)
  rw [show leastN H.oth (fun p => (H.mks p).rc) (allN H) = safeN H from rfl] at K
  generalize safeN H = z at *
  generalize allN H = y at *
  clear h
  go_enter Try.func136, Try.ntmps136
  go_wp2_with fail
  refine KA.mono ?_
  rintro e w' ⟨rfl, rfl⟩
  go_wp2_with fail
  refine K.mono ?_
  rintro e w' ⟨rfl, rfl⟩
  go_wp2
  go_ret
  exact ⟨rfl, rfl⟩
end
end Go.Proofs.Ytfocjcdfpnbkjaa
