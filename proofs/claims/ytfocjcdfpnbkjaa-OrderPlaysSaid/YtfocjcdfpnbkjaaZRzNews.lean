/- The document's horizon, new. -/
import Derived.Test.YtfocjcdfpnbkjaaZRoTrims
import Derived.StillTailTactics
set_option linter.unusedVariables false
set_option maxRecDepth 100000
set_option linter.unusedSimpArgs false
namespace Go.Proofs.Ytfocjcdfpnbkjaa
open Go.RowKit Go.Sort

theorem rowF_ext {α : Type} (v : α → Value) (f g : Nat → α) (h : ∀ p, p < 64 → f p = g p) : rowF v f = rowF v g := by
  unfold rowF
  exact List.map_congr_left fun p hp => by rw [h p (List.mem_range.1 hp)]
/-- Others, one by one. -/
def RzF (w : World) (b : Nat) (f : Nat → Bool) : Prop := Own w b 37 (Value.int .u64 0 :: (rowF vB f ++ [Value.slice none 0 0])).toArray
theorem RzF.own {w : World} {b : Nat} {f : Nat → Bool} (h : RzF w b f) : Own w b 37 (Value.int .u64 0 :: (rowF vB f ++ [Value.slice none 0 0])).toArray := h
theorem RzF.set {w : World} {b : Nat} {f : Nat → Bool} (h : RzF w b f) (p : Nat) (hp : p < 64) (x : Bool) : RzF (w.setCell ⟨b, 1 + p, none⟩ (.bool x)) b (updF f p x) := by
  have h2 := rowF_set vB f p x hp
  have key : (Value.int .u64 0 :: (rowF vB f ++ [Value.slice none 0 0])).set (1 + p) (.bool x) = Value.int .u64 0 :: (rowF vB (updF f p x) ++ [Value.slice none 0 0]) := by
    rw [show 1 + p = p + 1 by omega, List.set_cons_succ, List.set_append_left _ _ (by rw [rowF_length]; exact hp), ← h2]; rfl
  have h1 := h.own.set (1 + p) (.bool x)
  rw [List.setIfInBounds_toArray, key] at h1
  exact h1
theorem RzF.cp {w : World} {b : Nat} {f : Nat → Bool} (h : RzF w b f) (p : Nat) (hp : p < 64) : w.cell? ⟨b, 1 + p, none⟩ = some (.bool (f p)) := h.own.at_ _ _ (by
  rw [List.getElem?_toArray, show 1 + p = p + 1 by omega, List.getElem?_cons_succ, List.getElem?_append_left (by rw [rowF_length]; exact hp), rowF_at _ _ _ hp]; rfl)
/-- Amid New. -/
structure NzSt (w V : World) (e0 : Nat) (f : Nat → Bool) : Prop where
  below : Below e0 w V
  z : RzB V e0 0 0 slNil
  h : RzF V (e0 + 1) f
  sz : e0 + 2 ≤ V.heap.size
theorem NzSt.set {w V : World} {e0 : Nat} {f : Nat → Bool} (h : NzSt w V e0 f) (p : Nat) (hp : p < 64) (x : Bool) : NzSt w (V.setCell ⟨e0 + 1, 1 + p, none⟩ (.bool x)) e0 (updF f p x) :=
  ⟨h.below.setCell (show e0 ≤ e0 + 1 by omega) _, Own.set_other h.z _ _ _ (by omega), h.h.set p hp x, by
    have := (grown_set13 V (e0 + 1) (1 + p) (.bool x)).size
    have := h.sz
    omega⟩
theorem NzSt.first (w : World) : NzSt w ((w.alloc (.cells (rzC 0 0 slNil).toArray 37)).alloc (.cells (rzC 0 0 slNil).toArray 37)) w.heap.size (fun _ => false) := by
  have G1 := (Grw.refl w).alloc (.cells (rzC 0 0 slNil).toArray 37)
  have G2 := G1.alloc (.cells (rzC 0 0 slNil).toArray 37)
  have hs1 : (w.alloc (.cells (rzC 0 0 slNil).toArray 37)).heap.size = w.heap.size + 1 := by simp
  refine ⟨G2.below, (RzB.new w 0 0 slNil).below ((Grw.refl _).alloc _).below, ?_, by simp⟩
  have := RzB.new (w.alloc (.cells (rzC 0 0 slNil).toArray 37)) 0 0 slNil
  rw [hs1] at this
  have e : rzC 0 0 slNil = Value.int .u64 0 :: (rowF vB (fun _ => false) ++ [Value.slice none 0 0]) := by
    unfold rzC
    rw [rowF_ext vB _ (fun _ => false) fun p _ => by simp]; rfl
  show Own _ _ _ _
  rw [← e]
  exact this
def nzF (s : Nat) (me : Int) (k : Nat) (p : Nat) : Bool := decide (p < k) && (s.testBit p && !decide ((p : Int) = me))
theorem nzF_next (s : Nat) (me : Int) (k : Nat) (x : Bool) (h : x = (s.testBit k && !decide ((k : Int) = me))) : updF (nzF s me k) k x = nzF s me (k + 1) := by
  funext p
  unfold nzF
  by_cases e : p = k
  · subst e; rw [updF_same, h]; simp
  · rw [updF_other _ _ _ _ e]
    have : decide (p < k + 1) = decide (p < k) := by simp; omega
    rw [this]
theorem nzF_zero (s : Nat) (me : Int) : nzF s me 0 = fun _ => false := by funext p; unfold nzF; simp
theorem nzF_all (s : Nat) (me : Int) (k p : Nat) (h : 64 ≤ k) (hp : p < 64) : nzF s me k p = (but s (onl me)).testBit p := by
  unfold nzF but
  rw [num_bit, onl_bit _ _ hp]
  simp [hp]
  omega
set_option maxHeartbeats 4000000 in
theorem rz_new (me : Int) (s : Nat) (w : World) (hs : s < 18446744073709551616) :
    Calls Try.prog 65 #[.int .i64 me, .int .u64 (s : Int)] w fun e w' => e = .returned (.agg (rzC 0 (but s (onl me)) slNil).toArray) ∧ Below w.heap.size w w' := by
  have FST2 := Lib.hid (NzSt.first w)
  have hz := rz_zero
  go_enter Try.func65, Try.ntmps65
  go_upto_region 2 with fail
  generalize (w.alloc (.cells (rzC 0 0 slNil).toArray 37)).alloc (.cells (rzC 0 0 slNil).toArray 37) = W at *
  generalize he0 : w.heap.size = e0 at *
  have HE0 := Lib.hid he0
  clear he0
  have H0 : Hid (NzSt w W e0 (nzF s me 0)) := Lib.hid (by rw [nzF_zero]; exact FST2.out)
  clear FST2
  go_wp2_with fail
  go_loopw [6] (fun si wr => ∃ k : Nat, k ≤ 64 ∧ si = .int .i64 k ∧ Hid (NzSt w wr e0 (nzF s me k))) (fun si _ => 64 - (intOf si).toNat)
  case atStart => exact ⟨0, Nat.zero_le _, rfl, H0⟩
  case round =>
    clear H0
    obtain ⟨k, hk, rfl, HS⟩ := hrel
    by_cases hlt : k < 64
    · have hk' : (k : Int) < 64 := by omega
      have hm3 : min k 64 = k := by omega
      have hb := and_bit14 s k hs
      have cp := HS.out.h.cp k hlt
      have cf := HS.out.h.own.free (1 + k)
      cases hbit : s.testBit k with
      | false =>
        rw [hbit, if_neg (by decide)] at hb
        have HN := Lib.hid (HS.out.set k hlt false)
        rw [nzF_next s me k false (by rw [hbit]; rfl)] at HN
        clear HS
        go_wp2
        go_roundw
        case rel => exact ⟨k + 1, by omega, by go_num, HN⟩
        case measure => simp [intOf]; omega
      | true =>
        rw [hbit, if_pos rfl] at hb
        by_cases hme : (k : Int) = me
        · have HN := Lib.hid (HS.out.set k hlt false)
          rw [nzF_next s me k false (by rw [hbit, decide_eq_true hme]; rfl)] at HN
          clear HS
          subst hme
          go_wp2
          go_roundw
          case rel => exact ⟨k + 1, by omega, by go_num, HN⟩
          case measure => simp [intOf]; omega
        · have hne : ((k : Int) != me) = true := by simp [hme]
          have HN := Lib.hid (HS.out.set k hlt true)
          rw [nzF_next s me k true (by rw [hbit, decide_eq_false hme]; rfl)] at HN
          clear HS
          go_wp2
          go_roundw
          case rel => exact ⟨k + 1, by omega, by go_num, HN⟩
          case measure => simp [intOf]; omega
    · have S5 := HS.out
      have HZ : Hid (RzB wr (e0 + 1) 0 (but s (onl me)) slNil) := Lib.hid (by
        show Own _ _ _ _
        unfold rzC
        rw [rowF_ext vB _ (nzF s me k) fun p hp => (nzF_all s me k p (by omega) hp).symm]
        exact S5.h)
      have HR := Lib.hid S5.z
      have HB := Lib.hid S5.below
      clear S5
      go_wp2_with (first | (refine load_rz rfl (.tmp 5) rfl (e0 + 1) 0 (but s (onl me)) slNil rfl HZ.out ?_) | (refine store_rz rfl (.tmp 4) (.tmp 24) rfl e0 0 (but s (onl me)) slNil rfl rfl HR.out ?_))
      (try simp only [Exit.inBlock, Exit.then])
      exact bodyPost_ret (v := .agg _) (results_rz (p := 4) rfl _ _ e0 0 (but s (onl me)) rfl (HR.out.row _ _ _)) rfl ⟨rfl, by rw [HE0.out]; exact belowRow10 HB.out _ (by omega) _⟩
end Go.Proofs.Ytfocjcdfpnbkjaa

/- The document's order, new. -/
set_option linter.unusedVariables false
set_option maxRecDepth 100000
set_option linter.unusedSimpArgs false
namespace Go.Proofs.Ytfocjcdfpnbkjaa
open Go.RowKit Go.Sort

def rNew0 (me : Int) (s : Nat) : Ro := ⟨me, s, slNil, fun _ => 0, 0, but s (onl me), slNil, fun _ => 0, ⟨0, 0⟩⟩
def rNew (me : Int) (s : Nat) : Ro := ⟨me, any s (onl me), slNil, fun _ => 0, 0, but s (onl me), slNil, fun _ => 0, ⟨0, 0⟩⟩
theorem build_ro (me : Int) (s : Nat) (w : World) : (Instr.build 41 #[(0, .int .i64 me), (1, .int .u64 (s : Int)), (3, .agg (rzC 0 (but s (onl me)) slNil).toArray)]).run Try.prog w = .ok (.agg (rNew0 me s).cs.toArray) w := by
  unfold rNew0
  generalize but s (onl me) = oth
  kernel_rfl
theorem step_build3 {ops : Array Oper} {rest : List Oper} {o : Oper} {a : Act} {w : World} {Q : Exit → Act → World → Prop} (hgd : o.guard = none) (ty : TypeId) (x y z : Operand) (ho : o.op = .build ty #[(0, x), (1, y), (3, z)])
    (vx vy vz v : Value) (hx : a.eval x = vx) (hy : a.eval y = vy) (hz : a.eval z = vz) (hb : (Instr.build ty #[(0, vx), (1, vy), (3, vz)]).run Try.prog w = .ok v w)
    (h : wpList Try.prog ops Q rest (a.put o.dst v) w) : wpList Try.prog ops Q (o :: rest) a w :=
  wpList_plain hgd fun _ hK => by
    unfold Oper.wp execOp
    simp only [ho, hx, hy, hz, List.map_toArray, List.map_cons, List.map_nil, Sem.run_bind, Sem.run_pure, Result.andThen_ok, hb]
    exact hK _ _ h
theorem any_onl_no (s : Nat) (me : Int) (hs : s < 18446744073709551616) (h : ¬ (0 ≤ me ∧ me < 64)) : any s (onl me) = s := by
  rw [show onl me = 0 by unfold onl; rw [if_neg h]]
  refine set_ext _ _ (any_lt _ _) hs fun i hi => ?_
  unfold any
  rw [num_bit]
  simp [hi]
theorem RoB.setMs {w : World} {b : Nat} {r : Ro} (h : RoB w b r) (c : Nat) : RoB (w.setCells b 1 [.int .u64 (c : Int)]) b { r with ms := c } := h.mid 1 _ _ (by simp) (by unfold Ro.cs; rfl)
set_option maxHeartbeats 4000000 in
theorem ro_new (me : Int) (s : Nat) (w : World) (hs : s < 18446744073709551616) :
    Calls Try.prog 17 #[.int .i64 me, .int .u64 (s : Int)] w fun e w' => e = .returned (.agg (rNew me s).cs.toArray) ∧ Below w.heap.size w w' := by
  have hz := ro_zero
  have L1 := Lib.hid ((Grw.refl w).alloc (.cells ro0.cs.toArray 41)).below
  have Z1 := Lib.hid (RoB.new w ro0)
  have PZ := rz_new me s (w.alloc (.cells ro0.cs.toArray 41)) hs
  have HB := Lib.hid (fun w => build_ro me s w)
  go_enter Try.func17, Try.ntmps17
  go_wp2_with fail
  with_reducible refine PZ.mono ?_
  rintro e w1 ⟨rfl, hB1⟩
  have B1 := Lib.hid (L1.out.trans (hB1.mono L1.out.size))
  have Z2 := Lib.hid (Z1.out.below hB1)
  have hsz : w.heap.size + 1 ≤ w1.heap.size := by
    have h1 := hB1.size
    simp at h1
    omega
  clear PZ hB1 L1 Z1
  have L2 := ((Grw.refl w1).alloc (.cells ro0.cs.toArray 41)).below
  have N2 := Lib.hid (RoB.new w1 ro0)
  have B3 := belowRow10 L2 w1.heap.size (Nat.le_refl _) (rNew0 me s).cs.toArray
  have Z3 := Lib.hid (Z2.out.below B3)
  have N3 := Lib.hid (N2.out.row (rNew0 me s))
  have B2 := Lib.hid (B1.out.trans (B3.mono B1.out.size))
  clear L2 B3 Z2 B1
  go_upto_region 2 with (first | (refine step_build3 rfl 41 (.tmp 6) (.tmp 7) (.tmp 10) rfl (.int .i64 me) (.int .u64 (s : Int)) (.agg (rzC 0 (but s (onl me)) slNil).toArray) (.agg (rNew0 me s).cs.toArray) rfl rfl rfl (HB.out _) ?_) | (refine store_ro rfl (.tmp 5) (.tmp 11) rfl w1.heap.size (rNew0 me s) rfl rfl N2.out ?_) | fail)
  generalize (w1.alloc (.cells ro0.cs.toArray 41)).setRow w1.heap.size (rNew0 me s).cs.toArray = w5 at *
  obtain ⟨b5, hb5⟩ : ∃ b5, b5 = w1.heap.size := ⟨_, rfl⟩
  rw [← hb5] at N3 hsz
  try rw [← hb5]
  clear hb5 N2
  generalize he0 : w.heap.size = e0 at *
  have HE0 := Lib.hid he0
  clear he0
  by_cases hp : 0 ≤ me ∧ me < 64
  · obtain ⟨k, rfl⟩ := Int.eq_ofNat_of_zero_le hp.1
    have hk' : (k : Int) < 64 := hp.2
    have hm3 : min k 64 = k := by omega
    have c1 := N3.out.c1
    change w5.cell? ⟨b5, 1, none⟩ = some (.int .u64 (s : Int)) at c1
    have f1 := N3.out.free 1
    have hsh := onl_shl k
    rw [hm3] at hsh
    have hor := any_eq s (onl (k : Int)) hs (onl_lt _)
    clear hp
    go_upto_region 3 with fail
    go_still_tail 6, (by kernel_rfl)
    change wpList _ _ _ _ _ (w5.drewN 1)
    have D1 := ((Grw.refl w5).drewN 1).below
    have N4 := Lib.hid (N3.out.below D1)
    have Z4 := Lib.hid (Z3.out.below D1)
    have B4 := Lib.hid (B2.out.trans (D1.mono (by have := B2.out.size; have := HE0.out; omega)))
    clear D1 N3 Z3 B2
    have c1 : (w5.drewN 1).cell? ⟨b5, 1, none⟩ = some (.int .u64 (s : Int)) := c1
    have f1 : (w5.drewN 1).frozen? ⟨b5, 1, none⟩ = false := f1
    generalize w5.drewN 1 = w6 at *
    go_upto_region 4 with fail
    have N5 := N4.out.setMs (any s (onl (k : Int)))
    change RoB (w6.setCell ⟨b5, 1, none⟩ (.int .u64 (any s (onl (k : Int)) : Nat))) b5 (rNew (k : Int) s) at N5
    have N5 := Lib.hid N5
    have Z5 : Hid (RoB (w6.setCell ⟨b5, 1, none⟩ (.int .u64 (any s (onl (k : Int)) : Nat))) e0 ro0) := Lib.hid (Own.set_other Z4.out _ _ _ (by omega))
    have B5 := Lib.hid (B4.out.setCell (p := ⟨b5, 1, none⟩) (show e0 ≤ b5 by omega) (.int .u64 (any s (onl (k : Int)) : Nat)))
    clear N4 Z4 B4 c1 f1
    generalize w6.setCell ⟨b5, 1, none⟩ (.int .u64 (any s (onl (k : Int)) : Nat)) = w7 at *
    go_wp2_with (first | (refine load_ro rfl (.tmp 5) rfl b5 (rNew (k : Int) s) rfl N5.out ?_) | (refine store_ro rfl (.tmp 4) (.tmp 24) rfl e0 (rNew (k : Int) s) rfl rfl Z5.out ?_))
    (try simp only [Exit.inBlock, Exit.then])
    exact bodyPost_ret (v := .agg _) (results_ro (p := 4) rfl _ _ e0 rfl ((Z5.out).row (rNew (k : Int) s))) rfl ⟨rfl, by rw [HE0.out]; exact belowRow10 B5.out _ (Nat.le_refl _) _⟩
  · have HR : Hid (rNew me s = rNew0 me s) := Lib.hid (by unfold rNew rNew0; rw [any_onl_no s me hs hp])
    by_cases h0 : 0 ≤ me
    · have d1 : ¬ me < 64 := fun e => hp ⟨h0, e⟩
      clear hp
      go_wp2_with (first | (refine load_ro rfl (.tmp 5) rfl b5 (rNew0 me s) rfl N3.out ?_) | (refine store_ro rfl (.tmp 4) (.tmp 24) rfl e0 (rNew0 me s) rfl rfl Z3.out ?_))
      (try simp only [Exit.inBlock, Exit.then])
      exact bodyPost_ret (v := .agg _) (results_ro (p := 4) rfl _ _ e0 rfl ((Z3.out).row (rNew0 me s))) rfl ⟨by rw [HR.out], by rw [HE0.out]; exact belowRow10 B2.out _ (Nat.le_refl _) _⟩
    · clear hp
      go_wp2_with (first | (refine load_ro rfl (.tmp 5) rfl b5 (rNew0 me s) rfl N3.out ?_) | (refine store_ro rfl (.tmp 4) (.tmp 24) rfl e0 (rNew0 me s) rfl rfl Z3.out ?_))
      (try simp only [Exit.inBlock, Exit.then])
      exact bodyPost_ret (v := .agg _) (results_ro (p := 4) rfl _ _ e0 rfl ((Z3.out).row (rNew0 me s))) rfl ⟨by rw [HR.out], by rw [HE0.out]; exact belowRow10 B2.out _ (Nat.le_refl _) _⟩
end Go.Proofs.Ytfocjcdfpnbkjaa
