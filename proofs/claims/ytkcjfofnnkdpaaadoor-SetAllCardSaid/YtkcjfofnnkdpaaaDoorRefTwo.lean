/- The contracts of the document's own Both, Any, But, In, Has, All. -/
import Derived.Test.YtkcjfofnnkdpaaaDoorRefSet
set_option linter.unusedVariables false
set_option linter.unusedSimpArgs false
namespace Go.Proofs.YtkcjfofnnkdpaaaDoor
open Go.RowKit

set_option maxHeartbeats 2000000 in
theorem refBoth_any (a b : Nat) (w : World) (ha : a < 18446744073709551616) (hb : b < 18446744073709551616) :
    Calls Tryd.prog 13 #[.int .u64 a, .int .u64 b] w fun e w' => e = .returned (.int .u64 (both a b : Nat)) ∧ Below w.heap.size w w' := by
  go_enter Tryd.func13, Tryd.ntmps13
  go_wp2_with fail
  refine (truths_any _ _ ha).mono ?_
  rintro e w1 ⟨rfl, hb1⟩
  go_wp2_with fail
  refine (truths_any _ _ hb).mono ?_
  rintro e w2 ⟨rfl, hb2⟩
  have hbw : Below w.heap.size w w2 := hb1.trans (hb2.mono hb1.size)
  have hz2 : w.heap.size ≤ w2.heap.size := hbw.size
  clear hb1 hb2
  go_wp2_with (first
    | (refine wpList_store_row rfl 45 (.tmp 5) (.tmp 9) rfl w2.heap.size (truths a.testBit) rfl rfl 45 _ (heap_alloc2_old w2 _ _) (Tryd.info45 _) (by rw [truths_size]; rfl) (truths_one _) ?_)
    | (refine wpList_store_row rfl 45 (.tmp 6) (.tmp 11) rfl (w2.heap.size + 1) (truths b.testBit) rfl rfl 45 _ ((setRow_other _ _ _ _ (by omega)).trans (heap_alloc2_new w2 _ _)) (Tryd.info45 _) (by rw [truths_size]; rfl) (truths_one _) ?_))
  go_loopw [7] (fun i wr => ∃ k : Nat, k ≤ 64 ∧ i = .int .i64 k ∧
      Row wr w2.heap.size (fun p => if p < k then (a.testBit p && b.testBit p) else a.testBit p) ∧ Row wr (w2.heap.size + 1) b.testBit ∧ Below w.heap.size w wr)
    (fun i _ => 64 - (intOf i).toNat)
  case atStart =>
    refine ⟨0, Nat.zero_le _, rfl, ?_, ?_, below_setRow (below_setRow ((hbw.alloc hz2 _).alloc (by simp; omega) _) _ _ hz2) _ _ (by omega)⟩
    · refine Row.ext (f := a.testBit) ?_ (fun i _ => by simp)
      exact Row.otherRow ⟨setRow_heap _ _ _ _ _ _ (heap_alloc2_old w2 _ _)⟩ _ (by omega)
    · exact ⟨setRow_heap _ _ _ _ _ _ ((setRow_other _ _ _ _ (by omega)).trans (heap_alloc2_new w2 _ _))⟩
  case round =>
    obtain ⟨k, hk, rfl, h1, h2, hnx⟩ := hrel
    by_cases hlt : k < 64
    · have c1 := h1.cell k hlt
      rw [if_neg (Nat.lt_irrefl k)] at c1
      have c2 := h2.cell k hlt
      have f1 := h1.free k
      have fin : ∀ v : Bool, v = (fun p => (a.testBit p && b.testBit p)) k → Row (wr.setCell ⟨w2.heap.size, k, none⟩ (.bool v)) w2.heap.size (fun p => if p < k + 1 then (a.testBit p && b.testBit p) else a.testBit p) := fun v hv => by
        refine (h1.set k v hlt).ext (fun i hi => ?_)
        by_cases e : i = k
        · subst e; rw [if_pos rfl, if_pos (by omega), hv]
        · rw [if_neg e]
          by_cases e2 : i < k
          · rw [if_pos e2, if_pos (by omega)]
          · rw [if_neg e2, if_neg (by omega)]
      have FIN := Lib.hid fin
      clear fin
      cases hx : a.testBit k with
      | true =>
        cases hy : b.testBit k with
        | true =>
          rw [hx] at c1; rw [hy] at c2
          have HX := Lib.hid hx; have HY := Lib.hid hy
          clear hx hy
          go_wp2
          go_roundw
          case rel => exact ⟨k + 1, by omega, by go_num, FIN.out _ (by simp [HX.out, HY.out]), h2.other _ _ (by omega), hnx.setCell hz2 _⟩
          case measure => simp [intOf]; omega
        | false =>
          rw [hx] at c1; rw [hy] at c2
          have HX := Lib.hid hx; have HY := Lib.hid hy
          clear hx hy
          go_wp2
          go_roundw
          case rel => exact ⟨k + 1, by omega, by go_num, FIN.out _ (by simp [HX.out, HY.out]), h2.other _ _ (by omega), hnx.setCell hz2 _⟩
          case measure => simp [intOf]; omega
      | false =>
        cases hy : b.testBit k with
        | true =>
          rw [hx] at c1; rw [hy] at c2
          have HX := Lib.hid hx; have HY := Lib.hid hy
          clear hx hy
          go_wp2
          go_roundw
          case rel => exact ⟨k + 1, by omega, by go_num, FIN.out _ (by simp [HX.out, HY.out]), h2.other _ _ (by omega), hnx.setCell hz2 _⟩
          case measure => simp [intOf]; omega
        | false =>
          rw [hx] at c1; rw [hy] at c2
          have HX := Lib.hid hx; have HY := Lib.hid hy
          clear hx hy
          go_wp2
          go_roundw
          case rel => exact ⟨k + 1, by omega, by go_num, FIN.out _ (by simp [HX.out, HY.out]), h2.other _ _ (by omega), hnx.setCell hz2 _⟩
          case measure => simp [intOf]; omega
    · have hk2 : k = 64 := by omega
      have h1' : Row wr w2.heap.size (fun p => (a.testBit p && b.testBit p)) := h1.ext (fun i hi => by rw [hk2, if_pos hi])
      clear hk2 h1
      go_wp2_with (with_reducible refine wpList_load_row rfl 45 (.tmp 5) rfl w2.heap.size rfl 45 (truths (fun p => (a.testBit p && b.testBit p))) (0, 0) _ h1'.is Tryd.underlying45 rfl (Tryd.info45 _) ?_)
      refine (refSet_any _ _).mono ?_
      rintro e w3 ⟨rfl, hb3⟩
      go_wp2
      go_ret
      exact ⟨rfl, hnx.trans (hb3.mono hnx.size)⟩

set_option maxHeartbeats 2000000 in
theorem refAny_any (a b : Nat) (w : World) (ha : a < 18446744073709551616) (hb : b < 18446744073709551616) :
    Calls Tryd.prog 15 #[.int .u64 a, .int .u64 b] w fun e w' => e = .returned (.int .u64 (any a b : Nat)) ∧ Below w.heap.size w w' := by
  go_enter Tryd.func15, Tryd.ntmps15
  go_wp2_with fail
  refine (truths_any _ _ ha).mono ?_
  rintro e w1 ⟨rfl, hb1⟩
  go_wp2_with fail
  refine (truths_any _ _ hb).mono ?_
  rintro e w2 ⟨rfl, hb2⟩
  have hbw : Below w.heap.size w w2 := hb1.trans (hb2.mono hb1.size)
  have hz2 : w.heap.size ≤ w2.heap.size := hbw.size
  clear hb1 hb2
  go_wp2_with (first
    | (refine wpList_store_row rfl 45 (.tmp 5) (.tmp 9) rfl w2.heap.size (truths a.testBit) rfl rfl 45 _ (heap_alloc2_old w2 _ _) (Tryd.info45 _) (by rw [truths_size]; rfl) (truths_one _) ?_)
    | (refine wpList_store_row rfl 45 (.tmp 6) (.tmp 11) rfl (w2.heap.size + 1) (truths b.testBit) rfl rfl 45 _ ((setRow_other _ _ _ _ (by omega)).trans (heap_alloc2_new w2 _ _)) (Tryd.info45 _) (by rw [truths_size]; rfl) (truths_one _) ?_))
  go_loopw [7] (fun i wr => ∃ k : Nat, k ≤ 64 ∧ i = .int .i64 k ∧
      Row wr w2.heap.size (fun p => if p < k then (a.testBit p || b.testBit p) else a.testBit p) ∧ Row wr (w2.heap.size + 1) b.testBit ∧ Below w.heap.size w wr)
    (fun i _ => 64 - (intOf i).toNat)
  case atStart =>
    refine ⟨0, Nat.zero_le _, rfl, ?_, ?_, below_setRow (below_setRow ((hbw.alloc hz2 _).alloc (by simp; omega) _) _ _ hz2) _ _ (by omega)⟩
    · refine Row.ext (f := a.testBit) ?_ (fun i _ => by simp)
      exact Row.otherRow ⟨setRow_heap _ _ _ _ _ _ (heap_alloc2_old w2 _ _)⟩ _ (by omega)
    · exact ⟨setRow_heap _ _ _ _ _ _ ((setRow_other _ _ _ _ (by omega)).trans (heap_alloc2_new w2 _ _))⟩
  case round =>
    obtain ⟨k, hk, rfl, h1, h2, hnx⟩ := hrel
    by_cases hlt : k < 64
    · have c1 := h1.cell k hlt
      rw [if_neg (Nat.lt_irrefl k)] at c1
      have c2 := h2.cell k hlt
      have f1 := h1.free k
      have fin : ∀ v : Bool, v = (fun p => (a.testBit p || b.testBit p)) k → Row (wr.setCell ⟨w2.heap.size, k, none⟩ (.bool v)) w2.heap.size (fun p => if p < k + 1 then (a.testBit p || b.testBit p) else a.testBit p) := fun v hv => by
        refine (h1.set k v hlt).ext (fun i hi => ?_)
        by_cases e : i = k
        · subst e; rw [if_pos rfl, if_pos (by omega), hv]
        · rw [if_neg e]
          by_cases e2 : i < k
          · rw [if_pos e2, if_pos (by omega)]
          · rw [if_neg e2, if_neg (by omega)]
      have FIN := Lib.hid fin
      clear fin
      cases hx : a.testBit k with
      | true =>
        cases hy : b.testBit k with
        | true =>
          rw [hx] at c1; rw [hy] at c2
          have HX := Lib.hid hx; have HY := Lib.hid hy
          clear hx hy
          go_wp2
          go_roundw
          case rel => exact ⟨k + 1, by omega, by go_num, FIN.out _ (by simp [HX.out, HY.out]), h2.other _ _ (by omega), hnx.setCell hz2 _⟩
          case measure => simp [intOf]; omega
        | false =>
          rw [hx] at c1; rw [hy] at c2
          have HX := Lib.hid hx; have HY := Lib.hid hy
          clear hx hy
          go_wp2
          go_roundw
          case rel => exact ⟨k + 1, by omega, by go_num, FIN.out _ (by simp [HX.out, HY.out]), h2.other _ _ (by omega), hnx.setCell hz2 _⟩
          case measure => simp [intOf]; omega
      | false =>
        cases hy : b.testBit k with
        | true =>
          rw [hx] at c1; rw [hy] at c2
          have HX := Lib.hid hx; have HY := Lib.hid hy
          clear hx hy
          go_wp2
          go_roundw
          case rel => exact ⟨k + 1, by omega, by go_num, FIN.out _ (by simp [HX.out, HY.out]), h2.other _ _ (by omega), hnx.setCell hz2 _⟩
          case measure => simp [intOf]; omega
        | false =>
          rw [hx] at c1; rw [hy] at c2
          have HX := Lib.hid hx; have HY := Lib.hid hy
          clear hx hy
          go_wp2
          go_roundw
          case rel => exact ⟨k + 1, by omega, by go_num, FIN.out _ (by simp [HX.out, HY.out]), h2.other _ _ (by omega), hnx.setCell hz2 _⟩
          case measure => simp [intOf]; omega
    · have hk2 : k = 64 := by omega
      have h1' : Row wr w2.heap.size (fun p => (a.testBit p || b.testBit p)) := h1.ext (fun i hi => by rw [hk2, if_pos hi])
      clear hk2 h1
      go_wp2_with (with_reducible refine wpList_load_row rfl 45 (.tmp 5) rfl w2.heap.size rfl 45 (truths (fun p => (a.testBit p || b.testBit p))) (0, 0) _ h1'.is Tryd.underlying45 rfl (Tryd.info45 _) ?_)
      refine (refSet_any _ _).mono ?_
      rintro e w3 ⟨rfl, hb3⟩
      go_wp2
      go_ret
      exact ⟨rfl, hnx.trans (hb3.mono hnx.size)⟩

set_option maxHeartbeats 2000000 in
theorem refBut_any (a b : Nat) (w : World) (ha : a < 18446744073709551616) (hb : b < 18446744073709551616) :
    Calls Tryd.prog 17 #[.int .u64 a, .int .u64 b] w fun e w' => e = .returned (.int .u64 (but a b : Nat)) ∧ Below w.heap.size w w' := by
  go_enter Tryd.func17, Tryd.ntmps17
  go_wp2_with fail
  refine (truths_any _ _ ha).mono ?_
  rintro e w1 ⟨rfl, hb1⟩
  go_wp2_with fail
  refine (truths_any _ _ hb).mono ?_
  rintro e w2 ⟨rfl, hb2⟩
  have hbw : Below w.heap.size w w2 := hb1.trans (hb2.mono hb1.size)
  have hz2 : w.heap.size ≤ w2.heap.size := hbw.size
  clear hb1 hb2
  go_wp2_with (first
    | (refine wpList_store_row rfl 45 (.tmp 5) (.tmp 9) rfl w2.heap.size (truths a.testBit) rfl rfl 45 _ (heap_alloc2_old w2 _ _) (Tryd.info45 _) (by rw [truths_size]; rfl) (truths_one _) ?_)
    | (refine wpList_store_row rfl 45 (.tmp 6) (.tmp 11) rfl (w2.heap.size + 1) (truths b.testBit) rfl rfl 45 _ ((setRow_other _ _ _ _ (by omega)).trans (heap_alloc2_new w2 _ _)) (Tryd.info45 _) (by rw [truths_size]; rfl) (truths_one _) ?_))
  go_loopw [7] (fun i wr => ∃ k : Nat, k ≤ 64 ∧ i = .int .i64 k ∧
      Row wr w2.heap.size (fun p => if p < k then (a.testBit p && !b.testBit p) else a.testBit p) ∧ Row wr (w2.heap.size + 1) b.testBit ∧ Below w.heap.size w wr)
    (fun i _ => 64 - (intOf i).toNat)
  case atStart =>
    refine ⟨0, Nat.zero_le _, rfl, ?_, ?_, below_setRow (below_setRow ((hbw.alloc hz2 _).alloc (by simp; omega) _) _ _ hz2) _ _ (by omega)⟩
    · refine Row.ext (f := a.testBit) ?_ (fun i _ => by simp)
      exact Row.otherRow ⟨setRow_heap _ _ _ _ _ _ (heap_alloc2_old w2 _ _)⟩ _ (by omega)
    · exact ⟨setRow_heap _ _ _ _ _ _ ((setRow_other _ _ _ _ (by omega)).trans (heap_alloc2_new w2 _ _))⟩
  case round =>
    obtain ⟨k, hk, rfl, h1, h2, hnx⟩ := hrel
    by_cases hlt : k < 64
    · have c1 := h1.cell k hlt
      rw [if_neg (Nat.lt_irrefl k)] at c1
      have c2 := h2.cell k hlt
      have f1 := h1.free k
      have fin : ∀ v : Bool, v = (fun p => (a.testBit p && !b.testBit p)) k → Row (wr.setCell ⟨w2.heap.size, k, none⟩ (.bool v)) w2.heap.size (fun p => if p < k + 1 then (a.testBit p && !b.testBit p) else a.testBit p) := fun v hv => by
        refine (h1.set k v hlt).ext (fun i hi => ?_)
        by_cases e : i = k
        · subst e; rw [if_pos rfl, if_pos (by omega), hv]
        · rw [if_neg e]
          by_cases e2 : i < k
          · rw [if_pos e2, if_pos (by omega)]
          · rw [if_neg e2, if_neg (by omega)]
      have FIN := Lib.hid fin
      clear fin
      cases hx : a.testBit k with
      | true =>
        cases hy : b.testBit k with
        | true =>
          rw [hx] at c1; rw [hy] at c2
          have HX := Lib.hid hx; have HY := Lib.hid hy
          clear hx hy
          go_wp2
          go_roundw
          case rel => exact ⟨k + 1, by omega, by go_num, FIN.out _ (by simp [HX.out, HY.out]), h2.other _ _ (by omega), hnx.setCell hz2 _⟩
          case measure => simp [intOf]; omega
        | false =>
          rw [hx] at c1; rw [hy] at c2
          have HX := Lib.hid hx; have HY := Lib.hid hy
          clear hx hy
          go_wp2
          go_roundw
          case rel => exact ⟨k + 1, by omega, by go_num, FIN.out _ (by simp [HX.out, HY.out]), h2.other _ _ (by omega), hnx.setCell hz2 _⟩
          case measure => simp [intOf]; omega
      | false =>
        cases hy : b.testBit k with
        | true =>
          rw [hx] at c1; rw [hy] at c2
          have HX := Lib.hid hx; have HY := Lib.hid hy
          clear hx hy
          go_wp2
          go_roundw
          case rel => exact ⟨k + 1, by omega, by go_num, FIN.out _ (by simp [HX.out, HY.out]), h2.other _ _ (by omega), hnx.setCell hz2 _⟩
          case measure => simp [intOf]; omega
        | false =>
          rw [hx] at c1; rw [hy] at c2
          have HX := Lib.hid hx; have HY := Lib.hid hy
          clear hx hy
          go_wp2
          go_roundw
          case rel => exact ⟨k + 1, by omega, by go_num, FIN.out _ (by simp [HX.out, HY.out]), h2.other _ _ (by omega), hnx.setCell hz2 _⟩
          case measure => simp [intOf]; omega
    · have hk2 : k = 64 := by omega
      have h1' : Row wr w2.heap.size (fun p => (a.testBit p && !b.testBit p)) := h1.ext (fun i hi => by rw [hk2, if_pos hi])
      clear hk2 h1
      go_wp2_with (with_reducible refine wpList_load_row rfl 45 (.tmp 5) rfl w2.heap.size rfl 45 (truths (fun p => (a.testBit p && !b.testBit p))) (0, 0) _ h1'.is Tryd.underlying45 rfl (Tryd.info45 _) ?_)
      refine (refSet_any _ _).mono ?_
      rintro e w3 ⟨rfl, hb3⟩
      go_wp2
      go_ret
      exact ⟨rfl, hnx.trans (hb3.mono hnx.size)⟩

theorem refIn_any (a b : Nat) (w : World) (ha : a < 18446744073709551616) (hb : b < 18446744073709551616) :
    Calls Tryd.prog 19 #[.int .u64 a, .int .u64 b] w fun e w' => e = .returned (.bool (inn a b)) ∧ Below w.heap.size w w' := by
  go_enter Tryd.func19, Tryd.ntmps19
  go_wp2_with fail
  refine (refBut_any _ _ _ ha hb).mono ?_
  rintro e w1 ⟨rfl, hb1⟩
  go_wp2
  go_ret
  exact ⟨by rw [show inn a b = ((but a b : Int) == 0) by rw [beq_cast]; rfl]; rfl, hb1⟩
theorem refHas_any (a : Nat) (p : Int) (w : World) (ha : a < 18446744073709551616) (h0 : -9223372036854775808 ≤ p) (h1 : p ≤ 9223372036854775807) :
    Calls Tryd.prog 11 #[.int .u64 a, .int .i64 p] w fun e w' => e = .returned (.bool (mem a p)) ∧ Below w.heap.size w w' := by
  by_cases hn : p < 0
  · rw [show mem a p = false by unfold mem; rw [decide_eq_false (by omega)]; rfl]
    have hd : decide (0 ≤ p) = false := decide_eq_false (by omega)
    go_enter Tryd.func11, Tryd.ntmps11
    go_wp2
    go_ret
    exact ⟨rfl, Below.refl _ _⟩
  obtain ⟨k, rfl⟩ := Int.eq_ofNat_of_zero_le (show 0 ≤ p by omega)
  by_cases hb : 64 ≤ k
  · rw [show mem a k = false by unfold mem; rw [decide_eq_false (show ¬ (k : Int) < 64 by omega), Bool.and_false]; rfl]
    have hd : decide ((k : Int) < 64) = false := decide_eq_false (by omega)
    go_enter Tryd.func11, Tryd.ntmps11
    go_wp2
    go_ret
    exact ⟨rfl, Below.refl _ _⟩
  · have hk : k < 64 := by omega
    rw [mem_nat a k hk]
    have hix := index_truths a.testBit k hk
    have hd : decide ((k : Int) < 64) = true := decide_eq_true (by omega)
    go_enter Tryd.func11, Tryd.ntmps11
    go_wp2_with fail
    refine (truths_any _ _ ha).mono ?_
    rintro e w1 ⟨rfl, hb1⟩
    go_wp2
    go_ret
    exact ⟨rfl, hb1⟩

set_option maxHeartbeats 2000000 in
theorem refAll_any (n : Int) (w : World) (h0 : -9223372036854775808 ≤ n) (h1 : n ≤ 9223372036854775807) :
    Calls Tryd.prog 30 #[.int .i64 n] w fun e w' => e = .returned (.int .u64 (below n : Nat)) ∧ Below w.heap.size w w' := by
  go_enter Tryd.func30, Tryd.ntmps30
  go_wp2_with fail
  go_loopw [4] (fun i wr => ∃ k : Nat, k ≤ 64 ∧ i = .int .i64 k ∧ Row wr w.heap.size (fun p => decide (p < k) && decide ((p : Int) < n)) ∧ Below w.heap.size w wr)
    (fun i _ => 64 - (intOf i).toNat)
  case atStart =>
    refine ⟨0, Nat.zero_le _, rfl, ?_, (Below.refl _ _).alloc (Nat.le_refl _) _⟩
    refine Row.ext (f := fun _ => false) ?_ (fun i _ => by simp)
    exact ⟨Go.heap_alloc_new w _⟩
  case round =>
    obtain ⟨k, hk, rfl, h1, hnx⟩ := hrel
    by_cases hlt : k < 64
    · have c1 := h1.cell k hlt
      have f1 := h1.free k
      go_wp2
      go_roundw
      case rel =>
        refine ⟨k + 1, by omega, by go_num, ?_, hnx.setCell (Nat.le_refl _) _⟩
        refine (h1.set k _ hlt).ext (fun i hi => ?_)
        by_cases e : i = k
        · subst e; simp
        · rw [if_neg e]
          congr 1
          apply decide_eq_decide.2
          omega
      case measure => simp [intOf]; omega
    · have hk2 : k = 64 := by omega
      have h1' : Row wr w.heap.size (fun p => decide ((p : Int) < n)) := h1.ext (fun i hi => by rw [hk2]; simp [hi])
      clear hk2 h1
      go_wp2_with (refine wpList_load_row rfl 45 (.tmp 3) rfl w.heap.size rfl 45 (truths (fun p => decide ((p : Int) < n))) (0, 0) _ h1'.is Tryd.underlying45 rfl (Tryd.info45 _) ?_)
      refine (refSet_any _ _).mono ?_
      rintro e w3 ⟨rfl, hb3⟩
      go_wp2
      go_ret
      exact ⟨rfl, hnx.trans (hb3.mono hnx.size)⟩
end Go.Proofs.YtkcjfofnnkdpaaaDoor
