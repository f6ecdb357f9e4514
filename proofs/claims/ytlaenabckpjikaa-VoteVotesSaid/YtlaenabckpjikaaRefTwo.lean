/- The contracts of the document's own Both, Any, But, In, Has, All. -/
import Derived.Test.YtlaenabckpjikaaRefSet
set_option linter.unusedVariables false
set_option linter.unusedSimpArgs false
namespace Go.Proofs.Ytlaenabckpjikaa
open Go.RowKit

set_option maxHeartbeats 2000000 in
theorem refBoth_any (a b : Nat) (w : World) (ha : a < 18446744073709551616) (hb : b < 18446744073709551616) :
    Calls Try.prog 33 #[.int .u64 a, .int .u64 b] w fun e w' => e = .returned (.int .u64 (both a b : Nat)) ∧ Below w.heap.size w w' := by
  go_enter Try.func33, Try.ntmps33
  go_wp2_with fail
  refine (truths_any _ _ ha).mono ?_
  rintro e w1 ⟨rfl, hb1⟩
  go_wp2_with fail
  refine (truths_any _ _ hb).mono ?_
  rintro e w2 ⟨rfl, hb2⟩
  have hbw : Below w.heap.size w w2 := hb1.trans (hb2.mono hb1.size)
  have hz2 : w.heap.size ≤ w2.heap.size := hbw.size
  clear hb1 hb2
  go_wp2_with (first
    | (refine wpList_store_row rfl 71 (.tmp 5) (.tmp 9) rfl w2.heap.size (truths a.testBit) rfl rfl 71 _ (heap_alloc2_old w2 _ _) (Try.info45 _) (by rw [truths_size]; rfl) (truths_one _) ?_)
    | (refine wpList_store_row rfl 71 (.tmp 6) (.tmp 11) rfl (w2.heap.size + 1) (truths b.testBit) rfl rfl 71 _ ((setRow_other _ _ _ _ (by omega)).trans (heap_alloc2_new w2 _ _)) (Try.info45 _) (by rw [truths_size]; rfl) (truths_one _) ?_))
  go_loopw [7] (fun i wr => ∃ k : Nat, k ≤ 64 ∧ i = .int .i64 k ∧
      Row wr w2.heap.size (fun p => if p < k then (a.testBit p && b.testBit p) else a.testBit p) ∧ Row wr (w2.heap.size + 1) b.testBit ∧ Below w.heap.size w wr)
    (fun i _ => 64 - (intOf i).toNat)
  case atStart =>
    refine ⟨0, Nat.zero_le _, rfl, ?_, ?_, below_setRow (below_setRow ((hbw.alloc hz2 _).alloc (by simp; omega) _) _ _ hz2) _ _ (by omega)⟩
    · refine Row.ext (f := a.testBit) ?_ (fun i _ => by simp)
      exact Row.otherRow ⟨setRow_heap _ _ _ _ _ _ (heap_alloc2_old w2 _ _)⟩ _ (by omega)
    · exact ⟨setRow_heap _ _ _ _ _ _ ((setRow_other _ _ _ _ (by omega)).trans (heap_alloc2_new w2 _ _))⟩
  case round =>
    obtain ⟨k, hk, rfl, h1, h2, hnx⟩ := hrel
    by_cases hlt : k < 64
    · have c1 := h1.cell k hlt
      rw [if_neg (Nat.lt_irrefl k)] at c1
      have c2 := h2.cell k hlt
      have f1 := h1.free k
      have fin : ∀ v : Bool, v = (fun p => (a.testBit p && b.testBit p)) k → Row (wr.setCell ⟨w2.heap.size, k, none⟩ (.bool v)) w2.heap.size (fun p => if p < k + 1 then (a.testBit p && b.testBit p) else a.testBit p) := fun v hv => by
        refine (h1.set k v hlt).ext (fun i hi => ?_)
        by_cases e : i = k
        · subst e; rw [if_pos rfl, if_pos (by omega), hv]
        · rw [if_neg e]
          by_cases e2 : i < k
          · rw [if_pos e2, if_pos (by omega)]
          · rw [if_neg e2, if_neg (by omega)]
      have FIN := Lib.hid fin
      clear fin
      cases hx : a.testBit k with
      | true =>
        cases hy : b.testBit k with
        | true =>
          rw [hx] at c1; rw [hy] at c2
          have HX := Lib.hid hx; have HY := Lib.hid hy
          clear hx hy
          go_wp2
          go_roundw
          case rel => exact ⟨k + 1, by omega, by go_num, FIN.out _ (by simp [HX.out, HY.out]), h2.other _ _ (by omega), hnx.setCell hz2 _⟩
          case measure => simp [intOf]; omega
        | false =>
          rw [hx] at c1; rw [hy] at c2
          have HX := Lib.hid hx; have HY := Lib.hid hy
          clear hx hy
          go_wp2
          go_roundw
          case rel => exact ⟨k + 1, by omega, by go_num, FIN.out _ (by simp [HX.out, HY.out]), h2.other _ _ (by omega), hnx.setCell hz2 _⟩
          case measure => simp [intOf]; omega
      | false =>
        cases hy : b.testBit k with
        | true =>
          rw [hx] at c1; rw [hy] at c2
          have HX := Lib.hid hx; have HY := Lib.hid hy
          clear hx hy
          go_wp2
          go_roundw
          case rel => exact ⟨k + 1, by omega, by go_num, FIN.out _ (by simp [HX.out, HY.out]), h2.other _ _ (by omega), hnx.setCell hz2 _⟩
          case measure => simp [intOf]; omega
        | false =>
          rw [hx] at c1; rw [hy] at c2
          have HX := Lib.hid hx; have HY := Lib.hid hy
          clear hx hy
          go_wp2
          go_roundw
          case rel => exact ⟨k + 1, by omega, by go_num, FIN.out _ (by simp [HX.out, HY.out]), h2.other _ _ (by omega), hnx.setCell hz2 _⟩
          case measure => simp [intOf]; omega
    · have hk2 : k = 64 := by omega
      have h1' : Row wr w2.heap.size (fun p => (a.testBit p && b.testBit p)) := h1.ext (fun i hi => by rw [hk2, if_pos hi])
      clear hk2 h1
      go_wp2_with (with_reducible refine wpList_load_row rfl 71 (.tmp 5) rfl w2.heap.size rfl 71 (truths (fun p => (a.testBit p && b.testBit p))) (0, 0) _ h1'.is Try.underlying71 rfl (Try.info45 _) ?_)
      refine (refSet_any _ _).mono ?_
      rintro e w3 ⟨rfl, hb3⟩
      go_wp2
      go_ret
      exact ⟨rfl, hnx.trans (hb3.mono hnx.size)⟩

end Go.Proofs.Ytlaenabckpjikaa
