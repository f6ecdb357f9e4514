/- The contracts of the document's own List, Size, Min, Most, Same, Of. -/
import Derived.Test.YtlaenabckpjikaaRefTwo
import Derived.RegionTactic
set_option linter.unusedVariables false
set_option linter.unusedSimpArgs false
namespace Go.Proofs.Ytlaenabckpjikaa
open Go.RowKit

theorem Row.grown {w w' : World} {g : Nat} {f : Nat → Bool} (h : Row w g f) {row : Option Nat} (hg : w.grownBy w' row) (hne : row ≠ some g) : Row w' g f :=
  ⟨by rw [hg.block g (Array.getElem?_eq_some_iff.1 h.is).1 (fun e => hne e.symm)]; exact h.is⟩

/-- A slice of the call's own, nil or not, whose elements are the numbers L. -/
theorem InI.owned {w : World} {base n : Nat} {v : Value} {L : List Nat} (h : w.ownsRow base 3 1 v n (cellsI L)) (hL : ∀ p ∈ L, p < 64) : ∃ ao c, v = .slice ao n c ∧ InI w ao n (ints L) := by
  rcases h.2 with ⟨rfl, rfl⟩ | ⟨g, cap, cur, rfl, rest⟩
  · refine ⟨none, 0, rfl, ?_⟩
    have : L = [] := by have := h.1; simpa [cellsI] using this
    subst this
    exact ⟨rfl, fun j v hj => by simp [ints] at hj, fun v hv => by simp [ints] at hv⟩
  · exact ⟨some ⟨g, 0, none⟩, cap, rfl, InI.own (base := base) ⟨h.1, .inr ⟨g, cap, cur, rfl, rest⟩⟩ hL⟩

/-- A list's answer. -/
def Lists (a : Nat) (w : World) (e : Ending) (w' : World) : Prop := ∃ ao c, e = .returned (.slice ao (card a) c) ∧ InI w' ao (card a) (ints (lst a)) ∧ Below w.heap.size w w'

set_option maxHeartbeats 2000000 in
theorem refList_any (a : Nat) (w : World) (ha : a < 18446744073709551616) :
    Calls Try.prog 35 #[.int .u64 a] w (Lists a w) := by
  obtain ⟨i0, hi, hz0, hz1, hz2⟩ := info_parts Try.info64
  have HF := Lib.hid (flt_le a)
  have HLN := Lib.hid (lst_length a)
  have HCL := Lib.hid (card_le a)
  go_enter Try.func35, Try.ntmps35
  go_wp2_with fail
  refine (truths_any _ _ ha).mono ?_
  rintro e w1 ⟨rfl, hb1⟩
  have hz := hb1.size
  go_wp2_with (refine wpList_store_row rfl 71 (.tmp 4) (.tmp 7) rfl w1.heap.size (truths a.testBit) rfl rfl 71 _ (heap_alloc_new w1 _) (Try.info45 _) (by rw [truths_size]; rfl) (truths_one _) ?_)
  go_loopw [3, 5] (fun out si wr => ∃ k : Nat, k ≤ 64 ∧ si = .int .i64 k ∧ wr.ownsRow (w1.heap.size + 1) 3 1 out (flt a k).length (cellsI (flt a k)) ∧ Row wr w1.heap.size a.testBit ∧ w1.heap.size < wr.heap.size ∧ Below w.heap.size w wr)
    (fun _ si _ => 64 - (intOf si).toNat)
  case atStart => exact ⟨0, Nat.zero_le _, rfl, World.ownsRow_nil _ _ _ _, ⟨setRow_heap _ _ _ _ _ _ (heap_alloc_new w1 _)⟩, by simp, below_setRow (hb1.alloc hz _) _ _ hz⟩
  case round =>
    obtain ⟨k, hk, rfl, hown, hrow, hsz, hnx⟩ := hrel
    by_cases hlt : k < 64
    · have hc := hrow.cell k hlt
      cases hb : a.testBit k with
      | true =>
        rw [hb] at hc
        have HY := Lib.hid (flt_yes a k hb)
        have hq := Nat.le_trans (HF.out k hk) HCL.out
        clear hb
        generalize hqq : (flt a k).length = q at *
        have HQ := Lib.hid hqq
        clear hqq
        go_wp2_with (at_builtin; refine wpList_append_own _ rfl (.tmp 15) (.tmp 17) 69 rfl (w1.heap.size + 1) 3 i0 (.int .i64 0) 1 8 Try.underlying69 hi hz0 hz1 hz2 rfl (by decide) _ q _ rfl (hown.alloc _) ⟨wr.heap.size, 0, none⟩ 1 1 [.int .i64 (k : Int)] rfl rfl (cell_one_new _ _ _) (by simp [Value.oneCell']) (by unfold maxLen; omega) (by omega) (by simp; omega) ?_; intro v1 w2 hown1 hgrow1 hnil1)
        replace hgrow1 : (wr.alloc (.cells #[.int .i64 (k : Int)] 3)).grownBy w2 u3.ownBlock := hgrow1
        clear hnil1
        have hne : u3.ownBlock ≠ some w1.heap.size := fun e => by have := (hown.lt _ e).1; omega
        have hrow2 : Row w2 w1.heap.size a.testBit := (hrow.alloc _).grown hgrow1 hne
        have hsz2 : w1.heap.size < w2.heap.size := by have := hgrow1.size; simp at this; omega
        have hnx2 : Below w.heap.size w w2 := (hnx.alloc hnx.size _).grown hgrow1 (by simp; have := hnx.size; omega) (fun k hk => by have := (hown.lt _ hk).1; omega)
        go_roundw
        case rel =>
          refine ⟨k + 1, by omega, by go_num, ?_, hrow2, hsz2, hnx2⟩
          rw [HY.out, List.length_append, HQ.out, show cellsI (flt a k ++ [k]) = cellsI (flt a k) ++ [.int .i64 (k : Int)] by simp [cellsI]]
          exact hown1
        case measure => simp [intOf]; omega
      | false =>
        rw [hb] at hc
        have HY := Lib.hid (flt_no a k hb)
        clear hb
        go_wp2
        go_roundw
        case rel => exact ⟨k + 1, by omega, by go_num, by rw [HY.out]; exact hown, hrow, hsz, hnx⟩
        case measure => simp [intOf]; omega
    · have hk2 : k = 64 := by omega
      have e1 : flt a k = lst a := by rw [hk2]; rfl
      rw [e1, HLN.out] at hown
      obtain ⟨ao, c, rfl, hin⟩ := InI.owned hown (fun p hp => ((lst_mem a p).1 hp).1)
      clear hk2 e1 hown
      go_wp2
      go_ret
      exact ⟨ao, c, rfl, hin, hnx⟩

theorem refSize_any (a : Nat) (w : World) (ha : a < 18446744073709551616) :
    Calls Try.prog 32 #[.int .u64 a] w fun e w' => e = .returned (.int .i64 (card a)) ∧ Below w.heap.size w w' := by
  go_enter Try.func32, Try.ntmps32
  go_wp2_with fail
  refine (refList_any _ _ ha).mono ?_
  rintro e w1 ⟨ao, c, rfl, hin, hb1⟩
  go_wp2
  go_ret
  exact ⟨rfl, hb1⟩
theorem refMost_any (a b : Nat) (w : World) (ha : a < 18446744073709551616) (hb : b < 18446744073709551616) :
    Calls Try.prog 28 #[.int .u64 a, .int .u64 b] w fun e w' => e = .returned (.bool (most a b)) ∧ Below w.heap.size w w' := by
  have c1 := card_le (both a b)
  have c2 := card_le b
  have hl := both_lt a b
  have M := Lib.hid (most_cast a b)
  go_enter Try.func28, Try.ntmps28
  go_wp2_with fail
  refine (refBoth_any _ _ _ ha hb).mono ?_
  rintro e w1 ⟨rfl, hb1⟩
  go_wp2_with fail
  refine (refSize_any _ _ hl).mono ?_
  rintro e w2 ⟨rfl, hb2⟩
  go_wp2_with fail
  refine (refSize_any _ _ hb).mono ?_
  rintro e w3 ⟨rfl, hb3⟩
  go_wp2
  go_ret
  exact ⟨by rw [← M.out, Int.mul_comm]; rfl, (hb1.trans (hb2.mono hb1.size)).trans (hb3.mono (Nat.le_trans hb1.size hb2.size))⟩
end Go.Proofs.Ytlaenabckpjikaa
