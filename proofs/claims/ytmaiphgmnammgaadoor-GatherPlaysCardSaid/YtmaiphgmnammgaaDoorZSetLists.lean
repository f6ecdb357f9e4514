/- The contract of the program's own List: the members, rising, in new memory. -/
import Derived.Test.YtmaiphgmnammgaaDoorZPops
set_option linter.unusedVariables false
set_option maxRecDepth 100000
set_option linter.unusedSimpArgs false
namespace Go.Proofs.YtmaiphgmnammgaaDoor
open Go.RowKit

theorem Tryd.info64 : (Tryd.prog.info? 3).map (fun i => (i.zero, i.size, i.bytes)) = some (some (.int .i64 0), 1, 8) := by kernel_rfl

/-- 'make([]int, n, c)': a new row of zeros. -/
theorem makesI (n c : Nat) (hnc : n ≤ c) (hc : c ≤ 1048576) (W : World) :
    (Instr.makeSlice 76 (.int .i64 (n : Int)) (.int .i64 (c : Int))).run Tryd.prog W = .ok (.slice (some ⟨W.heap.size, 0, none⟩) n c) (W.alloc (.cells (List.replicate c (Value.int .i64 0)).toArray 3)) := by
  obtain ⟨i0, hi, hz0, hz1, hz2⟩ := info_parts Tryd.info64
  have h := run_make (P := Tryd.prog) W 76 3 i0 (.int .i64 0) Tryd.underlying76 hi hz0 .i64 .i64 (n : Int) (c : Int) (by omega) (by omega) (by rw [hz2]; omega) (by omega)
  have e : madeCells (Value.int .i64 0).cells ((c : Int).toNat * 1) = (List.replicate c (Value.int .i64 0)).toArray := by
    apply Array.ext'
    rw [Int.toNat_natCast, Nat.mul_one]
    exact toList_madeCells_one (.int .i64 0) c
  rw [hz1, e, Int.toNat_natCast, Int.toNat_natCast] at h
  exact h

/-- The first members, up to k. -/
def flt (a k : Nat) : List Nat := (List.range k).filter a.testBit
theorem flt_all (a : Nat) : flt a 64 = lst a := rfl
theorem flt_le (a k : Nat) (h : k ≤ 64) : (flt a k).length ≤ card a := by
  rw [← lst_length]
  unfold flt lst
  rw [show (64 : Nat) = k + (64 - k) by omega, List.range_add, List.filter_append, List.length_append]
  omega
theorem flt_yes (a k : Nat) (h : a.testBit k = true) : flt a (k + 1) = flt a k ++ [k] := by
  unfold flt; rw [List.range_succ, List.filter_append]; simp [h]
theorem flt_no (a k : Nat) (h : a.testBit k = false) : flt a (k + 1) = flt a k := by
  unfold flt; rw [List.range_succ, List.filter_append]; simp [h]
/-- Numbers as the cells that hold them. -/
def cellsI (l : List Nat) : List Value := l.map fun (p : Nat) => Value.int .i64 (p : Int)

/-- A row of the call's own reads as its numbers. -/
theorem InI.own {w : World} {base g n cap : Nat} {L : List Nat} (h : w.ownsRow base 3 1 (.slice (some ⟨g, 0, none⟩) n cap) n (cellsI L)) (hL : ∀ p ∈ L, p < 64) : InI w (some ⟨g, 0, none⟩) n (ints L) := by
  have hn : n = L.length := by have := h.1; simp [cellsI] at this; omega
  refine ⟨by simp [ints, hn], fun j v hj => ⟨_, rfl, ?_⟩, fun v hv => ?_⟩
  · have hlt : j < L.length := by
      have := (List.getElem?_eq_some_iff.1 hj).1
      simpa [ints] using this
    rw [show (⟨g, 0, none⟩ : Addr).add j = ⟨g, j, none⟩ by cases j <;> simp [Addr.add], h.cellAt j (by omega)]
    rw [ints, List.getElem?_map, List.getElem?_eq_getElem hlt] at hj
    rw [cellsI, List.getElem?_map, List.getElem?_eq_getElem hlt]
    cases hj
    rfl
  · obtain ⟨p, hp, rfl⟩ := List.mem_map.1 hv
    have := hL p hp
    simp only [Int.ofNat_eq_natCast]
    omega
theorem flt_lt (a k : Nat) (h : k ≤ 64) : ∀ p ∈ flt a k, p < 64 := fun p hp => by
  unfold flt at hp
  have := (List.mem_filter.1 hp).1
  have : p < k := by simpa using this
  omega

set_option maxHeartbeats 1000000 in
theorem list_any (a : Nat) (w : World) (ha : a < 18446744073709551616) :
    Calls Tryd.prog 42 #[.int .u64 a] w fun e w' =>
      e = .returned (.slice (some ⟨w.heap.size, 0, none⟩) (card a) (card a)) ∧ InI w' (some ⟨w.heap.size, 0, none⟩) (card a) (ints (lst a)) ∧ Below w.heap.size w w' := by
  obtain ⟨i0, hi, hz0, hz1, hz2⟩ := info_parts Tryd.info64
  have hcl := card_le a
  have HF := Lib.hid (flt_le a)
  have hln : (lst a).length = card a := lst_length a
  have HLN := Lib.hid hln
  clear hln
  obtain ⟨n, hn⟩ : ∃ n, n = card a := ⟨_, rfl⟩
  rw [← hn]
  have HN := Lib.hid hn
  rw [← hn] at hcl
  obtain ⟨C, hC⟩ : ∃ C, C = List.replicate n (Value.int .i64 0) := ⟨_, rfl⟩
  have hmk : ∀ W, (Instr.makeSlice 76 (.int .i64 0) (.int .i64 (n : Int))).run Tryd.prog W = .ok (.slice (some ⟨W.heap.size, 0, none⟩) 0 n) (W.alloc (.cells C.toArray 3)) := fun W => by
    rw [hC]; exact makesI 0 n (by omega) (by omega) W
  have hCs : C.length = n := by rw [hC, List.length_replicate]
  have HCs := Lib.hid hCs
  clear hC hCs hn
  go_enter Tryd.func42, Tryd.ntmps42
  go_wp2_with fail
  refine (size_any _ _ ha).mono ?_
  rintro e w' ⟨rfl, rfl⟩
  rw [← HN.out]
  go_wp2
  have hown : (w.alloc (.cells C.toArray 3)).ownsRow w.heap.size 3 1 (.slice (some ⟨w.heap.size, 0, none⟩) 0 n) 0 (cellsI (flt a 0)) := by
    refine ⟨by simp [cellsI, flt], .inr ⟨_, _, _, rfl, Nat.le_refl _, heap_alloc_new _ _, by omega, by unfold maxLen; omega, ?_, ?_⟩⟩
    · rw [List.size_toArray, HCs.out]; omega
    · simp [cellsI, flt]
  go_loopw [3, 8] (fun out si wr => ∃ k : Nat, k ≤ 64 ∧ si = .int .i64 k ∧ out = .slice (some ⟨w.heap.size, 0, none⟩) (flt a k).length n ∧
      wr.ownsRow w.heap.size 3 1 (.slice (some ⟨w.heap.size, 0, none⟩) (flt a k).length n) (flt a k).length (cellsI (flt a k)) ∧ Below w.heap.size w wr)
    (fun _ si _ => 64 - (intOf si).toNat)
  case atStart => exact ⟨0, Nat.zero_le _, rfl, rfl, hown, (Below.refl _ _).alloc (Nat.le_refl _) _⟩
  case round =>
    obtain ⟨k, hk, rfl, rfl, hown, hnx⟩ := hrel
    by_cases hlt : k < 64
    · have HM := Lib.hid (mem_nat a k hlt)
      cases hb : a.testBit k with
      | true =>
        have hm : mem a (k : Int) = true := by rw [HM.out, hb]
        have hf := HF.out (k + 1) (by omega)
        rw [flt_yes a k hb, List.length_append, ← HN.out] at hf
        have hroom : (flt a k).length + 1 ≤ n := by simpa using hf
        have HY := Lib.hid (flt_yes a k hb)
        clear hf hb
        generalize hq : (flt a k).length = q at *
        have HQ := Lib.hid hq
        clear hq
        go_wp2_with fail
        refine (has_any a k _ ha (by omega) (by omega)).mono ?_
        rintro e w' ⟨rfl, rfl⟩
        go_wp2_with (at_builtin; refine wpList_append_fits _ rfl (.tmp 14) (.tmp 16) 76 rfl w.heap.size 3 i0 1 Tryd.underlying76 hi hz1 w.heap.size q n _ rfl (hown.alloc _) ⟨wr.heap.size, 0, none⟩ 1 1 [.int .i64 (k : Int)] rfl rfl (cell_one_new _ _ _) (by simp [Value.oneCell']) (by omega) ?_; intro w1 hown1 hgrow1)
        go_roundw
        case rel =>
          refine ⟨k + 1, by omega, by go_num, ?_, ?_, (hnx.alloc hnx.size _).grown hgrow1 (by simp; have := hnx.size; omega) (fun k hk => by cases hk; exact Nat.le_refl _)⟩
          · rw [HY.out, List.length_append, HQ.out]; rfl
          · rw [HY.out, List.length_append, HQ.out]
            have : cellsI (flt a k ++ [k]) = cellsI (flt a k) ++ [.int .i64 (k : Int)] := by simp [cellsI]
            rw [this]
            exact hown1
        case measure => simp [intOf]; omega
      | false =>
        have hm : mem a (k : Int) = false := by rw [HM.out, hb]
        have HY := Lib.hid (flt_no a k hb)
        clear hb
        go_wp2_with fail
        refine (has_any a k _ ha (by omega) (by omega)).mono ?_
        rintro e w' ⟨rfl, rfl⟩
        go_wp2
        go_roundw
        case rel => exact ⟨k + 1, by omega, by go_num, by rw [HY.out], by rw [HY.out]; exact hown, hnx⟩
        case measure => simp [intOf]; omega
    · have hk2 : k = 64 := by omega
      have HK := Lib.hid hk2
      clear hk2
      go_wp2
      go_ret
      have e1 : flt a k = lst a := by rw [HK.out]; rfl
      have e2 : (flt a k).length = n := by rw [e1, HLN.out, HN.out]
      rw [e2] at hown
      have hin := InI.own hown (flt_lt a k hk)
      rw [e1] at hin
      exact ⟨by rw [e2]; rfl, hin, hnx⟩
end Go.Proofs.YtmaiphgmnammgaaDoor
