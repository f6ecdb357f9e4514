/- Lag, Copy. -/
import Derived.Test.YtlmajpckgjnbdaaLinkRoom
import Derived.Deep.WholeRow
import Derived.Laws.Rows
set_option linter.unusedVariables false
set_option linter.unusedSimpArgs false
namespace Go.Proofs.Ytlmajpckgjnbdaa
open Go.RowKit Go.Sort

def lagB (W : Wn) (p : Nat) : Bool := W.oth.testBit p && decide (W.got p < W.sent)
theorem lagB_in (W : Wn) : lagN W = num (lagB W) := rfl
set_option maxHeartbeats 4000000 in
theorem llag {w : World} {g : Nat} {W : Wn} (h : LkAt w g W) :
    Calls Try.prog 19 #[.pointer (some ⟨g, 0, none⟩)] w fun e w' => e = .returned (.int .u64 (lagN W : Nat)) ∧ Below w.heap.size w w' := by
  have HR := Lib.hid h.range
  have HC := Lib.hid (rowG_length W.got)
  have HK := Lib.hid (fun k (h1 : 64 ≤ k) (h2 : k ≤ 64) => setK_all (lagB W) k h1 h2)
  have HY := Lib.hid (setK_yes (lagB W))
  have HN := Lib.hid (setK_no (lagB W))
  have olt := h.ok.inv.olt
  have hidx : Hid (∀ k : Nat, k < 64 → ∀ V, (Instr.index 30 (.agg (rowG W.got).toArray) (.int .i64 (k : Int))).run Try.prog V = .ok (.int .u32 (W.got k : Int)) V) := Lib.hid (fun k hk V => index_got W.got k hk V)
  have HA := Lib.hid h
  generalize rowG W.got = C at *
  clear h
  go_enter Try.func19, Try.ntmps19
  go_wp2_with (with_reducible refine wpList_load_mid rfl 30 (.tmp 8) rfl g 4 rfl C _ HR.out Try.underlying30 rfl (by rw [HC.out]; exact g64_size) ?_)
  clear HR HC
  go_loopw [3, 10] (fun s i wr => ∃ k : Nat, k ≤ 64 ∧ i = .int .i64 k ∧ s = .int .u64 (setK (lagB W) k : Nat) ∧ Below w.heap.size w wr) (fun _ i _ => 64 - (intOf i).toNat)
  case atStart => exact ⟨0, Nat.zero_le _, rfl, rfl, Below.refl _ _⟩
  case round =>
    obtain ⟨k, hk, rfl, rfl, L⟩ := hrel
    have A := HA.out.below L
    by_cases hlt : k < 64
    · have hx := Lib.hid (hidx.out k hlt)
      have hy := Lib.hid (HY.out k)
      have hn := Lib.hid (HN.out k)
      have M := has_any W.oth (k : Int) wr olt (by omega) (by omega)
      rw [mem_lt hlt] at M
      have hbd : Hid (lagB W k = (W.oth.testBit k && decide (W.got k < W.sent))) := Lib.hid rfl
      have HL := Lib.hid L
      have c1 := A.c1
      have c3 := A.c3
      clear A L
      cases hb : W.oth.testBit k with
      | false =>
        rw [hb] at M
        have e := Lib.hid (hn.out (by rw [hbd.out, hb]; rfl))
        clear hb HY HN hy hn hbd c3
        generalize W.got k = r at *
        go_wp2_with (first | (with_reducible refine step_index rfl 30 (.tmp 9) (.tmp 10) rfl (.agg C.toArray) (.int .i64 (k : Int)) (.int .u32 (r : Int)) rfl rfl (hx.out _) ?_) | (go_at_call 28; refine M.mono ?_; rintro e w' ⟨rfl, rfl⟩))
        go_roundw
        case rel => exact ⟨k + 1, by omega, by go_num, by rw [e.out], HL.out⟩
        case measure => simp [intOf]; omega
      | true =>
        rw [hb] at M
        cases hd : decide (W.got k < W.sent) with
        | false =>
          have e := Lib.hid (hn.out (by rw [hbd.out, hb, hd]; rfl))
          clear hb HY HN hy hn hbd
          generalize W.got k = r at *
          go_wp2_with (first | (with_reducible refine step_index rfl 30 (.tmp 9) (.tmp 10) rfl (.agg C.toArray) (.int .i64 (k : Int)) (.int .u32 (r : Int)) rfl rfl (hx.out _) ?_) | (go_at_call 28; refine M.mono ?_; rintro e w' ⟨rfl, rfl⟩))
          go_roundw
          case rel => exact ⟨k + 1, by omega, by go_num, by rw [e.out], HL.out⟩
          case measure => simp [intOf]; omega
        | true =>
          have e := Lib.hid (hy.out (by rw [hbd.out, hb, hd]; rfl))
          have hslt := setK_lt (lagB W) k
          have HWi := with_any (setK (lagB W) k) (some ⟨wr.heap.size, 0, none⟩) 1 1 [(k : Int)] _ hslt (InI.one wr (k : Int) (by omega) (by omega)) (by decide)
          rw [ofl_one, ← e.out] at HWi
          clear hb HY HN hy hn hbd
          generalize W.got k = r at *
          go_wp2_with (first | (with_reducible refine step_index rfl 30 (.tmp 9) (.tmp 10) rfl (.agg C.toArray) (.int .i64 (k : Int)) (.int .u32 (r : Int)) rfl rfl (hx.out _) ?_) | (go_at_call 28; refine M.mono ?_; rintro e w' ⟨rfl, rfl⟩) | (go_at_call 29; refine HWi.mono ?_; rintro e w' ⟨rfl, rfl⟩))
          go_roundw
          case rel => exact ⟨k + 1, by omega, by go_num, rfl, HL.out.trans (((Grw.refl wr).alloc _).below.mono HL.out.size)⟩
          case measure => simp [intOf]; omega
    · have HZ := Lib.hid (HK.out k (by omega) hk)
      have HL := Lib.hid L
      clear A L olt
      go_wp2
      go_ret
      exact ⟨by rw [HZ.out]; rfl, HL.out⟩
theorem lk_size : (Try.prog.info? 59).map (·.size) = some 68 := by kernel_rfl
theorem lk_zero (w : World) : (zeroValue 59).run Try.prog w = .ok (.agg (Wn.cells ⟨0, 0, 0, 0, fun _ => 0⟩).toArray) w := by kernel_rfl
theorem cells_one (W : Wn) : W.cells.toArray.all (·.oneCell') = true := by
  simp [Wn.cells, rowG, Value.oneCell']
theorem lbelowRow {B : Nat} {a w : World} (h : Go.RowKit.Below B a w) (g : Nat) (hg : B ≤ g) (cs : Array Value) : Go.RowKit.Below B a (w.setRow g cs) :=
  ⟨h.os, h.tape, h.output, by rw [size_setRow]; exact h.size, fun k hk => (setRow_other _ _ _ _ (by omega)).trans (h.block k hk)⟩
theorem step_alloc {ops : Array Oper} {rest : List Oper} {o : Oper} {a : Act} {w : World} {Q : Exit → Act → World → Prop} (hgd : o.guard = none) (ty : TypeId) (ho : o.op = .alloc ty)
    (Z : Array Value) (hz : (zeroValue ty).run Try.prog w = .ok (.agg Z) w)
    (h : wpList Try.prog ops Q rest (a.put o.dst (.pointer (some ⟨w.heap.size, 0, none⟩))) (w.alloc (.cells Z ty))) : wpList Try.prog ops Q (o :: rest) a w :=
  wpList_plain hgd fun _ hK => by
    unfold Oper.wp execOp
    simp only [ho]
    simp [Instr.alloc, hz, go_sem]
    exact hK _ _ h
set_option maxHeartbeats 4000000 in
theorem lcopy {w : World} {g : Nat} {W : Wn} (h : LkAt w g W) :
    Calls Try.prog 26 #[.pointer (some ⟨g, 0, none⟩)] w fun e w' => e = .returned (.pointer (some ⟨w.heap.size, 0, none⟩)) ∧ LkAt w' w.heap.size W ∧ Below w.heap.size w w' := by
  have HO := Lib.hid h.own
  have HZ := Lib.hid (show (Wn.cells ⟨0, 0, 0, 0, fun _ => 0⟩).toArray.size = W.cells.toArray.size by simp [Wn.cells_length])
  have HS := Lib.hid (show (Try.prog.info? 59).map (·.size) = some W.cells.toArray.size by rw [lk_size]; simp [Wn.cells_length])
  have H1 := Lib.hid (cells_one W)
  have hz := Lib.hid lk_zero
  generalize (Wn.cells ⟨0, 0, 0, 0, fun _ => 0⟩).toArray = Z at *
  have HN := Lib.hid (Own.new w 59 Z)
  have HF : Hid (LkAt ((w.alloc (.cells Z 59)).setRow w.heap.size W.cells.toArray) w.heap.size W) := Lib.hid ⟨setRow_heap _ _ _ _ _ _ HN.out, h.ok⟩
  have HB : Hid (Below w.heap.size w ((w.alloc (.cells Z 59)).setRow w.heap.size W.cells.toArray)) := Lib.hid (lbelowRow ((Grw.refl w).alloc _).below _ (Nat.le_refl _) _)
  clear h
  generalize W.cells.toArray = C at *
  go_enter Try.func26, Try.ntmps26
  go_wp2_with (first | (with_reducible refine step_alloc rfl 59 rfl Z (hz.out _) ?_) | (refine wpList_load_row rfl 59 (.tmp 5) rfl g rfl 59 C (0, 0) _ HO.out Try.underlying59 rfl HS.out ?_) | (refine wpList_store_row rfl 59 (.tmp 3) (.tmp 6) rfl w.heap.size C rfl rfl 59 _ HN.out HS.out HZ.out H1.out ?_))
  go_ret
  exact ⟨rfl, HF.out, HB.out⟩
end Go.Proofs.Ytlmajpckgjnbdaa
