/- The answers that the document fixes first (layer 7). -/
import Derived.Test.YtpbeohonohcgdaaRNetTurn
set_option linter.unusedVariables false
set_option linter.unusedSimpArgs false
namespace Go.Proofs.YtpbeohonohcgdaaR
open Go.RowKit Go.Sort

def D1 : Dg := ⟨1, 2, { data := #[97, 98] }, false⟩
def D2 : Dg := ⟨1, 2, { data := #[97, 99] }, true⟩
def D3 : Dg := ⟨0, 1, { data := #[] }, false⟩
def links3 : List Nat := 7 :: 7 :: 7 :: List.replicate 61 0
def linksC : List Nat := 1 :: 6 :: 6 :: List.replicate 61 0
theorem new3 : newN 3 = ⟨7, links3, []⟩ := by
  have h1 : below 3 = 7 := by decide +kernel
  have h2 : healL 7 (List.replicate 64 0) = links3 := by decide +kernel
  unfold newN
  rw [h1, h2]
theorem cut3 : cutL links3 1 = linksC := by decide +kernel
theorem turn1 : turnD D1 1 1 = D2 := by
  have h : (nats { data := #[97, 98] }).set 1 ((nats { data := #[97, 98] }).getD 1 0 ^^^ 1) = [97, 99] := by decide +kernel
  unfold turnD turnS D1 D2
  rw [h]
  rfl
theorem send1 : sendC ⟨7, links3, []⟩ D1 = 0 := by decide +kernel
theorem send3 : sendC ⟨7, linksC, [D2]⟩ D3 = 5 := by decide +kernel
theorem link12 (R : List Dg) : linkedB ⟨7, linksC, R⟩ 1 2 = true := by
  show linkedB ⟨7, linksC, []⟩ 1 2 = true
  decide +kernel
theorem link01 (R : List Dg) : linkedB ⟨7, linksC, R⟩ 0 1 = false := by
  show linkedB ⟨7, linksC, []⟩ 0 1 = false
  decide +kernel
theorem ofl0 : ofl [0] = 1 := by decide +kernel
theorem D1_ok : D1.ok := ⟨by decide, by decide, by decide, by decide, by decide⟩
theorem D3_ok : D3.ok := ⟨by decide, by decide, by decide, by decide, by decide⟩
/-- 'Of' of numbers that were just laid. -/
theorem nof_new (zs : List Int) (g len c : Nat) (r : Int) (w : World) (cs : Array Value) (hg : w.heap[g]? = some (.cells cs 3 (0, 0))) (hcs : cs = (zs.map (Value.int .i64)).toArray) (hz : zs.length = len) (hr : ((ofl zs : Nat) : Int) = r)
    (hb : ∀ v ∈ zs, -9223372036854775808 ≤ v ∧ v ≤ 9223372036854775807) (hl : len ≤ 1000) :
    Calls Try.prog 23 #[.slice (some ⟨g, 0, none⟩) len c] w fun e w' => e = .returned (.int .u64 r) ∧ w = w' := by
  subst hr
  refine of_any _ _ _ zs w ⟨hz, fun j v hj => ⟨_, rfl, ?_⟩, hb⟩ (by omega)
  rw [show (⟨g, 0, none⟩ : Addr).add j = ⟨g, j, none⟩ by cases j <;> simp [Addr.add], cell_of_row w g j _ _ _ hg, hcs]
  simp [hj]

set_option maxHeartbeats 4000000 in
theorem nawake (w : World) : Calls Try.prog 7 #[] w fun e w' => e = .returned (.bool true) ∧ Below w.heap.size w w' := by
  have h1 : Hid (Calls Try.prog 9 #[.int .i64 3] w fun e w' => e = .returned (.pointer (some ⟨w.heap.size, 0, none⟩)) ∧ NetAt w' w.heap.size w.heap.size ⟨7, links3, []⟩ none 0 ∧ Go.RowKit.Below w.heap.size w w') := Lib.hid (by have := nnew 3 w (by decide) (by decide); rw [new3] at this; exact this)
  go_enter Try.func7, Try.ntmps7
  go_upto_region 2 with (go_at_call 9; refine h1.out.mono ?_; rintro e w1 ⟨rfl, A1, L1⟩)
  have h2 : Hid (Calls Try.prog 21 #[.pointer (some ⟨w.heap.size, 0, none⟩), .agg #[.int .i64 1, .int .i64 2, .string { data := #[97, 98] }, .bool false]] w1 fun e w' => e = .returned (.int .i64 0) ∧ ∃ ao' cap', NetAt w' w.heap.size w.heap.size ⟨7, links3, [D1]⟩ ao' cap' ∧ Moved w1 w' w.heap.size none ao') := Lib.hid (nsend_ok A1 D1 D1_ok send1)
  have A1' := Lib.hid A1
  clear A1 h1
  go_upto_region 5 with (go_at_call 21; refine h2.out.mono ?_; rintro e w2 ⟨rfl, ao, cap, A2, M2⟩)
  have L2 := L1.trans (M2.below A1'.out (Nat.le_refl _))
  clear A1' M2 L1 h2
  have h3 : Hid (Calls Try.prog 22 #[.pointer (some ⟨w.heap.size, 0, none⟩), .int .i64 0, .int .i64 1, .int .u8 1] w2 fun e w' => e = .returned (.bool true) ∧ NetAt w' w.heap.size w.heap.size ⟨7, links3, [D2]⟩ ao cap ∧ Moved w2 w' w.heap.size ao ao) :=
    Lib.hid (by have := nturn_yes A2 0 D1 rfl 1 1 (by decide) rfl (by intro e; cases e) (by decide) 1 1 (by decide) (by decide) (by decide); rw [turn1] at this; exact this)
  go_upto_region 6 with (go_at_call 22; refine h3.out.mono ?_; rintro e w3 ⟨rfl, A3, M3⟩)
  have L3 := L2.trans (M3.below A2 (Nat.le_refl _))
  clear A2 M3 L2 h3
  have h4 : Hid (Calls Try.prog 22 #[.pointer (some ⟨w.heap.size, 0, none⟩), .int .i64 0, .int .i64 1, .int .u8 1] w3 fun e w' => e = .returned (.bool false) ∧ Go.RowKit.Below w3.heap.size w3 w') :=
    Lib.hid (nturn_no A3 0 D2 rfl 1 1 (by decide) (.inl rfl))
  go_upto_region 7 with (go_at_call 22; refine h4.out.mono ?_; rintro e w4 ⟨rfl, L4⟩)
  have A4 := A3.below L4
  have L4 := L3.trans (L4.mono L3.size)
  clear A3 L3 h4
  have A4 := (A4.below ((Grw.refl w4).alloc (.cells #[.int .i64 0] 3)).below)
  have L4 := L4.trans (((Grw.refl w4).alloc (.cells #[.int .i64 0] 3)).below.mono L4.size)
  have h5 := Lib.hid (nof_new [0] w4.heap.size 1 1 1 (w4.alloc (.cells #[.int .i64 0] 3)) #[.int .i64 0] (heap_alloc_new w4 _) rfl rfl (by rw [ofl0]; rfl) (by simp) (by decide))
  have h6 : Hid (Calls Try.prog 15 #[.pointer (some ⟨w.heap.size, 0, none⟩), .int .u64 1] (w4.alloc (.cells #[.int .i64 0] 3)) fun e w' => e = .returned (.tuple #[]) ∧ NetAt w' w.heap.size w.heap.size ⟨7, linksC, [D2]⟩ ao cap ∧ Moved (w4.alloc (.cells #[.int .i64 0] 3)) w' w.heap.size ao ao) :=
    Lib.hid (by have := ncut A4 1 (by decide); rw [cut3] at this; exact this)
  go_upto_region 8 with (first | (go_at_call 23; refine h5.out.mono ?_; rintro e w' ⟨rfl, rfl⟩) | (go_at_call 15; refine h6.out.mono ?_; rintro e w5 ⟨rfl, A5, M5⟩))
  have L5 := L4.trans (M5.below A4 (Nat.le_refl _))
  clear A4 M5 L4 h5 h6
  have h7 : Hid (Calls Try.prog 21 #[.pointer (some ⟨w.heap.size, 0, none⟩), .agg #[.int .i64 0, .int .i64 1, .string { data := #[] }, .bool false]] w5 fun e w' => e = .returned (.int .i64 5) ∧ Go.RowKit.Below w5.heap.size w5 w') := Lib.hid (nsend_no A5 D3 D3_ok 5 send3 (by decide))
  go_upto_region 9 with (go_at_call 21; refine h7.out.mono ?_; rintro e w6 ⟨rfl, L6⟩)
  have A6 := A5.below L6
  have L6 := L5.trans (L6.mono L5.size)
  clear A5 L5 h7
  have h8 : Hid (Calls Try.prog 11 #[.pointer (some ⟨w.heap.size, 0, none⟩), .int .i64 0] w6 fun e w' => e = .returned (.tuple #[.agg #[.int .i64 1, .int .i64 2, .string { data := #[97, 99] }, .bool true], .bool true]) ∧ NetAt w' w.heap.size w.heap.size ⟨7, linksC, []⟩ ao cap ∧ Moved w6 w' w.heap.size ao ao) :=
    Lib.hid (by have := ntake_yes A6 0 D2 rfl; unfold takenV at this; rw [show linkedB ⟨7, linksC, [D2]⟩ D2.frm D2.to = true from link12 _, if_pos rfl] at this; exact this)
  go_upto_region 10 with (first | (go_at_call 11; refine h8.out.mono ?_; rintro e w7 ⟨rfl, A7, M7⟩) | (refine store_dg rfl (.tmp 6) (.tmp 28) rfl w7.heap.size 1 2 { data := #[97, 99] } true rfl rfl (DgB.new w7 0 0 { data := #[] } false) ?_))
  have L7 := L6.trans (M7.below A6 (Nat.le_refl _))
  clear A6 M7 L6 h8
  rw [putD_is]
  have A8 := A7.below (putD_below w7 1 2 { data := #[97, 99] } true)
  have L8 := L7.trans ((putD_below w7 1 2 { data := #[97, 99] } true).mono L7.size)
  have Y8 := putD_at w7 1 2 { data := #[97, 99] } true
  generalize putD w7 1 2 { data := #[97, 99] } true = w8 at *
  generalize w7.heap.size = r at *
  have y2 := Y8.c2
  have y3 := Y8.c3
  have g1 := nlen A8
  have g2 := nlinked A8 1 2 (by decide) (by decide) (by decide) (by decide)
  have g3 := nlinked A8 0 1 (by decide) (by decide) (by decide) (by decide)
  rw [link12] at g2
  rw [link01] at g3
  have g1 : Hid (Calls Try.prog 19 #[.pointer (some ⟨w.heap.size, 0, none⟩)] w8 fun e w' => e = .returned (.int .i64 0) ∧ w8 = w') := Lib.hid g1
  have g2 := Lib.hid g2
  have g3 := Lib.hid g3
  have L8 := Lib.hid L8
  clear A7 L7 A8 Y8
  go_wp2_with (first | (go_at_call 19; refine g1.out.mono ?_; rintro e w' ⟨rfl, rfl⟩) | (go_at_call 13; (first | ((with_reducible refine g2.out.mono ?_); rintro e w' ⟨rfl, rfl⟩) | ((with_reducible refine g3.out.mono ?_); rintro e w' ⟨rfl, rfl⟩))))
  go_ret
  exact ⟨rfl, L8.out⟩
end Go.Proofs.YtpbeohonohcgdaaR
