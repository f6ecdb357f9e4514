/- One act on a disk; the answers that the document fixes first. -/
import Derived.Test.YtimdemidnleiiaaDiskPut
set_option linter.unusedVariables false
set_option linter.unusedSimpArgs false
namespace Go.Proofs.Ytimdemidnleiiaa
open Go.RowKit Go.Sort

structure DAc.ok (x : DAc) : Prop where
  sz : x.data.size ≤ maxLen
  k0 : -9223372036854775808 ≤ x.keep
  k1 : x.keep ≤ 9223372036854775807
theorem dact {w : World} {g : Nat} {d : Dk} (h : DkAt w g d) (x : DAc) (hx : x.ok) :
    Calls Try.prog 10 #[.pointer (some ⟨g, 0, none⟩), .agg #[.string x.data, .bool x.tear, .int .i64 x.keep]] w fun e w' => e = .returned (.int .i64 (codeD x.data)) ∧ DkAt w' g (stepD d x) ∧ w.grownBy w' (some g) := by
  obtain ⟨s, t, k⟩ := x
  have hs := hx.sz
  simp only at hs ⊢
  clear hx
  have hg := h.lt
  cases t
  · have H := dwrite (h.below ((Grw.refl w).alloc (.cells #[.string s, .bool false, .int .i64 k] 30)).below) s hs
    have HB := Lib.hid (dgrown_below ((Grw.refl w).alloc (.cells #[.string s, .bool false, .int .i64 k] 30)).below (some g))
    rw [show stepD d ⟨s, false, k⟩ = writeD d s from rfl]
    clear h hs
    go_enter Try.func10, Try.ntmps10
    go_wp2_with fail
    refine H.mono ?_
    rintro e w1 ⟨rfl, A1, G1⟩
    go_wp2
    go_ret
    exact ⟨rfl, A1, dgrown_tr HB.out G1⟩
  · have H := dtear (h.below ((Grw.refl w).alloc (.cells #[.string s, .bool true, .int .i64 k] 30)).below) s k hs
    have HB := Lib.hid (dgrown_below ((Grw.refl w).alloc (.cells #[.string s, .bool true, .int .i64 k] 30)).below (some g))
    rw [show stepD d ⟨s, true, k⟩ = tearD d s k from rfl]
    clear h hs
    go_enter Try.func10, Try.ntmps10
    go_wp2_with fail
    refine H.mono ?_
    rintro e w1 ⟨rfl, A1, G1⟩
    go_wp2
    go_ret
    exact ⟨rfl, A1, dgrown_tr HB.out G1⟩

theorem whole_none : wholeB { data := #[] } = false := by
  unfold wholeB
  rw [ok_short _ (by decide)]
  rfl
theorem fnd0 : fndB newD0 = false := by
  unfold fndB newD0
  simp only
  rw [whole_none]
  rfl
theorem num0 : numD newD0 = 0 := (none_snd fnd0).2.1
theorem rec0 : recD newD0 = { data := #[] } := (none_snd fnd0).2.2.1
def sA : ByteArray := { data := #[97] }
def sB : ByteArray := { data := #[98] }
def sC : ByteArray := { data := #[99] }
def dA1 : Dk := writeD newD0 sA
def dA2 : Dk := tearD dA1 sB 5
def dA3 : Dk := writeD dA2 sC
theorem dA1_read : fndB dA1 = true ∧ recD dA1 = sA ∧ numD dA1 = 1 := by
  have h := write_read (d := newD0) (s := sA) (by decide) (by rw [num0]; decide)
  rw [num0] at h
  exact h
theorem dA2_read : fndB dA2 = true ∧ recD dA2 = sA ∧ numD dA2 = 1 := by
  obtain ⟨h1, h2, h3⟩ := tear_read dA1 sB 5
  obtain ⟨k1, k2, k3⟩ := dA1_read
  exact ⟨h1.trans k1, h2.trans k2, h3.trans k3⟩
theorem dA3_read : fndB dA3 = true ∧ recD dA3 = sC ∧ numD dA3 = 2 := by
  have h := write_read (d := dA2) (s := sC) (by decide) (by rw [dA2_read.2.2]; decide)
  rw [dA2_read.2.2] at h
  exact h
theorem dA1_a : dA1.a.size = 15 ∧ wholeB dA1.a = true ∧ dA1.b = { data := #[] } := by
  have hn : nextB newD0 = false := (none_snd fnd0).2.2.2
  have he : dA1 = ⟨bytesS (nextN newD0) sA, { data := #[] }⟩ := by
    unfold dA1 writeD
    rw [if_pos (by decide)]
    unfold slotD2
    rw [hn]
    rfl
  rw [he]
  exact ⟨bytesS_size _ _, (whole_bytes (nextN_lt _) (by decide)).1, rfl⟩
theorem dA1_next : nextB dA1 = true := by
  obtain ⟨_, h2, h3⟩ := dA1_a
  unfold nextB sndB
  rw [h2, h3, whole_none]
  rfl
theorem dA2_a : dA2.a = dA1.a ∧ wholeB dA2.b = false := by
  have he : dA2 = ⟨dA1.a, tornS (bytesS (nextN dA1) sB) 5⟩ := by
    unfold dA2 tearD
    rw [if_pos (by decide)]
    unfold slotD2
    rw [dA1_next, if_pos rfl]
  rw [he]
  exact ⟨rfl, torn_not (by decide) _ (keepN_lt _ (by rw [bytesS_size]; omega))⟩
theorem dA3_a : dA3.a.size = 15 := by
  have hn : nextB dA2 = true := by
    obtain ⟨h1, h2⟩ := dA2_a
    unfold nextB sndB
    rw [h1, h2, dA1_a.2.1]
    rfl
  have he : dA3.a = dA2.a := by
    unfold dA3 writeD
    rw [if_pos (by decide)]
    unfold slotD2
    rw [hn, if_pos rfl]
  rw [he, dA2_a.1]
  exact dA1_a.1

set_option maxHeartbeats 4000000 in
theorem dawake (w : World) : Calls Try.prog 7 #[] w fun e w' => e = .returned (.bool true) ∧ Below w.heap.size w w' := by
  have hn := dnew w
  go_enter Try.func7, Try.ntmps7
  go_wp2_with fail
  refine hn.mono ?_
  rintro e w1 ⟨rfl, A1, L1⟩
  clear hn
  have R1 := dread A1
  rw [rec0, fnd0] at R1
  have h1 := Lib.hid A1
  clear A1
  go_wp2_with fail
  refine R1.mono ?_
  rintro e w2 ⟨rfl, L2⟩
  have A2 := h1.out.below L2
  have LL := L1.trans (L2.mono L1.size)
  clear R1 h1 L1 L2
  have W2 : Hid (Calls Try.prog 17 #[.pointer (some ⟨w.heap.size, 0, none⟩), .string { data := #[97] }] w2 fun e w' => e = .returned (.int .i64 0) ∧ DkAt w' w.heap.size dA1 ∧ w2.grownBy w' (some w.heap.size)) := Lib.hid (dwrite A2 sA (by decide))
  have hg2 := A2.lt
  clear A2
  go_wp2_with fail
  refine W2.out.mono ?_
  rintro e w3 ⟨rfl, A3, G3⟩
  have L3 := LL.grown G3 (by omega) (fun k hk => by cases hk; exact Nat.le_refl _)
  clear W2 LL G3
  have T3 : Hid (Calls Try.prog 18 #[.pointer (some ⟨w.heap.size, 0, none⟩), .string { data := #[98] }, .int .i64 5] w3 fun e w' => e = .returned (.int .i64 0) ∧ DkAt w' w.heap.size dA2 ∧ w3.grownBy w' (some w.heap.size)) := Lib.hid (dtear A3 sB 5 (by decide))
  have hg3 := A3.lt
  clear A3
  go_wp2_with fail
  refine T3.out.mono ?_
  rintro e w4 ⟨rfl, A4, G4⟩
  have L4 := L3.grown G4 (by omega) (fun k hk => by cases hk; exact Nat.le_refl _)
  clear T3 L3 G4
  have R4 : Hid (Calls Try.prog 13 #[.pointer (some ⟨w.heap.size, 0, none⟩)] w4 fun e w' => e = .returned (.tuple #[.string { data := #[97] }, .bool true]) ∧ Below w4.heap.size w4 w') := Lib.hid (by have := dread A4; rw [dA2_read.1, dA2_read.2.1] at this; exact this)
  have h4 := Lib.hid A4
  clear A4
  go_wp2_with fail
  refine R4.out.mono ?_
  rintro e w5 ⟨rfl, L5⟩
  have A5 := h4.out.below L5
  have LL := L4.trans (L5.mono L4.size)
  clear R4 h4 L4 L5
  have W5 : Hid (Calls Try.prog 17 #[.pointer (some ⟨w.heap.size, 0, none⟩), .string { data := #[99] }] w5 fun e w' => e = .returned (.int .i64 0) ∧ DkAt w' w.heap.size dA3 ∧ w5.grownBy w' (some w.heap.size)) := Lib.hid (dwrite A5 sC (by decide))
  have hg5 := A5.lt
  clear A5
  go_wp2_with fail
  refine W5.out.mono ?_
  rintro e w6 ⟨rfl, A6, G6⟩
  have L6 := LL.grown G6 (by omega) (fun k hk => by cases hk; exact Nat.le_refl _)
  clear W5 LL G6
  have R6 : Hid (Calls Try.prog 13 #[.pointer (some ⟨w.heap.size, 0, none⟩)] w6 fun e w' => e = .returned (.tuple #[.string { data := #[99] }, .bool true]) ∧ Below w6.heap.size w6 w') := Lib.hid (by have := dread A6; rw [dA3_read.1, dA3_read.2.1] at this; exact this)
  have h6 := Lib.hid A6
  clear A6
  go_wp2_with fail
  refine R6.out.mono ?_
  rintro e w7 ⟨rfl, L7⟩
  have A7 := h6.out.below L7
  have HL := Lib.hid (L6.trans (L7.mono L6.size))
  clear R6 h6 L6 L7
  have S0 : Calls Try.prog 15 #[.pointer (some ⟨w.heap.size, 0, none⟩), .int .i64 0] w7 fun e w' => e = .returned (.string dA3.a) ∧ w7 = w' := dslot A7 0 (by decide) (by decide)
  have S2 : Calls Try.prog 15 #[.pointer (some ⟨w.heap.size, 0, none⟩), .int .i64 2] w7 fun e w' => e = .returned (.string { data := #[] }) ∧ w7 = w' := dslot A7 2 (by decide) (by decide)
  have hz := dA3_a
  clear A7
  generalize dA3.a = z at *
  have S0 := Lib.hid S0
  have S2 := Lib.hid S2
  go_wp2_with (go_at_call 15; first | (with_reducible refine S0.out.mono ?_; rintro e w' ⟨rfl, rfl⟩) | (with_reducible refine S2.out.mono ?_; rintro e w' ⟨rfl, rfl⟩))
  go_ret
  exact ⟨rfl, HL.out⟩
end Go.Proofs.Ytimdemidnleiiaa
