/- 'awake' answers true: the answers that the document fixes. -/
import Derived.Test.YtbciamoaohdbjaaParse
set_option linter.unusedVariables false
set_option linter.unusedSimpArgs false
namespace Go.Proofs.Ytbciamoaohdbjaa
open Go.RowKit Go.Sort

def hi : ByteArray := { data := #[104, 105] }
theorem hi_code : fcode (1 : Nat) (2 : Nat) (3 : Nat) hi.size = 0 := by decide
theorem hi_head : (printz 1 2 3 hi).extract 0 9 = { data := #[197, 1, 1, 2, 3, 0, 2, 104, 105] } := by decide +kernel
theorem x_code : pc { data := #[120] } = 2 := by decide

set_option maxHeartbeats 2000000 in
theorem frameAwake_any (w : World) : Calls Try.prog 8 #[] w fun e w' => e = .returned (.bool true) ∧ Below w.heap.size w w' := by
  have h1 := fun W => print_yes 1 2 3 hi W (by decide) hi_code
  have h2 := fun W => parse_any (printz 1 2 3 hi) W (by rw [printz_size]; decide)
  have h3 := fun W => parse_any { data := #[120] } W (by decide)
  obtain ⟨p0, p1, p2, p3, p4⟩ := parsed_printz (k := 1) (f := 2) (t := 3) (b := hi) hi_code
  rw [p0, p1, p2, p3, p4] at h2
  have hn : pc { data := #[120] } ≠ 0 := by rw [x_code]; decide
  rw [pk_bad hn, pf_bad hn, pt_bad hn, pbody_bad hn, x_code] at h3
  have hs : (printz 1 2 3 hi).size = 13 := by rw [printz_size]; rfl
  have hx := hi_head
  clear p0 p1 p2 p3 p4 hn
  generalize printz 1 2 3 hi = z at *
  unfold hi at *
  go_enter Try.func8, Try.ntmps8
  go_wp2_with fail
  refine (h1 _).mono ?_
  rintro e w1 ⟨rfl, L1⟩
  go_wp2_with fail
  refine (h2 _).mono ?_
  rintro e w2 ⟨rfl, L2⟩
  go_wp2_with fail
  refine (h3 _).mono ?_
  rintro e w3 ⟨rfl, L3⟩
  have B3 : Blk w3 w2.heap.size 1 2 3 { data := #[104, 105] } := (Blk.new w2 1 2 3 { data := #[104, 105] }).below L3 (by simp)
  have L4 : Below w.heap.size w w3 := ((L1.trans (L2.mono L1.size)).alloc (Nat.le_trans L1.size L2.size) _).trans (L3.mono (Nat.le_trans (Nat.le_trans L1.size L2.size) (by simp)))
  have B4 := (B3.alloc (.cells #[.int .i64 0, .int .i64 0, .int .i64 0, .string { data := #[] }] 23)).box
  have d0 := B4.c0
  have d1 := B4.c1
  have d2 := B4.c2
  have d3 := B4.c3
  clear B3 B4 L1 L2 L3
  go_wp2
  go_ret
  exact ⟨rfl, L4.alloc L4.size _⟩
end Go.Proofs.Ytbciamoaohdbjaa
