/- Reading a frame: the program's. -/
import Derived.Test.YtbciamoaohdbjaaReadKit
set_option linter.unusedVariables false
set_option linter.unusedSimpArgs false
namespace Go.Proofs.Ytbciamoaohdbjaa
open Go.RowKit Go.Sort

set_option maxHeartbeats 2000000 in
theorem read_form (w : World) (b : Nat) (s : ByteArray) (h : Rd w b s 0) (h7 : 7 ≤ s.size) (h0 : byteAt s 0 ≠ 197) :
    Calls Try.prog 20 #[.pointer (some ⟨b, 0, none⟩)] w fun e w' => e = .returned (.tuple #[.agg #[.int .i64 0, .int .i64 0, .int .i64 0, .string { data := #[] }], .int .i64 4]) ∧ Below b w w' := by
  obtain ⟨x0, e0⟩ : ∃ x, byteAt s 0 = x := ⟨_, rfl⟩
  have b0 := byteAt_lt s 0
  rw [e0] at b0
  rw [e0] at h0
  have hx0 : ¬ (x0 : Int) = 197 := by omega
  clear h0
  have S0 := St.begin h
  have H7 := Lib.hid h7
  clear h h7
  go_enter Try.func20, Try.ntmps20
  go_wp2_with fail
  refine (S0.num1 1 x0 rfl (by have := H7.out; omega) e0).mono ?_
  rintro e w1 ⟨rfl, S1⟩
  go_wp2_with (refine store_frame rfl (.tmp 2) (.tmp 10) rfl w.heap.size 0 0 0 { data := #[] } rfl rfl S1.blk ?_)
  (try simp only [Exit.inBlock, Exit.then])
  refine bodyPost_ret (results_frame rfl _ _ w.heap.size rfl (S1.blk.put _ _ _ _)) rfl ?_
  exact ⟨rfl, below_setRow S1.below (Nat.le_of_lt S1.lt) _⟩

set_option maxHeartbeats 2000000 in
theorem read_version (w : World) (b : Nat) (s : ByteArray) (h : Rd w b s 0) (h7 : 7 ≤ s.size) (h0 : byteAt s 0 = 197) (h1 : byteAt s 1 ≠ 1) :
    Calls Try.prog 20 #[.pointer (some ⟨b, 0, none⟩)] w fun e w' => e = .returned (.tuple #[.agg #[.int .i64 0, .int .i64 0, .int .i64 0, .string { data := #[] }], .int .i64 9]) ∧ Below b w w' := by
  obtain ⟨x0, e0⟩ : ∃ x, byteAt s 0 = x := ⟨_, rfl⟩
  have b0 := byteAt_lt s 0
  rw [e0] at b0
  obtain ⟨x1, e1⟩ : ∃ x, byteAt s 1 = x := ⟨_, rfl⟩
  have b1 := byteAt_lt s 1
  rw [e1] at b1
  rw [e1] at h1
  have hx0 : (x0 : Int) = 197 := by omega
  have hx1 : ¬ (x1 : Int) = 1 := by omega
  clear h0 h1
  have S0 := St.begin h
  have H7 := Lib.hid h7
  clear h h7
  go_enter Try.func20, Try.ntmps20
  go_wp2_with fail
  refine (S0.num1 1 x0 rfl (by have := H7.out; omega) e0).mono ?_
  rintro e w1 ⟨rfl, S1⟩
  go_wp2_with fail
  refine (S1.num1 2 x1 rfl (by have := H7.out; omega) e1).mono ?_
  rintro e w2 ⟨rfl, S2⟩
  go_wp2_with (refine store_frame rfl (.tmp 2) (.tmp 14) rfl w.heap.size 0 0 0 { data := #[] } rfl rfl S2.blk ?_)
  (try simp only [Exit.inBlock, Exit.then])
  refine bodyPost_ret (results_frame rfl _ _ w.heap.size rfl (S2.blk.put _ _ _ _)) rfl ?_
  exact ⟨rfl, below_setRow S2.below (Nat.le_of_lt S2.lt) _⟩

set_option maxHeartbeats 2000000 in
theorem read_fault (w : World) (b : Nat) (s : ByteArray) (h : Rd w b s 0) (h7 : 7 ≤ s.size) (h0 : byteAt s 0 = 197) (h1 : byteAt s 1 = 1) (c : Int) (hc : fcode (byteAt s 2 : Nat) (byteAt s 3 : Nat) (byteAt s 4 : Nat) ((s.size - 7 : Nat) : Int) = c) (h2 : c ≠ 0) :
    Calls Try.prog 20 #[.pointer (some ⟨b, 0, none⟩)] w fun e w' => e = .returned (.tuple #[.agg #[.int .i64 0, .int .i64 0, .int .i64 0, .string { data := #[] }], .int .i64 c]) ∧ Below b w w' := by
  have mixed : Try.prog.follows .mixedOrders = true := by kernel_rfl
  obtain ⟨x0, e0⟩ : ∃ x, byteAt s 0 = x := ⟨_, rfl⟩
  have b0 := byteAt_lt s 0
  rw [e0] at b0
  obtain ⟨x1, e1⟩ : ∃ x, byteAt s 1 = x := ⟨_, rfl⟩
  have b1 := byteAt_lt s 1
  rw [e1] at b1
  obtain ⟨x2, e2⟩ : ∃ x, byteAt s 2 = x := ⟨_, rfl⟩
  have b2 := byteAt_lt s 2
  rw [e2] at b2
  obtain ⟨x3, e3⟩ : ∃ x, byteAt s 3 = x := ⟨_, rfl⟩
  have b3 := byteAt_lt s 3
  rw [e3] at b3
  obtain ⟨x4, e4⟩ : ∃ x, byteAt s 4 = x := ⟨_, rfl⟩
  have b4 := byteAt_lt s 4
  rw [e4] at b4
  rw [e2, e3, e4] at hc
  obtain ⟨y, ey⟩ : ∃ y, byteAt s 5 * 256 + byteAt s (5 + 1) = y := ⟨_, rfl⟩
  have by_ : y < 65536 := by have := byteAt_lt s 5; have := byteAt_lt s (5 + 1); omega
  obtain ⟨m, hm⟩ : ∃ m, m + 7 = s.size := ⟨s.size - 7, by omega⟩
  have hx0 : (x0 : Int) = 197 := by omega
  have hx1 : (x1 : Int) = 1 := by omega
  have hf := fun W => fault_any x2 x3 x4 { data := #[] } (m : Int) W
  rw [show s.size - 7 = m by omega] at hc
  rw [hc] at hf
  clear hc
  have HM := Lib.hid hm
  clear h0 h1 hm
  have S0 := St.begin h
  have H7 := Lib.hid h7
  clear h h7
  go_enter Try.func20, Try.ntmps20
  go_wp2_with fail
  refine (S0.num1 1 x0 rfl (by have := H7.out; omega) e0).mono ?_
  rintro e w1 ⟨rfl, S1⟩
  go_wp2_with fail
  refine (S1.num1 2 x1 rfl (by have := H7.out; omega) e1).mono ?_
  rintro e w2 ⟨rfl, S2⟩
  go_wp2_with fail
  refine (S2.num1 3 x2 rfl (by have := H7.out; omega) e2).mono ?_
  rintro e w3 ⟨rfl, S3⟩
  go_wp2_with fail
  refine (S3.num1 4 x3 rfl (by have := H7.out; omega) e3).mono ?_
  rintro e w4 ⟨rfl, S4⟩
  go_wp2_with fail
  refine (S4.num1 5 x4 rfl (by have := H7.out; omega) e4).mono ?_
  rintro e w5 ⟨rfl, S5⟩
  go_wp2_with fail
  refine ((St2.begin S5 (x2 : Int) (x3 : Int) (x4 : Int) { data := #[] }).num2 7 y rfl (by have := H7.out; omega) ey).mono ?_
  rintro e w6 ⟨rfl, S6⟩
  have d0 := fun n os => (S6.fr.box.form n os).c0
  have d1 := fun n os => (S6.fr.box.form n os).c1
  have d2 := fun n os => (S6.fr.box.form n os).c2
  have d3 := fun n os => (S6.fr.box.form n os).c3
  have hl := fun n os => (S6.later (below_of_form w6 n os)).left (m : Int) (by have := HM.out; omega)
  go_wp2
  refine wp_region_quiet_below (by assumption) (by kernel_rfl) ?_
  repeat (quiet_step (first | (go_at_call 30; exact calls_grw (hl _ _)) | (go_at_call 14; exact calls_grw (hf _))))
  refine wpQuiet_nil ?_
  intro _ hw'
  obtain ⟨⟨nq, osq⟩, hw''⟩ := hw'
  have S7 : St2 w (grow (atD w6 nq) osq) b w.heap.size s 7 w5.heap.size x2 x3 x4 { data := #[] } := S6.later (below_of_form w6 nq osq)
  rw [← hw''] at S7
  rename World => w7
  clear hw'' d0 d1 d2 d3 hl S6
  go_wp2_with (refine store_frame rfl (.tmp 2) (.tmp 34) rfl w.heap.size 0 0 0 { data := #[] } rfl rfl S7.st.blk ?_)
  (try simp only [Exit.inBlock, Exit.then])
  refine bodyPost_ret (results_frame rfl _ _ w.heap.size rfl (S7.st.blk.put _ _ _ _)) rfl ?_
  exact ⟨rfl, below_setRow S7.st.below (Nat.le_of_lt S7.st.lt) _⟩

set_option maxHeartbeats 2000000 in
theorem read_long (w : World) (b : Nat) (s : ByteArray) (h : Rd w b s 0) (h7 : 7 ≤ s.size) (h0 : byteAt s 0 = 197) (h1 : byteAt s 1 = 1) (hc : fcode (byteAt s 2 : Nat) (byteAt s 3 : Nat) (byteAt s 4 : Nat) ((s.size - 7 : Nat) : Int) = 0) (h2 : s.size - 7 ≠ told s) :
    Calls Try.prog 20 #[.pointer (some ⟨b, 0, none⟩)] w fun e w' => e = .returned (.tuple #[.agg #[.int .i64 0, .int .i64 0, .int .i64 0, .string { data := #[] }], .int .i64 3]) ∧ Below b w w' := by
  have mixed : Try.prog.follows .mixedOrders = true := by kernel_rfl
  obtain ⟨x0, e0⟩ : ∃ x, byteAt s 0 = x := ⟨_, rfl⟩
  have b0 := byteAt_lt s 0
  rw [e0] at b0
  obtain ⟨x1, e1⟩ : ∃ x, byteAt s 1 = x := ⟨_, rfl⟩
  have b1 := byteAt_lt s 1
  rw [e1] at b1
  obtain ⟨x2, e2⟩ : ∃ x, byteAt s 2 = x := ⟨_, rfl⟩
  have b2 := byteAt_lt s 2
  rw [e2] at b2
  obtain ⟨x3, e3⟩ : ∃ x, byteAt s 3 = x := ⟨_, rfl⟩
  have b3 := byteAt_lt s 3
  rw [e3] at b3
  obtain ⟨x4, e4⟩ : ∃ x, byteAt s 4 = x := ⟨_, rfl⟩
  have b4 := byteAt_lt s 4
  rw [e4] at b4
  rw [e2, e3, e4] at hc
  obtain ⟨y, ey⟩ : ∃ y, byteAt s 5 * 256 + byteAt s (5 + 1) = y := ⟨_, rfl⟩
  have by_ : y < 65536 := by have := byteAt_lt s 5; have := byteAt_lt s (5 + 1); omega
  obtain ⟨m, hm⟩ : ∃ m, m + 7 = s.size := ⟨s.size - 7, by omega⟩
  have hx0 : (x0 : Int) = 197 := by omega
  have hx1 : (x1 : Int) = 1 := by omega
  have hf := fun W => fault_any x2 x3 x4 { data := #[] } (m : Int) W
  rw [show s.size - 7 = m by omega] at hc
  rw [hc] at hf
  have ht : told s = y := ey
  have hne : ¬ (y : Int) = (m : Int) := by omega
  clear ht
  clear hc h2
  have HM := Lib.hid hm
  clear h0 h1 hm
  have S0 := St.begin h
  have H7 := Lib.hid h7
  clear h h7
  go_enter Try.func20, Try.ntmps20
  go_wp2_with fail
  refine (S0.num1 1 x0 rfl (by have := H7.out; omega) e0).mono ?_
  rintro e w1 ⟨rfl, S1⟩
  go_wp2_with fail
  refine (S1.num1 2 x1 rfl (by have := H7.out; omega) e1).mono ?_
  rintro e w2 ⟨rfl, S2⟩
  go_wp2_with fail
  refine (S2.num1 3 x2 rfl (by have := H7.out; omega) e2).mono ?_
  rintro e w3 ⟨rfl, S3⟩
  go_wp2_with fail
  refine (S3.num1 4 x3 rfl (by have := H7.out; omega) e3).mono ?_
  rintro e w4 ⟨rfl, S4⟩
  go_wp2_with fail
  refine (S4.num1 5 x4 rfl (by have := H7.out; omega) e4).mono ?_
  rintro e w5 ⟨rfl, S5⟩
  go_wp2_with fail
  refine ((St2.begin S5 (x2 : Int) (x3 : Int) (x4 : Int) { data := #[] }).num2 7 y rfl (by have := H7.out; omega) ey).mono ?_
  rintro e w6 ⟨rfl, S6⟩
  have d0 := fun n os => (S6.fr.box.form n os).c0
  have d1 := fun n os => (S6.fr.box.form n os).c1
  have d2 := fun n os => (S6.fr.box.form n os).c2
  have d3 := fun n os => (S6.fr.box.form n os).c3
  have hl := fun n os => (S6.later (below_of_form w6 n os)).left (m : Int) (by have := HM.out; omega)
  go_wp2
  refine wp_region_quiet_below (by assumption) (by kernel_rfl) ?_
  repeat (quiet_step (first | (go_at_call 30; exact calls_grw (hl _ _)) | (go_at_call 14; exact calls_grw (hf _))))
  refine wpQuiet_nil ?_
  intro _ hw'
  obtain ⟨⟨nq, osq⟩, hw''⟩ := hw'
  have S7 : St2 w (grow (atD w6 nq) osq) b w.heap.size s 7 w5.heap.size x2 x3 x4 { data := #[] } := S6.later (below_of_form w6 nq osq)
  rw [← hw''] at S7
  rename World => w7
  clear hw'' d0 d1 d2 d3 hl S6
  go_wp2_with fail
  refine (S7.left (m : Int) (by have := HM.out; omega)).mono ?_
  rintro e w8 ⟨rfl, G8⟩
  have S8 := S7.later G8.below
  clear G8 S7
  go_wp2_with (refine store_frame rfl (.tmp 2) (.tmp 40) rfl w.heap.size 0 0 0 { data := #[] } rfl rfl S8.st.blk ?_)
  (try simp only [Exit.inBlock, Exit.then])
  refine bodyPost_ret (results_frame rfl _ _ w.heap.size rfl (S8.st.blk.put _ _ _ _)) rfl ?_
  exact ⟨rfl, below_setRow S8.st.below (Nat.le_of_lt S8.st.lt) _⟩

set_option maxHeartbeats 2000000 in
theorem read_ok (w : World) (b : Nat) (s : ByteArray) (h : Rd w b s 0) (h7 : 7 ≤ s.size) (h0 : byteAt s 0 = 197) (h1 : byteAt s 1 = 1) (hs : s.size ≤ 1099511627776) (x2 x3 x4 : Nat) (e2 : byteAt s 2 = x2) (e3 : byteAt s 3 = x3) (e4 : byteAt s 4 = x4) (hc : fcode x2 x3 x4 ((s.size - 7 : Nat) : Int) = 0) (h2 : s.size - 7 = told s) :
    Calls Try.prog 20 #[.pointer (some ⟨b, 0, none⟩)] w fun e w' => e = .returned (.tuple #[.agg #[.int .i64 (x2 : Int), .int .i64 (x3 : Int), .int .i64 (x4 : Int), .string (s.extract 7 s.size)], .int .i64 0]) ∧ Below b w w' := by
  have mixed : Try.prog.follows .mixedOrders = true := by kernel_rfl
  obtain ⟨x0, e0⟩ : ∃ x, byteAt s 0 = x := ⟨_, rfl⟩
  have b0 := byteAt_lt s 0
  rw [e0] at b0
  obtain ⟨x1, e1⟩ : ∃ x, byteAt s 1 = x := ⟨_, rfl⟩
  have b1 := byteAt_lt s 1
  rw [e1] at b1
  have b2 := byteAt_lt s 2
  rw [e2] at b2
  have b3 := byteAt_lt s 3
  rw [e3] at b3
  have b4 := byteAt_lt s 4
  rw [e4] at b4
  obtain ⟨y, ey⟩ : ∃ y, byteAt s 5 * 256 + byteAt s (5 + 1) = y := ⟨_, rfl⟩
  have by_ : y < 65536 := by have := byteAt_lt s 5; have := byteAt_lt s (5 + 1); omega
  obtain ⟨m, hm⟩ : ∃ m, m + 7 = s.size := ⟨s.size - 7, by omega⟩
  have hx0 : (x0 : Int) = 197 := by omega
  have hx1 : (x1 : Int) = 1 := by omega
  have hf := fun W => fault_any x2 x3 x4 { data := #[] } (m : Int) W
  rw [show s.size - 7 = m by omega] at hc
  rw [hc] at hf
  have ht : told s = y := ey
  have hne : m = y := by omega
  clear ht
  subst hne
  clear hc h2
  have HS := Lib.hid hs
  clear hs
  have HM := Lib.hid hm
  clear h0 h1 hm
  have S0 := St.begin h
  have H7 := Lib.hid h7
  clear h h7
  go_enter Try.func20, Try.ntmps20
  go_wp2_with fail
  refine (S0.num1 1 x0 rfl (by have := H7.out; omega) e0).mono ?_
  rintro e w1 ⟨rfl, S1⟩
  go_wp2_with fail
  refine (S1.num1 2 x1 rfl (by have := H7.out; omega) e1).mono ?_
  rintro e w2 ⟨rfl, S2⟩
  go_wp2_with fail
  refine (S2.num1 3 x2 rfl (by have := H7.out; omega) e2).mono ?_
  rintro e w3 ⟨rfl, S3⟩
  go_wp2_with fail
  refine (S3.num1 4 x3 rfl (by have := H7.out; omega) e3).mono ?_
  rintro e w4 ⟨rfl, S4⟩
  go_wp2_with fail
  refine (S4.num1 5 x4 rfl (by have := H7.out; omega) e4).mono ?_
  rintro e w5 ⟨rfl, S5⟩
  go_wp2_with fail
  refine ((St2.begin S5 (x2 : Int) (x3 : Int) (x4 : Int) { data := #[] }).num2 7 m rfl (by have := H7.out; omega) ey).mono ?_
  rintro e w6 ⟨rfl, S6⟩
  have d0 := fun n os => (S6.fr.box.form n os).c0
  have d1 := fun n os => (S6.fr.box.form n os).c1
  have d2 := fun n os => (S6.fr.box.form n os).c2
  have d3 := fun n os => (S6.fr.box.form n os).c3
  have hl := fun n os => (S6.later (below_of_form w6 n os)).left (m : Int) (by have := HM.out; omega)
  go_wp2
  refine wp_region_quiet_below (by assumption) (by kernel_rfl) ?_
  repeat (quiet_step (first | (go_at_call 30; exact calls_grw (hl _ _)) | (go_at_call 14; exact calls_grw (hf _))))
  refine wpQuiet_nil ?_
  intro _ hw'
  obtain ⟨⟨nq, osq⟩, hw''⟩ := hw'
  have S7 : St2 w (grow (atD w6 nq) osq) b w.heap.size s 7 w5.heap.size x2 x3 x4 { data := #[] } := S6.later (below_of_form w6 nq osq)
  rw [← hw''] at S7
  rename World => w7
  clear hw'' d0 d1 d2 d3 hl S6
  go_wp2_with fail
  refine (S7.left (m : Int) (by have := HM.out; omega)).mono ?_
  rintro e w8 ⟨rfl, G8⟩
  have S8 := S7.later G8.below
  clear G8 S7
  go_wp2_with fail
  refine (text_yes w8 b s 7 m (m : Int) S8.st.rd (by unfold pos; split <;> omega) (by have := HM.out; omega) HS.out).mono ?_
  rintro e w9 ⟨rfl, hr, hg⟩
  have S9 := S8.go hr hg
  have d0 := S9.fr.box.c0
  have d1 := S9.fr.box.c1
  have d2 := S9.fr.box.c2
  have d3 := S9.fr.box.c3
  have f3 := S9.fr.free 3
  have hb : s.extract 7 (7 + m) = s.extract 7 s.size := by rw [show 7 + m = s.size by have := HM.out; omega]
  rw [hb]
  obtain ⟨z, hz⟩ : ∃ z, s.extract 7 s.size = z := ⟨_, rfl⟩
  rw [hz]
  have HZ := Lib.hid hz
  clear S8 hr hg hb hz
  go_wp2_with (refine store_frame rfl (.tmp 2) (.tmp 45) rfl w.heap.size x2 x3 x4 z rfl rfl (S9.st.blk.set_other _ _ _ (by have := S9.lt; omega)) ?_)
  (try simp only [Exit.inBlock, Exit.then])
  refine bodyPost_ret (results_frame rfl _ _ w.heap.size rfl ((S9.st.blk.set_other _ _ _ (by have := S9.lt; omega)).put _ _ _ _)) rfl ?_
  exact ⟨by rw [HZ.out]; rfl, below_setRow (S9.st.below.setCell (by have := S9.lt; have := S9.st.lt; show b ≤ w5.heap.size; omega) _) (Nat.le_of_lt S9.st.lt) _⟩

end Go.Proofs.Ytbciamoaohdbjaa
