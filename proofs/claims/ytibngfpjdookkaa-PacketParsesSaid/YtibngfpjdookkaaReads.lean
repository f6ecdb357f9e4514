import Derived.Test.YtibngfpjdookkaaReadKit
/- Reading a frame: the program's. -/
set_option linter.unusedVariables false
set_option linter.unusedSimpArgs false
namespace Go.Proofs.Ytibngfpjdookkaa
open Go.RowKit Go.Sort

set_option maxHeartbeats 2000000 in
theorem read_form (w : World) (b : Nat) (s : ByteArray) (h : Rd w b s 0) (h7 : 7 ≤ s.size) (h0 : byteAt s 0 ≠ 197) :
    Calls Try.prog 42 #[.pointer (some ⟨b, 0, none⟩)] w fun e w' => e = .returned (.tuple #[.agg #[.int .i64 0, .int .i64 0, .int .i64 0, .string { data := #[] }], .int .i64 4]) ∧ Below b w w' := by
  obtain ⟨x0, e0⟩ : ∃ x, byteAt s 0 = x := ⟨_, rfl⟩
  have b0 := byteAt_lt s 0
  rw [e0] at b0
  rw [e0] at h0
  have hx0 : ¬ (x0 : Int) = 197 := by omega
  clear h0
  have S0 := St.begin h
  have H7 := Lib.hid h7
  clear h h7
  go_enter Try.func42, Try.ntmps42
  go_wp2_with fail
  refine (S0.num1 1 x0 rfl (by have := H7.out; omega) e0).mono ?_
  rintro e w1 ⟨rfl, S1⟩
  go_wp2_with (refine store_frame rfl (.tmp 2) (.tmp 10) rfl w.heap.size 0 0 0 { data := #[] } rfl rfl S1.blk ?_)
  (try simp only [Exit.inBlock, Exit.then])
  refine bodyPost_ret (results_frame rfl _ _ w.heap.size rfl (S1.blk.put _ _ _ _)) rfl ?_
  exact ⟨rfl, below_setRow S1.below (Nat.le_of_lt S1.lt) _⟩

set_option maxHeartbeats 2000000 in
theorem read_version (w : World) (b : Nat) (s : ByteArray) (h : Rd w b s 0) (h7 : 7 ≤ s.size) (h0 : byteAt s 0 = 197) (h1 : byteAt s 1 ≠ 1) :
    Calls Try.prog 42 #[.pointer (some ⟨b, 0, none⟩)] w fun e w' => e = .returned (.tuple #[.agg #[.int .i64 0, .int .i64 0, .int .i64 0, .string { data := #[] }], .int .i64 9]) ∧ Below b w w' := by
  obtain ⟨x0, e0⟩ : ∃ x, byteAt s 0 = x := ⟨_, rfl⟩
  have b0 := byteAt_lt s 0
  rw [e0] at b0
  obtain ⟨x1, e1⟩ : ∃ x, byteAt s 1 = x := ⟨_, rfl⟩
  have b1 := byteAt_lt s 1
  rw [e1] at b1
  rw [e1] at h1
  have hx0 : (x0 : Int) = 197 := by omega
  have hx1 : ¬ (x1 : Int) = 1 := by omega
  clear h0 h1
  have S0 := St.begin h
  have H7 := Lib.hid h7
  clear h h7
  go_enter Try.func42, Try.ntmps42
  go_wp2_with fail
  refine (S0.num1 1 x0 rfl (by have := H7.out; omega) e0).mono ?_
  rintro e w1 ⟨rfl, S1⟩
  go_wp2_with fail
  refine (S1.num1 2 x1 rfl (by have := H7.out; omega) e1).mono ?_
  rintro e w2 ⟨rfl, S2⟩
  go_wp2_with (refine store_frame rfl (.tmp 2) (.tmp 14) rfl w.heap.size 0 0 0 { data := #[] } rfl rfl S2.blk ?_)
  (try simp only [Exit.inBlock, Exit.then])
  refine bodyPost_ret (results_frame rfl _ _ w.heap.size rfl (S2.blk.put _ _ _ _)) rfl ?_
  exact ⟨rfl, below_setRow S2.below (Nat.le_of_lt S2.lt) _⟩

set_option maxHeartbeats 2000000 in
theorem read_fault (w : World) (b : Nat) (s : ByteArray) (h : Rd w b s 0) (h7 : 7 ≤ s.size) (h0 : byteAt s 0 = 197) (h1 : byteAt s 1 = 1) (c : Int) (hc : fcode (byteAt s 2 : Nat) (byteAt s 3 : Nat) (byteAt s 4 : Nat) ((s.size - 7 : Nat) : Int) = c) (h2 : c ≠ 0) :
    Calls Try.prog 42 #[.pointer (some ⟨b, 0, none⟩)] w fun e w' => e = .returned (.tuple #[.agg #[.int .i64 0, .int .i64 0, .int .i64 0, .string { data := #[] }], .int .i64 c]) ∧ Below b w w' := by
  have mixed : Try.prog.follows .mixedOrders = true := by kernel_rfl
  obtain ⟨x0, e0⟩ : ∃ x, byteAt s 0 = x := ⟨_, rfl⟩
  have b0 := byteAt_lt s 0
  rw [e0] at b0
  obtain ⟨x1, e1⟩ : ∃ x, byteAt s 1 = x := ⟨_, rfl⟩
  have b1 := byteAt_lt s 1
  rw [e1] at b1
  obtain ⟨x2, e2⟩ : ∃ x, byteAt s 2 = x := ⟨_, rfl⟩
  have b2 := byteAt_lt s 2
  rw [e2] at b2
  obtain ⟨x3, e3⟩ : ∃ x, byteAt s 3 = x := ⟨_, rfl⟩
  have b3 := byteAt_lt s 3
  rw [e3] at b3
  obtain ⟨x4, e4⟩ : ∃ x, byteAt s 4 = x := ⟨_, rfl⟩
  have b4 := byteAt_lt s 4
  rw [e4] at b4
  rw [e2, e3, e4] at hc
  obtain ⟨y, ey⟩ : ∃ y, byteAt s 5 * 256 + byteAt s (5 + 1) = y := ⟨_, rfl⟩
  have by_ : y < 65536 := by have := byteAt_lt s 5; have := byteAt_lt s (5 + 1); omega
  obtain ⟨m, hm⟩ : ∃ m, m + 7 = s.size := ⟨s.size - 7, by omega⟩
  have hx0 : (x0 : Int) = 197 := by omega
  have hx1 : (x1 : Int) = 1 := by omega
  have hf := fun W => fault_any x2 x3 x4 { data := #[] } (m : Int) W
  rw [show s.size - 7 = m by omega] at hc
  rw [hc] at hf
  clear hc
  have HM := Lib.hid hm
  clear h0 h1 hm
  have S0 := St.begin h
  have H7 := Lib.hid h7
  clear h h7
  go_enter Try.func42, Try.ntmps42
  go_wp2_with fail
  refine (S0.num1 1 x0 rfl (by have := H7.out; omega) e0).mono ?_
  rintro e w1 ⟨rfl, S1⟩
  go_wp2_with fail
  refine (S1.num1 2 x1 rfl (by have := H7.out; omega) e1).mono ?_
  rintro e w2 ⟨rfl, S2⟩
  go_wp2_with fail
  refine (S2.num1 3 x2 rfl (by have := H7.out; omega) e2).mono ?_
  rintro e w3 ⟨rfl, S3⟩
  go_wp2_with fail
  refine (S3.num1 4 x3 rfl (by have := H7.out; omega) e3).mono ?_
  rintro e w4 ⟨rfl, S4⟩
  go_wp2_with fail
  refine (S4.num1 5 x4 rfl (by have := H7.out; omega) e4).mono ?_
  rintro e w5 ⟨rfl, S5⟩
  go_wp2_with fail
  refine ((St2.begin S5 (x2 : Int) (x3 : Int) (x4 : Int) { data := #[] }).num2 7 y rfl (by have := H7.out; omega) ey).mono ?_
  rintro e w6 ⟨rfl, S6⟩
  have d0 := fun n os => (S6.fr.box.form n os).c0
  have d1 := fun n os => (S6.fr.box.form n os).c1
  have d2 := fun n os => (S6.fr.box.form n os).c2
  have d3 := fun n os => (S6.fr.box.form n os).c3
  have hl := fun n os => (S6.later (below_of_form w6 n os)).left (m : Int) (by have := HM.out; omega)
  go_wp2
  refine wp_region_quiet_below (by assumption) (by kernel_rfl) ?_
  repeat (quiet_step (first | (go_at_call 23; exact calls_grw (hl _ _)) | (go_at_call 61; exact calls_grw (hf _))))
  refine wpQuiet_nil ?_
  intro _ hw'
  obtain ⟨⟨nq, osq⟩, hw''⟩ := hw'
  have S7 : St2 w (grow (atD w6 nq) osq) b w.heap.size s 7 w5.heap.size x2 x3 x4 { data := #[] } := S6.later (below_of_form w6 nq osq)
  rw [← hw''] at S7
  rename World => w7
  clear hw'' d0 d1 d2 d3 hl S6
  go_wp2_with (refine store_frame rfl (.tmp 2) (.tmp 34) rfl w.heap.size 0 0 0 { data := #[] } rfl rfl S7.st.blk ?_)
  (try simp only [Exit.inBlock, Exit.then])
  refine bodyPost_ret (results_frame rfl _ _ w.heap.size rfl (S7.st.blk.put _ _ _ _)) rfl ?_
  exact ⟨rfl, below_setRow S7.st.below (Nat.le_of_lt S7.st.lt) _⟩

set_option maxHeartbeats 2000000 in
theorem read_long (w : World) (b : Nat) (s : ByteArray) (h : Rd w b s 0) (h7 : 7 ≤ s.size) (h0 : byteAt s 0 = 197) (h1 : byteAt s 1 = 1) (hc : fcode (byteAt s 2 : Nat) (byteAt s 3 : Nat) (byteAt s 4 : Nat) ((s.size - 7 : Nat) : Int) = 0) (h2 : s.size - 7 ≠ told s) :
    Calls Try.prog 42 #[.pointer (some ⟨b, 0, none⟩)] w fun e w' => e = .returned (.tuple #[.agg #[.int .i64 0, .int .i64 0, .int .i64 0, .string { data := #[] }], .int .i64 3]) ∧ Below b w w' := by
  have mixed : Try.prog.follows .mixedOrders = true := by kernel_rfl
  obtain ⟨x0, e0⟩ : ∃ x, byteAt s 0 = x := ⟨_, rfl⟩
  have b0 := byteAt_lt s 0
  rw [e0] at b0
  obtain ⟨x1, e1⟩ : ∃ x, byteAt s 1 = x := ⟨_, rfl⟩
  have b1 := byteAt_lt s 1
  rw [e1] at b1
  obtain ⟨x2, e2⟩ : ∃ x, byteAt s 2 = x := ⟨_, rfl⟩
  have b2 := byteAt_lt s 2
  rw [e2] at b2
  obtain ⟨x3, e3⟩ : ∃ x, byteAt s 3 = x := ⟨_, rfl⟩
  have b3 := byteAt_lt s 3
  rw [e3] at b3
  obtain ⟨x4, e4⟩ : ∃ x, byteAt s 4 = x := ⟨_, rfl⟩
  have b4 := byteAt_lt s 4
  rw [e4] at b4
  rw [e2, e3, e4] at hc
  obtain ⟨y, ey⟩ : ∃ y, byteAt s 5 * 256 + byteAt s (5 + 1) = y := ⟨_, rfl⟩
  have by_ : y < 65536 := by have := byteAt_lt s 5; have := byteAt_lt s (5 + 1); omega
  obtain ⟨m, hm⟩ : ∃ m, m + 7 = s.size := ⟨s.size - 7, by omega⟩
  have hx0 : (x0 : Int) = 197 := by omega
  have hx1 : (x1 : Int) = 1 := by omega
  have hf := fun W => fault_any x2 x3 x4 { data := #[] } (m : Int) W
  rw [show s.size - 7 = m by omega] at hc
  rw [hc] at hf
  have ht : told s = y := ey
  have hne : ¬ (y : Int) = (m : Int) := by omega
  clear ht
  clear hc h2
  have HM := Lib.hid hm
  clear h0 h1 hm
  have S0 := St.begin h
  have H7 := Lib.hid h7
  clear h h7
  go_enter Try.func42, Try.ntmps42
  go_wp2_with fail
  refine (S0.num1 1 x0 rfl (by have := H7.out; omega) e0).mono ?_
  rintro e w1 ⟨rfl, S1⟩
  go_wp2_with fail
  refine (S1.num1 2 x1 rfl (by have := H7.out; omega) e1).mono ?_
  rintro e w2 ⟨rfl, S2⟩
  go_wp2_with fail
  refine (S2.num1 3 x2 rfl (by have := H7.out; omega) e2).mono ?_
  rintro e w3 ⟨rfl, S3⟩
  go_wp2_with fail
  refine (S3.num1 4 x3 rfl (by have := H7.out; omega) e3).mono ?_
  rintro e w4 ⟨rfl, S4⟩
  go_wp2_with fail
  refine (S4.num1 5 x4 rfl (by have := H7.out; omega) e4).mono ?_
  rintro e w5 ⟨rfl, S5⟩
  go_wp2_with fail
  refine ((St2.begin S5 (x2 : Int) (x3 : Int) (x4 : Int) { data := #[] }).num2 7 y rfl (by have := H7.out; omega) ey).mono ?_
  rintro e w6 ⟨rfl, S6⟩
  have d0 := fun n os => (S6.fr.box.form n os).c0
  have d1 := fun n os => (S6.fr.box.form n os).c1
  have d2 := fun n os => (S6.fr.box.form n os).c2
  have d3 := fun n os => (S6.fr.box.form n os).c3
  have hl := fun n os => (S6.later (below_of_form w6 n os)).left (m : Int) (by have := HM.out; omega)
  go_wp2
  refine wp_region_quiet_below (by assumption) (by kernel_rfl) ?_
  repeat (quiet_step (first | (go_at_call 23; exact calls_grw (hl _ _)) | (go_at_call 61; exact calls_grw (hf _))))
  refine wpQuiet_nil ?_
  intro _ hw'
  obtain ⟨⟨nq, osq⟩, hw''⟩ := hw'
  have S7 : St2 w (grow (atD w6 nq) osq) b w.heap.size s 7 w5.heap.size x2 x3 x4 { data := #[] } := S6.later (below_of_form w6 nq osq)
  rw [← hw''] at S7
  rename World => w7
  clear hw'' d0 d1 d2 d3 hl S6
  go_wp2_with fail
  refine (S7.left (m : Int) (by have := HM.out; omega)).mono ?_
  rintro e w8 ⟨rfl, G8⟩
  have S8 := S7.later G8.below
  clear G8 S7
  go_wp2_with (refine store_frame rfl (.tmp 2) (.tmp 40) rfl w.heap.size 0 0 0 { data := #[] } rfl rfl S8.st.blk ?_)
  (try simp only [Exit.inBlock, Exit.then])
  refine bodyPost_ret (results_frame rfl _ _ w.heap.size rfl (S8.st.blk.put _ _ _ _)) rfl ?_
  exact ⟨rfl, below_setRow S8.st.below (Nat.le_of_lt S8.st.lt) _⟩

set_option maxHeartbeats 2000000 in
theorem read_ok (w : World) (b : Nat) (s : ByteArray) (h : Rd w b s 0) (h7 : 7 ≤ s.size) (h0 : byteAt s 0 = 197) (h1 : byteAt s 1 = 1) (hs : s.size ≤ 1099511627776) (x2 x3 x4 : Nat) (e2 : byteAt s 2 = x2) (e3 : byteAt s 3 = x3) (e4 : byteAt s 4 = x4) (hc : fcode x2 x3 x4 ((s.size - 7 : Nat) : Int) = 0) (h2 : s.size - 7 = told s) :
    Calls Try.prog 42 #[.pointer (some ⟨b, 0, none⟩)] w fun e w' => e = .returned (.tuple #[.agg #[.int .i64 (x2 : Int), .int .i64 (x3 : Int), .int .i64 (x4 : Int), .string (s.extract 7 s.size)], .int .i64 0]) ∧ Below b w w' := by
  have mixed : Try.prog.follows .mixedOrders = true := by kernel_rfl
  obtain ⟨x0, e0⟩ : ∃ x, byteAt s 0 = x := ⟨_, rfl⟩
  have b0 := byteAt_lt s 0
  rw [e0] at b0
  obtain ⟨x1, e1⟩ : ∃ x, byteAt s 1 = x := ⟨_, rfl⟩
  have b1 := byteAt_lt s 1
  rw [e1] at b1
  have b2 := byteAt_lt s 2
  rw [e2] at b2
  have b3 := byteAt_lt s 3
  rw [e3] at b3
  have b4 := byteAt_lt s 4
  rw [e4] at b4
  obtain ⟨y, ey⟩ : ∃ y, byteAt s 5 * 256 + byteAt s (5 + 1) = y := ⟨_, rfl⟩
  have by_ : y < 65536 := by have := byteAt_lt s 5; have := byteAt_lt s (5 + 1); omega
  obtain ⟨m, hm⟩ : ∃ m, m + 7 = s.size := ⟨s.size - 7, by omega⟩
  have hx0 : (x0 : Int) = 197 := by omega
  have hx1 : (x1 : Int) = 1 := by omega
  have hf := fun W => fault_any x2 x3 x4 { data := #[] } (m : Int) W
  rw [show s.size - 7 = m by omega] at hc
  rw [hc] at hf
  have ht : told s = y := ey
  have hne : m = y := by omega
  clear ht
  subst hne
  clear hc h2
  have HS := Lib.hid hs
  clear hs
  have HM := Lib.hid hm
  clear h0 h1 hm
  have S0 := St.begin h
  have H7 := Lib.hid h7
  clear h h7
  go_enter Try.func42, Try.ntmps42
  go_wp2_with fail
  refine (S0.num1 1 x0 rfl (by have := H7.out; omega) e0).mono ?_
  rintro e w1 ⟨rfl, S1⟩
  go_wp2_with fail
  refine (S1.num1 2 x1 rfl (by have := H7.out; omega) e1).mono ?_
  rintro e w2 ⟨rfl, S2⟩
  go_wp2_with fail
  refine (S2.num1 3 x2 rfl (by have := H7.out; omega) e2).mono ?_
  rintro e w3 ⟨rfl, S3⟩
  go_wp2_with fail
  refine (S3.num1 4 x3 rfl (by have := H7.out; omega) e3).mono ?_
  rintro e w4 ⟨rfl, S4⟩
  go_wp2_with fail
  refine (S4.num1 5 x4 rfl (by have := H7.out; omega) e4).mono ?_
  rintro e w5 ⟨rfl, S5⟩
  go_wp2_with fail
  refine ((St2.begin S5 (x2 : Int) (x3 : Int) (x4 : Int) { data := #[] }).num2 7 m rfl (by have := H7.out; omega) ey).mono ?_
  rintro e w6 ⟨rfl, S6⟩
  have d0 := fun n os => (S6.fr.box.form n os).c0
  have d1 := fun n os => (S6.fr.box.form n os).c1
  have d2 := fun n os => (S6.fr.box.form n os).c2
  have d3 := fun n os => (S6.fr.box.form n os).c3
  have hl := fun n os => (S6.later (below_of_form w6 n os)).left (m : Int) (by have := HM.out; omega)
  go_wp2
  refine wp_region_quiet_below (by assumption) (by kernel_rfl) ?_
  repeat (quiet_step (first | (go_at_call 23; exact calls_grw (hl _ _)) | (go_at_call 61; exact calls_grw (hf _))))
  refine wpQuiet_nil ?_
  intro _ hw'
  obtain ⟨⟨nq, osq⟩, hw''⟩ := hw'
  have S7 : St2 w (grow (atD w6 nq) osq) b w.heap.size s 7 w5.heap.size x2 x3 x4 { data := #[] } := S6.later (below_of_form w6 nq osq)
  rw [← hw''] at S7
  rename World => w7
  clear hw'' d0 d1 d2 d3 hl S6
  go_wp2_with fail
  refine (S7.left (m : Int) (by have := HM.out; omega)).mono ?_
  rintro e w8 ⟨rfl, G8⟩
  have S8 := S7.later G8.below
  clear G8 S7
  go_wp2_with fail
  refine (text_yes w8 b s 7 m (m : Int) S8.st.rd (by unfold pos; split <;> omega) (by have := HM.out; omega) HS.out).mono ?_
  rintro e w9 ⟨rfl, hr, hg⟩
  have S9 := S8.go hr hg
  have d0 := S9.fr.box.c0
  have d1 := S9.fr.box.c1
  have d2 := S9.fr.box.c2
  have d3 := S9.fr.box.c3
  have f3 := S9.fr.free 3
  have hb : s.extract 7 (7 + m) = s.extract 7 s.size := by rw [show 7 + m = s.size by have := HM.out; omega]
  rw [hb]
  obtain ⟨z, hz⟩ : ∃ z, s.extract 7 s.size = z := ⟨_, rfl⟩
  rw [hz]
  have HZ := Lib.hid hz
  clear S8 hr hg hb hz
  go_wp2_with (refine store_frame rfl (.tmp 2) (.tmp 45) rfl w.heap.size x2 x3 x4 z rfl rfl (S9.st.blk.set_other _ _ _ (by have := S9.lt; omega)) ?_)
  (try simp only [Exit.inBlock, Exit.then])
  refine bodyPost_ret (results_frame rfl _ _ w.heap.size rfl ((S9.st.blk.set_other _ _ _ (by have := S9.lt; omega)).put _ _ _ _)) rfl ?_
  exact ⟨by rw [HZ.out]; rfl, below_setRow (S9.st.below.setCell (by have := S9.lt; have := S9.st.lt; show b ≤ w5.heap.size; omega) _) (Nat.le_of_lt S9.st.lt) _⟩

end Go.Proofs.Ytibngfpjdookkaa

/- Parsing a frame: the program's. -/
set_option linter.unusedVariables false
set_option linter.unusedSimpArgs false
namespace Go.Proofs.Ytibngfpjdookkaa
open Go.RowKit Go.Sort

theorem rc_of_fault {u : ByteArray} (h0 : byteAt u 0 = 197) (h1 : byteAt u 1 = 1) (h : fcode (byteAt u 2 : Nat) (byteAt u 3 : Nat) (byteAt u 4 : Nat) ((u.size - 7 : Nat) : Int) ≠ 0) :
    fcode (byteAt u 2 : Nat) (byteAt u 3 : Nat) (byteAt u 4 : Nat) ((u.size - 7 : Nat) : Int) = ((rc u : Nat) : Int) := by
  by_cases hk : byteAt u 2 < 1 ∨ 11 < byteAt u 2
  · rw [rc_kind h0 h1 hk, fcode_kind (by omega)]; rfl
  by_cases hr : 64 ≤ byteAt u 3 ∨ 64 ≤ byteAt u 4
  · rw [rc_range h0 h1 hk hr, fcode_range (by omega) (by omega)]; rfl
  by_cases hn : 32768 < u.size - 7
  · rw [rc_long h0 h1 hk hr (.inl hn), fcode_long (by omega) (by omega) (by omega)]; rfl
  exact absurd (fcode_ok (by omega) (by omega) (by omega)) h
theorem rc_of_rest {u : ByteArray} (h0 : byteAt u 0 = 197) (h1 : byteAt u 1 = 1) (h : fcode (byteAt u 2 : Nat) (byteAt u 3 : Nat) (byteAt u 4 : Nat) ((u.size - 7 : Nat) : Int) = 0) :
    rc u = if u.size - 7 = told u then 0 else 3 := by
  have hm := fcode_may h
  by_cases ht : u.size - 7 = told u
  · rw [if_pos ht, rc_ok h0 h1 (by omega) (by omega) (by omega)]
  · rw [if_neg ht, rc_long h0 h1 (by omega) (by omega) (.inr ht)]

theorem read_any (w : World) (b : Nat) (u : ByteArray) (h : Rd w b u 0) (h7 : 7 ≤ u.size) (hu : u.size ≤ 1099511627776) (k f t c : Nat) (y : ByteArray) (hc : rc u = c)
    (hz : c ≠ 0 → k = 0 ∧ f = 0 ∧ t = 0 ∧ y = { data := #[] }) (hy : c = 0 → k = byteAt u 2 ∧ f = byteAt u 3 ∧ t = byteAt u 4 ∧ y = u.extract 7 u.size) :
    Calls Try.prog 42 #[.pointer (some ⟨b, 0, none⟩)] w fun e w' => e = .returned (.tuple #[.agg #[.int .i64 (k : Int), .int .i64 (f : Int), .int .i64 (t : Int), .string y], .int .i64 (c : Int)]) ∧ Below b w w' := by
  have bad : c ≠ 0 → Calls Try.prog 42 #[.pointer (some ⟨b, 0, none⟩)] w (fun e w' => e = .returned (.tuple #[.agg #[.int .i64 0, .int .i64 0, .int .i64 0, .string { data := #[] }], .int .i64 (c : Int)]) ∧ Below b w w') →
      Calls Try.prog 42 #[.pointer (some ⟨b, 0, none⟩)] w fun e w' => e = .returned (.tuple #[.agg #[.int .i64 (k : Int), .int .i64 (f : Int), .int .i64 (t : Int), .string y], .int .i64 (c : Int)]) ∧ Below b w w' := by
    intro hn hh
    obtain ⟨rfl, rfl, rfl, rfl⟩ := hz hn
    exact hh
  by_cases h0 : byteAt u 0 = 197
  case neg =>
    rw [rc_form h0] at hc
    subst hc
    exact bad (by decide) (read_form w b u h h7 h0)
  by_cases h1 : byteAt u 1 = 1
  case neg =>
    rw [rc_version h0 h1] at hc
    subst hc
    exact bad (by decide) (read_version w b u h h7 h0 h1)
  by_cases hf : fcode (byteAt u 2 : Nat) (byteAt u 3 : Nat) (byteAt u 4 : Nat) ((u.size - 7 : Nat) : Int) = 0
  case neg =>
    have hr := rc_of_fault h0 h1 hf
    rw [hc] at hr
    exact bad (by intro e; rw [e] at hr; exact hf hr) (read_fault w b u h h7 h0 h1 c hr (by intro e; rw [e] at hr; exact hf hr))
  have hr := rc_of_rest h0 h1 hf
  by_cases ht : u.size - 7 = told u
  · rw [if_pos ht, hc] at hr
    subst hr
    obtain ⟨rfl, rfl, rfl, rfl⟩ := hy rfl
    exact read_ok w b u h h7 h0 h1 hu _ _ _ rfl rfl rfl hf ht
  · rw [if_neg ht, hc] at hr
    subst hr
    exact bad (by decide) (read_long w b u h h7 h0 h1 hf ht)

set_option maxHeartbeats 1000000 in
theorem parse_short (s : ByteArray) (w : World) (h : s.size < 11) :
    Calls Try.prog 20 #[.string s] w fun e w' => e = .returned (.tuple #[.agg #[.int .i64 0, .int .i64 0, .int .i64 0, .string { data := #[] }], .int .i64 2]) ∧ Below w.heap.size w w' := by
  have h1 : (s.size : Int) < 11 := by omega
  go_enter Try.func20, Try.ntmps20
  go_wp2
  (try simp only [Exit.inBlock, Exit.then])
  refine bodyPost_ret (results_frame rfl _ _ w.heap.size rfl (Blk.new w 0 0 0 _)) rfl ?_
  exact ⟨rfl, ((Grw.refl w).alloc _).below⟩
set_option maxHeartbeats 1000000 in
theorem parse_sum (s : ByteArray) (w : World) (h : ¬ s.size < 11) (hs : s.size ≤ 1099511627776) (ho : okB s = false) :
    Calls Try.prog 20 #[.string s] w fun e w' => e = .returned (.tuple #[.agg #[.int .i64 0, .int .i64 0, .int .i64 0, .string { data := #[] }], .int .i64 8]) ∧ Below w.heap.size w w' := by
  have h1 : ¬ (s.size : Int) < 11 := by omega
  have hp := fun W => open_any s W hs
  rw [ho] at hp
  go_enter Try.func20, Try.ntmps20
  go_wp2_with fail
  refine (hp _).mono ?_
  rintro e w1 ⟨rfl, G1⟩
  have B1 : Blk w1 w.heap.size 0 0 0 { data := #[] } := (Blk.new w 0 0 0 { data := #[] }).below G1.below (by simp)
  go_wp2_with (refine store_frame rfl (.tmp 2) (.tmp 17) rfl w.heap.size 0 0 0 { data := #[] } rfl rfl B1 ?_)
  (try simp only [Exit.inBlock, Exit.then])
  refine bodyPost_ret (results_frame rfl _ _ w.heap.size rfl (B1.put _ _ _ _)) rfl ?_
  exact ⟨rfl, below_setRow (((Grw.refl w).alloc _).trans G1).below (Nat.le_refl _) _⟩
set_option maxHeartbeats 1000000 in
theorem parse_open (s : ByteArray) (w : World) (h : ¬ s.size < 11) (hs : s.size ≤ 1099511627776) (ho : okB s = true) :
    Calls Try.prog 20 #[.string s] w fun e w' => e = .returned (.tuple #[.agg #[.int .i64 (pk s : Nat), .int .i64 (pf s : Nat), .int .i64 (pt s : Nat), .string (pbody s)], .int .i64 (pc s : Nat)]) ∧ Below w.heap.size w w' := by
  have h1 : ¬ (s.size : Int) < 11 := by omega
  have hz := openS_size h ho
  have hp := fun W => open_any s W hs
  rw [ho] at hp
  have hc := pc_open h ho
  have hr := fun W b (hR : Rd W b (openS s) 0) => read_any W b (openS s) hR (by omega) (by omega) (pk s) (pf s) (pt s) (pc s) (pbody s) hc.symm
    (fun hn => ⟨pk_bad hn, pf_bad hn, pt_bad hn, pbody_bad hn⟩) (fun hn => ⟨by unfold pk; rw [if_pos hn], by unfold pf; rw [if_pos hn], by unfold pt; rw [if_pos hn], by unfold pbody; rw [if_pos hn]⟩)
  have hz2 : (openS s).size ≤ 9223372036854775807 := by omega
  clear hc hz ho h hs
  generalize pk s = k at *
  generalize pf s = f at *
  generalize pt s = t at *
  generalize pc s = c at *
  generalize pbody s = y at *
  generalize openS s = u at *
  go_enter Try.func20, Try.ntmps20
  go_wp2_with fail
  refine (hp _).mono ?_
  rintro e w1 ⟨rfl, G1⟩
  have B1 : Blk w1 w.heap.size 0 0 0 { data := #[] } := (Blk.new w 0 0 0 { data := #[] }).below G1.below (by simp)
  have L1 : Below w.heap.size w w1 := (((Grw.refl w).alloc _).trans G1).below
  go_wp2_with fail
  refine (new_any _ _).mono ?_
  rintro e w2 ⟨rfl, hw2⟩
  have R2 : Rd w2 w1.heap.size u 0 := by rw [← hw2]; exact Rd.new w1 _ hz2
  have B2 : Blk w2 w.heap.size 0 0 0 { data := #[] } := by rw [← hw2]; exact B1.alloc _
  have L2 : Below w.heap.size w w2 := by rw [← hw2]; exact L1.alloc L1.size _
  have hlt := B1.lt
  clear hw2 L1 G1
  go_wp2_with fail
  refine (hr _ _ R2).mono ?_
  rintro e w3 ⟨rfl, L3⟩
  have B3 : Blk w3 w.heap.size 0 0 0 { data := #[] } := B2.below L3 hlt
  have L4 : Below w.heap.size w w3 := L2.trans (L3.mono (Nat.le_of_lt hlt))
  clear R2 B2 L2 L3 B1
  go_wp2_with (refine store_frame rfl (.tmp 2) (.tmp 21) rfl w.heap.size k f t y rfl rfl B3 ?_)
  (try simp only [Exit.inBlock, Exit.then])
  refine bodyPost_ret (results_frame rfl _ _ w.heap.size rfl (B3.put _ _ _ _)) rfl ?_
  exact ⟨rfl, below_setRow L4 (Nat.le_refl _) _⟩
theorem parse_any (s : ByteArray) (w : World) (hs : s.size ≤ 1099511627776) :
    Calls Try.prog 20 #[.string s] w fun e w' => e = .returned (.tuple #[.agg #[.int .i64 (pk s : Nat), .int .i64 (pf s : Nat), .int .i64 (pt s : Nat), .string (pbody s)], .int .i64 (pc s : Nat)]) ∧ Below w.heap.size w w' := by
  by_cases h : s.size < 11
  · have hc := pc_short h
    have hn : pc s ≠ 0 := by rw [hc]; decide
    rw [pk_bad hn, pf_bad hn, pt_bad hn, pbody_bad hn, hc]
    exact parse_short s w h
  cases ho : okB s with
  | false =>
    have hc := pc_sum h ho
    have hn : pc s ≠ 0 := by rw [hc]; decide
    rw [pk_bad hn, pf_bad hn, pt_bad hn, pbody_bad hn, hc]
    exact parse_sum s w h hs ho
  | true => exact parse_open s w h hs ho
end Go.Proofs.Ytibngfpjdookkaa
