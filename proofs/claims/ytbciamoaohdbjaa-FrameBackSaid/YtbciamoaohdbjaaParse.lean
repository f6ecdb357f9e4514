/- Parsing a frame: the program's. -/
import Derived.Test.YtbciamoaohdbjaaRead
set_option linter.unusedVariables false
set_option linter.unusedSimpArgs false
namespace Go.Proofs.Ytbciamoaohdbjaa
open Go.RowKit Go.Sort

theorem rc_of_fault {u : ByteArray} (h0 : byteAt u 0 = 197) (h1 : byteAt u 1 = 1) (h : fcode (byteAt u 2 : Nat) (byteAt u 3 : Nat) (byteAt u 4 : Nat) ((u.size - 7 : Nat) : Int) ≠ 0) :
    fcode (byteAt u 2 : Nat) (byteAt u 3 : Nat) (byteAt u 4 : Nat) ((u.size - 7 : Nat) : Int) = ((rc u : Nat) : Int) := by
  by_cases hk : byteAt u 2 < 1 ∨ 11 < byteAt u 2
  · rw [rc_kind h0 h1 hk, fcode_kind (by omega)]; rfl
  by_cases hr : 64 ≤ byteAt u 3 ∨ 64 ≤ byteAt u 4
  · rw [rc_range h0 h1 hk hr, fcode_range (by omega) (by omega)]; rfl
  by_cases hn : 32768 < u.size - 7
  · rw [rc_long h0 h1 hk hr (.inl hn), fcode_long (by omega) (by omega) (by omega)]; rfl
  exact absurd (fcode_ok (by omega) (by omega) (by omega)) h
theorem rc_of_rest {u : ByteArray} (h0 : byteAt u 0 = 197) (h1 : byteAt u 1 = 1) (h : fcode (byteAt u 2 : Nat) (byteAt u 3 : Nat) (byteAt u 4 : Nat) ((u.size - 7 : Nat) : Int) = 0) :
    rc u = if u.size - 7 = told u then 0 else 3 := by
  have hm := fcode_may h
  by_cases ht : u.size - 7 = told u
  · rw [if_pos ht, rc_ok h0 h1 (by omega) (by omega) (by omega)]
  · rw [if_neg ht, rc_long h0 h1 (by omega) (by omega) (.inr ht)]

theorem read_any (w : World) (b : Nat) (u : ByteArray) (h : Rd w b u 0) (h7 : 7 ≤ u.size) (hu : u.size ≤ 1099511627776) (k f t c : Nat) (y : ByteArray) (hc : rc u = c)
    (hz : c ≠ 0 → k = 0 ∧ f = 0 ∧ t = 0 ∧ y = { data := #[] }) (hy : c = 0 → k = byteAt u 2 ∧ f = byteAt u 3 ∧ t = byteAt u 4 ∧ y = u.extract 7 u.size) :
    Calls Try.prog 20 #[.pointer (some ⟨b, 0, none⟩)] w fun e w' => e = .returned (.tuple #[.agg #[.int .i64 (k : Int), .int .i64 (f : Int), .int .i64 (t : Int), .string y], .int .i64 (c : Int)]) ∧ Below b w w' := by
  have bad : c ≠ 0 → Calls Try.prog 20 #[.pointer (some ⟨b, 0, none⟩)] w (fun e w' => e = .returned (.tuple #[.agg #[.int .i64 0, .int .i64 0, .int .i64 0, .string { data := #[] }], .int .i64 (c : Int)]) ∧ Below b w w') →
      Calls Try.prog 20 #[.pointer (some ⟨b, 0, none⟩)] w fun e w' => e = .returned (.tuple #[.agg #[.int .i64 (k : Int), .int .i64 (f : Int), .int .i64 (t : Int), .string y], .int .i64 (c : Int)]) ∧ Below b w w' := by
    intro hn hh
    obtain ⟨rfl, rfl, rfl, rfl⟩ := hz hn
    exact hh
  by_cases h0 : byteAt u 0 = 197
  case neg =>
    rw [rc_form h0] at hc
    subst hc
    exact bad (by decide) (read_form w b u h h7 h0)
  by_cases h1 : byteAt u 1 = 1
  case neg =>
    rw [rc_version h0 h1] at hc
    subst hc
    exact bad (by decide) (read_version w b u h h7 h0 h1)
  by_cases hf : fcode (byteAt u 2 : Nat) (byteAt u 3 : Nat) (byteAt u 4 : Nat) ((u.size - 7 : Nat) : Int) = 0
  case neg =>
    have hr := rc_of_fault h0 h1 hf
    rw [hc] at hr
    exact bad (by intro e; rw [e] at hr; exact hf hr) (read_fault w b u h h7 h0 h1 c hr (by intro e; rw [e] at hr; exact hf hr))
  have hr := rc_of_rest h0 h1 hf
  by_cases ht : u.size - 7 = told u
  · rw [if_pos ht, hc] at hr
    subst hr
    obtain ⟨rfl, rfl, rfl, rfl⟩ := hy rfl
    exact read_ok w b u h h7 h0 h1 hu _ _ _ rfl rfl rfl hf ht
  · rw [if_neg ht, hc] at hr
    subst hr
    exact bad (by decide) (read_long w b u h h7 h0 h1 hf ht)

set_option maxHeartbeats 1000000 in
theorem parse_short (s : ByteArray) (w : World) (h : s.size < 11) :
    Calls Try.prog 12 #[.string s] w fun e w' => e = .returned (.tuple #[.agg #[.int .i64 0, .int .i64 0, .int .i64 0, .string { data := #[] }], .int .i64 2]) ∧ Below w.heap.size w w' := by
  have h1 : (s.size : Int) < 11 := by omega
  go_enter Try.func12, Try.ntmps12
  go_wp2
  (try simp only [Exit.inBlock, Exit.then])
  refine bodyPost_ret (results_frame rfl _ _ w.heap.size rfl (Blk.new w 0 0 0 _)) rfl ?_
  exact ⟨rfl, ((Grw.refl w).alloc _).below⟩
set_option maxHeartbeats 1000000 in
theorem parse_sum (s : ByteArray) (w : World) (h : ¬ s.size < 11) (hs : s.size ≤ 1099511627776) (ho : okB s = false) :
    Calls Try.prog 12 #[.string s] w fun e w' => e = .returned (.tuple #[.agg #[.int .i64 0, .int .i64 0, .int .i64 0, .string { data := #[] }], .int .i64 8]) ∧ Below w.heap.size w w' := by
  have h1 : ¬ (s.size : Int) < 11 := by omega
  have hp := fun W => open_any s W hs
  rw [ho] at hp
  go_enter Try.func12, Try.ntmps12
  go_wp2_with fail
  refine (hp _).mono ?_
  rintro e w1 ⟨rfl, G1⟩
  have B1 : Blk w1 w.heap.size 0 0 0 { data := #[] } := (Blk.new w 0 0 0 { data := #[] }).below G1.below (by simp)
  go_wp2_with (refine store_frame rfl (.tmp 2) (.tmp 17) rfl w.heap.size 0 0 0 { data := #[] } rfl rfl B1 ?_)
  (try simp only [Exit.inBlock, Exit.then])
  refine bodyPost_ret (results_frame rfl _ _ w.heap.size rfl (B1.put _ _ _ _)) rfl ?_
  exact ⟨rfl, below_setRow (((Grw.refl w).alloc _).trans G1).below (Nat.le_refl _) _⟩
set_option maxHeartbeats 1000000 in
theorem parse_open (s : ByteArray) (w : World) (h : ¬ s.size < 11) (hs : s.size ≤ 1099511627776) (ho : okB s = true) :
    Calls Try.prog 12 #[.string s] w fun e w' => e = .returned (.tuple #[.agg #[.int .i64 (pk s : Nat), .int .i64 (pf s : Nat), .int .i64 (pt s : Nat), .string (pbody s)], .int .i64 (pc s : Nat)]) ∧ Below w.heap.size w w' := by
  have h1 : ¬ (s.size : Int) < 11 := by omega
  have hz := openS_size h ho
  have hp := fun W => open_any s W hs
  rw [ho] at hp
  have hc := pc_open h ho
  have hr := fun W b (hR : Rd W b (openS s) 0) => read_any W b (openS s) hR (by omega) (by omega) (pk s) (pf s) (pt s) (pc s) (pbody s) hc.symm
    (fun hn => ⟨pk_bad hn, pf_bad hn, pt_bad hn, pbody_bad hn⟩) (fun hn => ⟨by unfold pk; rw [if_pos hn], by unfold pf; rw [if_pos hn], by unfold pt; rw [if_pos hn], by unfold pbody; rw [if_pos hn]⟩)
  have hz2 : (openS s).size ≤ 9223372036854775807 := by omega
  clear hc hz ho h hs
  generalize pk s = k at *
  generalize pf s = f at *
  generalize pt s = t at *
  generalize pc s = c at *
  generalize pbody s = y at *
  generalize openS s = u at *
  go_enter Try.func12, Try.ntmps12
  go_wp2_with fail
  refine (hp _).mono ?_
  rintro e w1 ⟨rfl, G1⟩
  have B1 : Blk w1 w.heap.size 0 0 0 { data := #[] } := (Blk.new w 0 0 0 { data := #[] }).below G1.below (by simp)
  have L1 : Below w.heap.size w w1 := (((Grw.refl w).alloc _).trans G1).below
  go_wp2_with fail
  refine (new_any _ _).mono ?_
  rintro e w2 ⟨rfl, hw2⟩
  have R2 : Rd w2 w1.heap.size u 0 := by rw [← hw2]; exact Rd.new w1 _ hz2
  have B2 : Blk w2 w.heap.size 0 0 0 { data := #[] } := by rw [← hw2]; exact B1.alloc _
  have L2 : Below w.heap.size w w2 := by rw [← hw2]; exact L1.alloc L1.size _
  have hlt := B1.lt
  clear hw2 L1 G1
  go_wp2_with fail
  refine (hr _ _ R2).mono ?_
  rintro e w3 ⟨rfl, L3⟩
  have B3 : Blk w3 w.heap.size 0 0 0 { data := #[] } := B2.below L3 hlt
  have L4 : Below w.heap.size w w3 := L2.trans (L3.mono (Nat.le_of_lt hlt))
  clear R2 B2 L2 L3 B1
  go_wp2_with (refine store_frame rfl (.tmp 2) (.tmp 21) rfl w.heap.size k f t y rfl rfl B3 ?_)
  (try simp only [Exit.inBlock, Exit.then])
  refine bodyPost_ret (results_frame rfl _ _ w.heap.size rfl (B3.put _ _ _ _)) rfl ?_
  exact ⟨rfl, below_setRow L4 (Nat.le_refl _) _⟩
theorem parse_any (s : ByteArray) (w : World) (hs : s.size ≤ 1099511627776) :
    Calls Try.prog 12 #[.string s] w fun e w' => e = .returned (.tuple #[.agg #[.int .i64 (pk s : Nat), .int .i64 (pf s : Nat), .int .i64 (pt s : Nat), .string (pbody s)], .int .i64 (pc s : Nat)]) ∧ Below w.heap.size w w' := by
  by_cases h : s.size < 11
  · have hc := pc_short h
    have hn : pc s ≠ 0 := by rw [hc]; decide
    rw [pk_bad hn, pf_bad hn, pt_bad hn, pbody_bad hn, hc]
    exact parse_short s w h
  cases ho : okB s with
  | false =>
    have hc := pc_sum h ho
    have hn : pc s ≠ 0 := by rw [hc]; decide
    rw [pk_bad hn, pf_bad hn, pt_bad hn, pbody_bad hn, hc]
    exact parse_sum s w h hs ho
  | true => exact parse_open s w h hs ho
end Go.Proofs.Ytbciamoaohdbjaa
