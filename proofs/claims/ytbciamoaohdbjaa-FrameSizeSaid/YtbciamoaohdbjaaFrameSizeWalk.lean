/- The walk of 'FrameSize'. -/
import Derived.Test.YtbciamoaohdbjaaFrameAwake
set_option linter.unusedVariables false
set_option linter.unusedSimpArgs false
namespace Go.Proofs.Ytbciamoaohdbjaa
open Go.RowKit Go.Sort

theorem printz_left {k f t : Nat} (b : ByteArray) (hk : k < 256) (hf : f < 256) (ht : t < 256) : byteAt (printz k f t b) 2 = k ∧ byteAt (printz k f t b) 3 = f ∧ byteAt (printz k f t b) 4 = t := by
  obtain ⟨_, _, e2, e3, e4, _, _⟩ := byteAt_body b hk hf ht
  unfold printz sealz
  rw [byteAt_left (by rw [body_size]; omega), byteAt_left (by rw [body_size]; omega), byteAt_left (by rw [body_size]; omega)]
  exact ⟨e2, e3, e4⟩
theorem printz_body (k f t : Nat) (b : ByteArray) : (printz k f t b).extract 7 (7 + b.size) = b := by
  apply nats_inj
  rw [nats_extract]
  unfold printz sealz body
  rw [nats_append, nats_append, List.append_assoc, List.drop_left' (by rw [nats_length, headz_size]), Nat.add_sub_cancel_left, List.take_left' (nats_length b)]

theorem may_not {k f t n : Int} (hn : fcode k f t n ≠ 0) : ¬ 1 ≤ k ∨ (1 ≤ k ∧ ¬ k ≤ 11) ∨ (1 ≤ k ∧ k ≤ 11 ∧ ¬ 0 ≤ f) ∨ (1 ≤ k ∧ k ≤ 11 ∧ 0 ≤ f ∧ ¬ f ≤ 63) ∨ (1 ≤ k ∧ k ≤ 11 ∧ 0 ≤ f ∧ f ≤ 63 ∧ ¬ 0 ≤ t) ∨
    (1 ≤ k ∧ k ≤ 11 ∧ 0 ≤ f ∧ f ≤ 63 ∧ 0 ≤ t ∧ ¬ t ≤ 63) ∨ (1 ≤ k ∧ k ≤ 11 ∧ 0 ≤ f ∧ f ≤ 63 ∧ 0 ≤ t ∧ t ≤ 63 ∧ ¬ n ≤ 32768) := by
  by_cases hk : k < 1 ∨ 11 < k
  · omega
  by_cases hr : f < 0 ∨ 64 ≤ f ∨ t < 0 ∨ 64 ≤ t
  · omega
  by_cases hl : 32768 < n
  · omega
  exact absurd (fcode_ok hk hr hl) hn

set_option maxHeartbeats 4000000 in
theorem walk_FrameSize (k f t : Int) (wk : (Lit.int .i64 k).wf = true) (wf : (Lit.int .i64 f).wf = true) (wt : (Lit.int .i64 t).wf = true) (b : ByteArray) (wb : b.size ≤ maxLen) (w : World) :
    Calls Try.prog 7 #[.agg #[.int .i64 k, .int .i64 f, .int .i64 t, .string b]] w fun e w' => e = .returned (.bool true) ∧ Below w.heap.size w w' := by
  have mixed : Try.prog.follows .mixedOrders = true := by kernel_rfl
  by_cases h1 : (40000 : Int) < b.size
  · go_enter Try.func7, Try.ntmps7
    go_wp2_with fail
    refine (frameAwake_any _).mono ?_
    rintro e w1 ⟨rfl, L1⟩
    have B1 := (Box4.new w k f t b 23).below L1
    have d3 := B1.c3
    have L : Below w.heap.size w w1 := ((Grw.refl w).alloc _).below.trans (L1.mono (by simp))
    clear B1 L1
    go_wp2
    go_ret
    exact ⟨rfl, L⟩
  have hb : b.size ≤ 1099511627776 := by omega
  cases hc : decide (fcode k f t b.size = 0) with
  | true =>
    have hc := of_decide_eq_true hc
    have hm := fcode_may hc
    obtain ⟨k, rfl⟩ := Int.eq_ofNat_of_zero_le (show 0 ≤ k by omega)
    obtain ⟨f, rfl⟩ := Int.eq_ofNat_of_zero_le (show 0 ≤ f by omega)
    obtain ⟨t, rfl⟩ := Int.eq_ofNat_of_zero_le (show 0 ≤ t by omega)
    have p1 := fun W => print_yes k f t b W hb hc
    obtain ⟨e2, e3, e4⟩ := printz_left (k := k) (f := f) (t := t) b (by omega) (by omega) (by omega)
    have ex := printz_body k f t b
    have ez := printz_size k f t b
    generalize printz k f t b = z at *
    obtain ⟨m, hm7⟩ : ∃ m, 7 + b.size = m := ⟨_, rfl⟩
    rw [hm7] at ex
    have q7 : 7 + (b.size : Int) = (m : Int) := by omega
    have q11 : 11 + (b.size : Int) = (z.size : Int) := by omega
    have vm : IntKind.i64.wrap (m : Int) = m := by rw [IntKind.wrap_i64]; omega
    have vz : IntKind.i64.wrap (z.size : Int) = z.size := by rw [IntKind.wrap_i64]; omega
    have m1 : (7 : Int) ≤ (m : Int) := by omega
    have m2 : (m : Int) ≤ (z.size : Int) := by omega
    have m3 : 7 ≤ m := by omega
    have m4 : m ≤ z.size := by omega
    have i2 : 2 < z.size := by omega
    have i3 : 3 < z.size := by omega
    have i4 : 4 < z.size := by omega
    have g2 : z[2].toNat = k := (byteAt_get i2).trans e2
    have g3 : z[3].toNat = f := (byteAt_get i3).trans e3
    have g4 : z[4].toNat = t := (byteAt_get i4).trans e4
    have z2 : (2 : Int) < (z.size : Int) := by omega
    have z3 : (3 : Int) < (z.size : Int) := by omega
    have z4 : (4 : Int) < (z.size : Int) := by omega
    have v2 : IntKind.i64.wrap (k : Int) = k := by rw [IntKind.wrap_i64]; omega
    have v3 : IntKind.i64.wrap (f : Int) = f := by rw [IntKind.wrap_i64]; omega
    have v4 : IntKind.i64.wrap (t : Int) = t := by rw [IntKind.wrap_i64]; omega
    have hlen : ¬ (40000 : Int) < (b.size : Int) := h1
    have a1 : (1 : Int) ≤ (k : Int) := by omega
    have a2 : (k : Int) ≤ 11 := by omega
    have a3 : (f : Int) ≤ 63 := by omega
    have a4 : (t : Int) ≤ 63 := by omega
    have a5 : (b.size : Int) ≤ 32768 := by omega
    clear hc hm wk wf wt wb hb e2 e3 e4 ez hm7 h1
    go_enter Try.func7, Try.ntmps7
    go_wp2_with fail
    refine (frameAwake_any _).mono ?_
    rintro e w1 ⟨rfl, L1⟩
    have B1 := (Box4.new w k f t b 23).below L1
    have L : Below w.heap.size w w1 := ((Grw.refl w).alloc _).below.trans (L1.mono (by simp))
    have HL := Lib.hid L
    have HB := Lib.hid B1
    have d0 := B1.c0
    have d1 := B1.c1
    have d2 := B1.c2
    have d3 := B1.c3
    clear B1 L1 L
    go_wp2_with fail
    refine (p1 _).mono ?_
    rintro e w2 ⟨rfl, L2⟩
    have B2 := HB.out.below L2
    clear d0 d1 d2 d3
    have d0 := B2.c0
    have d1 := B2.c1
    have d2 := B2.c2
    have d3 := B2.c3
    have HL2 := Lib.hid (HL.out.trans (L2.mono HL.out.size))
    have HB2 := Lib.hid B2
    clear B2 L2 HL HB
    go_wp2
    have c0 := fun n os => (HB2.out.form n os).c0
    have c1 := fun n os => (HB2.out.form n os).c1
    have c2 := fun n os => (HB2.out.form n os).c2
    have c3 := fun n os => (HB2.out.form n os).c3
    clear d0 d1 d2 d3
    refine wp_region_quiet_below (by assumption) (by kernel_rfl) ?_
    repeat (quiet_step (fail))
    refine wpQuiet_nil ?_
    intro _ hw'
    obtain ⟨⟨nq, osq⟩, hw''⟩ := hw'
    subst hw''
    go_wp2
    go_ret
    exact ⟨rfl, HL2.out.trans ((below_of_form w2 nq osq).mono HL2.out.size)⟩
  | false =>
    have hn := of_decide_eq_false hc
    have hcs := may_not hn
    obtain ⟨c, hcc⟩ : ∃ c, fcode k f t b.size = c := ⟨_, rfl⟩
    rw [hcc] at hn
    have p1 := fun W => print_no k f t b W hb c hcc hn
    have hcb : (c != 0) = true := by simpa using hn
    clear hc hcc wk wf wt wb hb hn
    have h1' : ¬ (40000 : Int) < (b.size : Int) := h1
    rcases hcs with q1 | ⟨q1, q2⟩ | ⟨q1, q2, q3⟩ | ⟨q1, q2, q3, q4⟩ | ⟨q1, q2, q3, q4, q5⟩ | ⟨q1, q2, q3, q4, q5, q6⟩ | ⟨q1, q2, q3, q4, q5, q6, q7⟩
    all_goals
      try have q8 : decide ((b.size : Int) ≤ 32768) = false := decide_eq_false q7
      try have q9 : decide (b.size ≤ 32768) = false := decide_eq_false (by omega)
      go_enter Try.func7, Try.ntmps7
      go_wp2_with fail
      refine (frameAwake_any _).mono ?_
      rintro e w1 ⟨rfl, L1⟩
      have B1 := (Box4.new w k f t b 23).below L1
      have L : Below w.heap.size w w1 := ((Grw.refl w).alloc _).below.trans (L1.mono (by simp))
      have HL := Lib.hid L
      have HB := Lib.hid B1
      have d0 := B1.c0
      have d1 := B1.c1
      have d2 := B1.c2
      have d3 := B1.c3
      clear B1 L1 L
      go_wp2_with fail
      refine (p1 _).mono ?_
      rintro e w2 ⟨rfl, L2⟩
      have B2 := HB.out.below L2
      clear d0 d1 d2 d3
      have d0 := B2.c0
      have d1 := B2.c1
      have d2 := B2.c2
      have d3 := B2.c3
      have HL2 := Lib.hid (HL.out.trans (L2.mono HL.out.size))
      clear B2 L2 HL HB
      go_wp2
      go_ret
      exact ⟨rfl, HL2.out⟩
end Go.Proofs.Ytbciamoaohdbjaa
