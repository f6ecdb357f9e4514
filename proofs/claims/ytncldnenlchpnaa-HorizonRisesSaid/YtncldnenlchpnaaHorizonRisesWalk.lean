/- The walk of 'HorizonRises'. (Written by gen_hrises.py.) -/
import Derived.Test.YtncldnenlchpnaaHzRun
set_option linter.unusedVariables false
set_option linter.unusedSimpArgs false
namespace Go.Proofs.Ytncldnenlchpnaa
open Go.RowKit Go.Sort Go.Shelf

theorem oth_run (H : Hz) : ∀ l : List ZA, (runZ H l).oth = H.oth
  | [] => rfl
  | a :: l => (oth_run (stepZ H a) l).trans (step_oth H a)
/-- What a round of the law asks. -/
structure RiseF (H H' : Hz) (a : ZA) : Prop where
  t1 : decide (allN H' < allN H) = false
  t2 : decide (safeN H' < safeN H) = false
  t3 : decide (H'.clock < H.clock) = false
  t4 : decide (allN H' < safeN H') = false
  t5 : decide (H'.clock < allN H') = false
  t6 : a.kind = 3 → decide (ansZ H a ≤ H.clock) = false ∨ (decide (ansZ H a ≤ H.clock) = true ∧ H.clock = 18446744073709551615)
  t7 : H'.oth = 0 → allN H' = H'.clock ∧ safeN H' = H'.clock
theorem rise_of {H : Hz} (h : H.ok) (a : ZA) : RiseF H (stepZ H a) a := by
  have u := step_up H a h.c
  have hc := h.c
  refine ⟨decide_eq_false (Nat.not_lt.2 (up_all u)), decide_eq_false (Nat.not_lt.2 (up_safe u)), decide_eq_false (Nat.not_lt.2 u.clock), decide_eq_false (Nat.not_lt.2 (safeN_le _)), decide_eq_false (Nat.not_lt.2 (allN_le _)), fun hk => ?_, fun ho => alone_all ho⟩
  obtain ⟨_, e⟩ := stepZ_3 (H := H) hk
  rw [e]
  show decide (min (H.clock + 1) 18446744073709551615 ≤ H.clock) = false ∨ _
  by_cases hm : H.clock = 18446744073709551615
  · refine .inr ⟨decide_eq_true ?_, hm⟩
    show min (H.clock + 1) 18446744073709551615 ≤ H.clock
    omega
  · refine .inl (decide_eq_false ?_)
    omega
set_option maxHeartbeats 16000000 in
set_option maxRecDepth 100000 in
theorem full_HorizonRises (me : Int) (s : Nat) (ao : Option Addr) (len cap : Nat) (l : List ZA) (w : World) (m0 : -9223372036854775808 ≤ me) (m1 : me ≤ 9223372036854775807) (hs : s < 18446744073709551616)
    (hl : Lst encZ 4 w ao len l) (hok : ∀ m ∈ l, m.ok) (hle : len ≤ maxLen) :
    Calls Try.prog 3 #[.int .i64 me, .int .u64 (s : Int), .slice ao len cap] w fun e w' => e = .returned (.bool true) ∧ Below w.heap.size w w' := by
  have hlen := hl.size
  have HL := Lib.hid hl
  have HOK := Lib.hid hok
  have HLEN := Lib.hid hlen
  clear hl hok hlen
  unfold maxLen at hle
  by_cases h1 : (300 : Int) < (len : Int)
  · have d1 : decide ((300 : Int) < (len : Int)) = true := by simp; omega
    go_enter Try.func3, Try.ntmps3
    go_wp2_with (go_at_call 7; refine (zawake _).mono ?_; rintro e w1 ⟨rfl, L1⟩)
    go_ret
    exact ⟨rfl, L1⟩
  have d1 : decide ((300 : Int) < (len : Int)) = false := by simp; omega
  have hl300 : len ≤ 300 := by omega
  clear h1
  go_enter Try.func3, Try.ntmps3
  go_wp2_with fail
  refine (zawake _).mono ?_
  rintro e w1 ⟨rfl, L1⟩
  have HN := Lib.hid (NewZ.made me s L1 hs m0 m1)
  have HOT := Lib.hid (show (newZ me s).oth = but s (onl me) from rfl)
  have HW0 := Lib.hid (show (newZ me s).wait.length = 0 from rfl)
  generalize newZ me s = H0 at *
  clear L1
  go_wp2_with fail
  refine HN.out.mono ?_
  rintro e w2 ⟨rfl, N2⟩
  generalize w1.heap.size + 1 = g at *
  have N2 := Lib.hid N2
  clear HN
  go_wp2
  go_loopw [8] (fun si wr => ∃ k : Nat, k ≤ len ∧ si = .int .i64 k ∧ Aside (NewZ w wr g (runZ H0 (l.take k)))) (fun si _ => len - (intOf si).toNat)
  case atStart => exact ⟨0, Nat.zero_le _, rfl, by rw [List.take_zero]; exact N2.out⟩
  case round =>
    obtain ⟨k, hk, rfl, N⟩ := hrel
    clear N2
    by_cases hlt : k < len
    · have hil : k < l.length := by rw [HLEN.out]; omega
      obtain ⟨b, o, rfl, R⟩ := HL.out.src (by omega)
      have hx := List.getElem?_eq_getElem hil
      have ha := HOK.out _ (List.getElem_mem hil)
      generalize l[k] = a at hx ha
      have HR := Lib.hid (show wr.rangeAt b (o + k * 4) (encZ a) from fun j v hj => cell_later N.out.below (za_range R k a hx j v hj))
      have HKC := Lib.hid (show w.cell? ⟨b, o + k * 4, none⟩ = some (.int .i64 a.kind) from R k a hx 0 _ rfl)
      have HT := Lib.hid (runZ_take H0 l k a hx)
      have HF := rise_of N.out.ok a
      have HOH := Lib.hid ((step_oth (runZ H0 (l.take k)) a).trans ((oth_run H0 (l.take k)).trans HOT.out))
      have hfew := run_few H0 l k 99999 HW0.out (by omega)
      have HD := Lib.hid (N.out.act hfew a ha)
      have Q1 := Lib.hid N.out.all
      have Q2 := Lib.hid N.out.safe
      have Q3 := Lib.hid N.out.clk
      have hcl := N.out.ok.c
      generalize runZ H0 (l.take k) = H at *
      obtain ⟨H', hH'⟩ : ∃ H', H' = stepZ H a := ⟨_, rfl⟩
      rw [← hH'] at HF HD HT HOH
      replace hH' := Lib.hid hH'
      obtain ⟨t1, t2, t3, t4, t5, t6, t7⟩ := HF
      replace t6 := Lib.hid t6
      replace t7 := Lib.hid t7
      clear R hx hil N hfew
      go_wp2_with fail
      refine Q1.out.mono ?_
      rintro e w' ⟨rfl, rfl⟩
      go_wp2_with fail
      refine Q2.out.mono ?_
      rintro e w' ⟨rfl, rfl⟩
      go_wp2_with fail
      refine Q3.out.mono ?_
      rintro e w' ⟨rfl, rfl⟩
      clear Q1 Q2 Q3
      go_wp2_with (first | (with_reducible refine load_za rfl (.tmp 36) rfl b (o + k * 4) a rfl HR.out ?_) | fail)
      refine HD.out.mono ?_
      rintro e w3 ⟨rfl, N3⟩
      have Q1 := Lib.hid N3.all
      have Q2 := Lib.hid N3.safe
      have Q3 := Lib.hid N3.clk
      have kc := cell_later N3.below HKC.out
      have BV := ((Grw.refl w3).alloc (.cells #[.int .i64 me] 3)).below
      have N4 := N3.later BV
      have P1 := Lib.hid N4.all
      have P2 := Lib.hid N4.safe
      have P3 := Lib.hid N4.clk
      have HLS := less_any s (some ⟨w3.heap.size, 0, none⟩) 1 1 [me] _ hs (InI.oneZ w3 me m0 m1) (by decide)
      rw [ofl_oneZ, ← HOH.out] at HLS
      have HLS := Lib.hid HLS
      have N4 := Lib.hid N4
      have HNN := Lib.hid (show H'.oth = H'.oth from rfl)
      obtain ⟨x, hx⟩ : ∃ x, x = H'.oth := ⟨_, rfl⟩
      rw [← hx] at HLS t7
      replace hx := Lib.hid hx
      generalize ansZ H a = n at *
      generalize allN H = a1 at *
      generalize safeN H = s1 at *
      generalize H.clock = c1 at *
      generalize allN H' = a2 at *
      generalize safeN H' = s2 at *
      generalize H'.clock = c2 at *
      clear N3 BV HD HKC HR HOH HNN HOT ha
      cases hk3 : (a.kind == 3) with
      | false =>
        clear t6
        by_cases hz : x = 0
        · obtain ⟨q1, q2⟩ := t7.out hz
          subst q1 q2 hz
          clear t7
          go_wp2_with (first | (go_at_call 9; refine Q1.out.mono ?_; rintro e w' ⟨rfl, rfl⟩) | (go_at_call 10; refine Q2.out.mono ?_; rintro e w' ⟨rfl, rfl⟩) | (go_at_call 11; refine Q3.out.mono ?_; rintro e w' ⟨rfl, rfl⟩) | fail)
          refine HLS.out.mono ?_
          rintro e w' ⟨rfl, rfl⟩
          clear Q1 Q2 Q3 HLS kc t1 t2 t3 t4 t5
          generalize (w3.alloc (.cells #[.int .i64 me] 3)) = w4 at *
          go_wp2_with (first | (go_at_call 9; refine P1.out.mono ?_; rintro e w' ⟨rfl, rfl⟩) | (go_at_call 10; refine P2.out.mono ?_; rintro e w' ⟨rfl, rfl⟩) | (go_at_call 11; refine P3.out.mono ?_; rintro e w' ⟨rfl, rfl⟩))
          go_roundw
          case rel => exact ⟨k + 1, by omega, by go_num, by rw [HT.out]; exact N4.out⟩
          case measure => simp [intOf]; omega
        · have hzb : ((x : Int) == 0) = false := by simp; omega
          clear t7
          go_wp2_with (first | (go_at_call 9; refine Q1.out.mono ?_; rintro e w' ⟨rfl, rfl⟩) | (go_at_call 10; refine Q2.out.mono ?_; rintro e w' ⟨rfl, rfl⟩) | (go_at_call 11; refine Q3.out.mono ?_; rintro e w' ⟨rfl, rfl⟩) | fail)
          refine HLS.out.mono ?_
          rintro e w' ⟨rfl, rfl⟩
          clear Q1 Q2 Q3 HLS kc t1 t2 t3 t4 t5
          generalize (w3.alloc (.cells #[.int .i64 me] 3)) = w4 at *
          go_wp2_with (first | (go_at_call 9; refine P1.out.mono ?_; rintro e w' ⟨rfl, rfl⟩) | (go_at_call 10; refine P2.out.mono ?_; rintro e w' ⟨rfl, rfl⟩) | (go_at_call 11; refine P3.out.mono ?_; rintro e w' ⟨rfl, rfl⟩))
          go_roundw
          case rel => exact ⟨k + 1, by omega, by go_num, by rw [HT.out]; exact N4.out⟩
          case measure => simp [intOf]; omega
      | true =>
        have hk3' : a.kind = 3 := by simpa using hk3
        rcases t6.out hk3' with t6a | ⟨t6a, t6b⟩
        · clear t6 hk3'
          by_cases hz : x = 0
          · obtain ⟨q1, q2⟩ := t7.out hz
            subst q1 q2 hz
            clear t7
            go_wp2_with (first | (go_at_call 9; refine Q1.out.mono ?_; rintro e w' ⟨rfl, rfl⟩) | (go_at_call 10; refine Q2.out.mono ?_; rintro e w' ⟨rfl, rfl⟩) | (go_at_call 11; refine Q3.out.mono ?_; rintro e w' ⟨rfl, rfl⟩) | fail)
            refine HLS.out.mono ?_
            rintro e w' ⟨rfl, rfl⟩
            clear Q1 Q2 Q3 HLS kc t1 t2 t3 t4 t5
            generalize (w3.alloc (.cells #[.int .i64 me] 3)) = w4 at *
            go_wp2_with (first | (go_at_call 9; refine P1.out.mono ?_; rintro e w' ⟨rfl, rfl⟩) | (go_at_call 10; refine P2.out.mono ?_; rintro e w' ⟨rfl, rfl⟩) | (go_at_call 11; refine P3.out.mono ?_; rintro e w' ⟨rfl, rfl⟩))
            go_roundw
            case rel => exact ⟨k + 1, by omega, by go_num, by rw [HT.out]; exact N4.out⟩
            case measure => simp [intOf]; omega
          · have hzb : ((x : Int) == 0) = false := by simp; omega
            clear t7
            go_wp2_with (first | (go_at_call 9; refine Q1.out.mono ?_; rintro e w' ⟨rfl, rfl⟩) | (go_at_call 10; refine Q2.out.mono ?_; rintro e w' ⟨rfl, rfl⟩) | (go_at_call 11; refine Q3.out.mono ?_; rintro e w' ⟨rfl, rfl⟩) | fail)
            refine HLS.out.mono ?_
            rintro e w' ⟨rfl, rfl⟩
            clear Q1 Q2 Q3 HLS kc t1 t2 t3 t4 t5
            generalize (w3.alloc (.cells #[.int .i64 me] 3)) = w4 at *
            go_wp2_with (first | (go_at_call 9; refine P1.out.mono ?_; rintro e w' ⟨rfl, rfl⟩) | (go_at_call 10; refine P2.out.mono ?_; rintro e w' ⟨rfl, rfl⟩) | (go_at_call 11; refine P3.out.mono ?_; rintro e w' ⟨rfl, rfl⟩))
            go_roundw
            case rel => exact ⟨k + 1, by omega, by go_num, by rw [HT.out]; exact N4.out⟩
            case measure => simp [intOf]; omega
        · have t6c : ((c1 : Int) != 18446744073709551615) = false := by rw [t6b]; rfl
          clear t6 hk3' t6b
          by_cases hz : x = 0
          · obtain ⟨q1, q2⟩ := t7.out hz
            subst q1 q2 hz
            clear t7
            go_wp2_with (first | (go_at_call 9; refine Q1.out.mono ?_; rintro e w' ⟨rfl, rfl⟩) | (go_at_call 10; refine Q2.out.mono ?_; rintro e w' ⟨rfl, rfl⟩) | (go_at_call 11; refine Q3.out.mono ?_; rintro e w' ⟨rfl, rfl⟩) | fail)
            refine HLS.out.mono ?_
            rintro e w' ⟨rfl, rfl⟩
            clear Q1 Q2 Q3 HLS kc t1 t2 t3 t4 t5
            generalize (w3.alloc (.cells #[.int .i64 me] 3)) = w4 at *
            go_wp2_with (first | (go_at_call 9; refine P1.out.mono ?_; rintro e w' ⟨rfl, rfl⟩) | (go_at_call 10; refine P2.out.mono ?_; rintro e w' ⟨rfl, rfl⟩) | (go_at_call 11; refine P3.out.mono ?_; rintro e w' ⟨rfl, rfl⟩))
            go_roundw
            case rel => exact ⟨k + 1, by omega, by go_num, by rw [HT.out]; exact N4.out⟩
            case measure => simp [intOf]; omega
          · have hzb : ((x : Int) == 0) = false := by simp; omega
            clear t7
            go_wp2_with (first | (go_at_call 9; refine Q1.out.mono ?_; rintro e w' ⟨rfl, rfl⟩) | (go_at_call 10; refine Q2.out.mono ?_; rintro e w' ⟨rfl, rfl⟩) | (go_at_call 11; refine Q3.out.mono ?_; rintro e w' ⟨rfl, rfl⟩) | fail)
            refine HLS.out.mono ?_
            rintro e w' ⟨rfl, rfl⟩
            clear Q1 Q2 Q3 HLS kc t1 t2 t3 t4 t5
            generalize (w3.alloc (.cells #[.int .i64 me] 3)) = w4 at *
            go_wp2_with (first | (go_at_call 9; refine P1.out.mono ?_; rintro e w' ⟨rfl, rfl⟩) | (go_at_call 10; refine P2.out.mono ?_; rintro e w' ⟨rfl, rfl⟩) | (go_at_call 11; refine P3.out.mono ?_; rintro e w' ⟨rfl, rfl⟩))
            go_roundw
            case rel => exact ⟨k + 1, by omega, by go_num, by rw [HT.out]; exact N4.out⟩
            case measure => simp [intOf]; omega
    · obtain rfl : k = len := by omega
      have HB := Lib.hid N.out.below
      clear N
      go_wp2
      go_ret
      exact ⟨rfl, HB.out⟩
theorem walk_HorizonRises {w : World} (a : Int) (wa : (Lit.int .i64 a).wf = true) (b : Int) (wb : (Lit.int .u64 b).wf = true) (ao : Option Addr) (len cap : Nat) (l : List ZA) (hl : Lst encZ 4 w ao len l ∧ len ≤ maxLen ∧ ∀ m ∈ l, m.ok) :
    Calls Try.prog 3 #[.int .i64 a, .int .u64 b, .slice ao len cap] w fun e w' => e = .returned (.bool true) ∧ Below w.heap.size w w' := by
  have b0 := Go.bounds_i64 wa
  have b1 := Go.bounds_u64 wb
  obtain ⟨b, rfl⟩ := Int.eq_ofNat_of_zero_le (show 0 ≤ b by omega)
  exact full_HorizonRises a b ao len cap l w (by omega) (by omega) (by omega) hl.1 hl.2.2 hl.2.1
end Go.Proofs.Ytncldnenlchpnaa
