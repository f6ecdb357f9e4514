/- Plans: what is told of one; ahead of an end, behind one. -/
import Derived.Test.YthgdiihibjnhoaaPlAt
set_option linter.unusedVariables false
set_option maxRecDepth 100000
set_option linter.unusedSimpArgs false
namespace Go.Proofs.Ythgdiihibjnhoaa
open Go.RowKit Go.Sort Go.Shelf

theorem pproc (p : Int) (w : World) (p0 : -9223372036854775808 ≤ p) (p1 : p ≤ 9223372036854775807) :
    Calls Try.prog 26 #[.int .i64 p] w fun e w' => e = .returned (.bool (decide (0 ≤ p) && decide (p < 64))) ∧ w = w' := by
  by_cases h : 0 ≤ p
  · go_enter Try.func26, Try.ntmps26
    go_wp2
    go_ret
    exact ⟨by rw [decide_eq_true h]; rfl, rfl⟩
  · go_enter Try.func26, Try.ntmps26
    go_wp2
    go_ret
    exact ⟨by rw [decide_eq_false (by omega)]; rfl, rfl⟩
section
variable {w : World} {g : Nat} {P : Pn}
theorem pcomp (h : PlB w g P) :
    Calls Try.prog 12 #[.pointer (some ⟨g, 0, none⟩)] w fun e w' => e = .returned (.int .u64 (P.cs : Int)) ∧ w = w' := by
  have c0 := h.c0
  clear h
  go_enter Try.func12, Try.ntmps12
  go_wp2
  go_ret
  exact ⟨rfl, rfl⟩
theorem pwhole (h : PlB w g P) (q : Int) (p0 : -9223372036854775808 ≤ q) (p1 : q ≤ 9223372036854775807) :
    Calls Try.prog 10 #[.pointer (some ⟨g, 0, none⟩), .int .i64 q] w fun e w' => e = .returned (.int .u32 (wholeP P.f q)) ∧ w = w' := by
  have PR := pproc q w p0 p1
  by_cases hq : 0 ≤ q ∧ q < 64
  · obtain ⟨k, rfl⟩ := Int.eq_ofNat_of_zero_le hq.1
    have hk : k < 64 := by omega
    have hn := h.n k hk
    rw [decide_eq_true hq.1, decide_eq_true hq.2] at PR
    have HV := Lib.hid (show wholeP P.f (k : Int) = (P.f k).n by unfold wholeP; rw [if_pos hq]; rfl)
    generalize (P.f k).n = v at *
    clear h hq
    go_enter Try.func10, Try.ntmps10
    go_wp2_with fail
    refine PR.mono ?_
    rintro e w' ⟨rfl, rfl⟩
    go_wp2
    go_ret
    exact ⟨by rw [HV.out]; rfl, rfl⟩
  · have hb : (decide (0 ≤ q) && decide (q < 64)) = false := by
      cases h1 : decide (0 ≤ q) with
      | false => rfl
      | true =>
        cases h2 : decide (q < 64) with
        | false => rfl
        | true => exact absurd ⟨of_decide_eq_true h1, of_decide_eq_true h2⟩ hq
    rw [hb] at PR
    have HV := Lib.hid (show wholeP P.f q = 0 by unfold wholeP; rw [if_neg hq])
    clear h hq hb
    go_enter Try.func10, Try.ntmps10
    go_wp2_with fail
    refine PR.mono ?_
    rintro e w' ⟨rfl, rfl⟩
    go_wp2
    go_ret
    exact ⟨by rw [HV.out]; rfl, rfl⟩
theorem pholder (h : PlB w g P) (q : Int) (p0 : -9223372036854775808 ≤ q) (p1 : q ≤ 9223372036854775807) :
    Calls Try.prog 11 #[.pointer (some ⟨g, 0, none⟩), .int .i64 q] w fun e w' => e = .returned (.int .i64 (holdP P.f q)) ∧ w = w' := by
  have PW := pwhole h q p0 p1
  by_cases hw : wholeP P.f q = 0
  · rw [hw] at PW
    have HV := Lib.hid (show holdP P.f q = -1 by
      unfold wholeP at hw
      unfold holdP
      split
      · rw [if_pos (by assumption)] at hw; rw [if_pos hw]
      · rfl)
    clear h hw
    go_enter Try.func11, Try.ntmps11
    go_wp2_with fail
    refine PW.mono ?_
    rintro e w' ⟨rfl, rfl⟩
    go_wp2
    go_ret
    exact ⟨by rw [HV.out]; rfl, rfl⟩
  · have hq : 0 ≤ q ∧ q < 64 := by
      unfold wholeP at hw
      split at hw
      · assumption
      · exact absurd rfl hw
    obtain ⟨k, rfl⟩ := Int.eq_ofNat_of_zero_le hq.1
    have hk : k < 64 := by omega
    have hn := h.h k hk
    have HV := Lib.hid (show holdP P.f (k : Int) = (P.f k).h by
      unfold wholeP at hw
      unfold holdP
      rw [if_pos hq] at hw ⊢
      rw [if_neg hw]; rfl)
    obtain ⟨v, hv⟩ : ∃ v, v = wholeP P.f (k : Int) := ⟨_, rfl⟩
    rw [← hv] at PW hw
    have hw2 : (v == 0) = false := by simpa using hw
    generalize (P.f k).h = u at *
    clear h hq hv hw
    go_enter Try.func11, Try.ntmps11
    go_wp2_with fail
    refine PW.mono ?_
    rintro e w' ⟨rfl, rfl⟩
    go_wp2
    go_ret
    exact ⟨by rw [HV.out]; rfl, rfl⟩
theorem pbound (h : PlB w g P) :
    Calls Try.prog 8 #[.pointer (some ⟨g, 0, none⟩)] w fun e w' => e = .returned (.agg #[.int .u64 P.bd.n, .int .i64 P.bd.p]) ∧ Grw w w' := by
  have hg := h.lt
  have hb := ((Grw.refl w).alloc (.cells #[.int .u64 0, .int .i64 0] 29)).below
  have b0 := (h.below hb).b0
  have b1 := (h.below hb).b1
  have G := Lib.hid ((Grw.refl w).alloc (.cells #[.int .u64 P.bd.n, .int .i64 P.bd.p] 29))
  have hne : g ≠ w.heap.size := by omega
  generalize P.bd.n = a at *
  generalize P.bd.p = b at *
  clear h hb
  go_enter Try.func8, Try.ntmps8
  go_wp2
  exact bodyPost_ret (v := .agg #[.int .u64 a, .int .i64 b]) (by simp [results, Try.results8, go_sem]) rfl ⟨rfl, G.out⟩
end
section
variable {w : World} {b : Nat} {e : Nat → Int}
theorem pof (h : EnB w b e) (q : Int) (p0 : -9223372036854775808 ≤ q) (p1 : q ≤ 9223372036854775807) :
    Calls Try.prog 32 #[.pointer (some ⟨b, 0, none⟩), .int .i64 q] w fun ee w' => ee = .returned (.int .u64 (endAt e q)) ∧ w = w' := by
  have PR := pproc q w p0 p1
  by_cases hq : 0 ≤ q ∧ q < 64
  · obtain ⟨k, rfl⟩ := Int.eq_ofNat_of_zero_le hq.1
    have hk : k < 64 := by omega
    have hn := h.at_ k hk
    rw [decide_eq_true hq.1, decide_eq_true hq.2] at PR
    have HV := Lib.hid (show endAt e (k : Int) = e k by unfold endAt; rw [if_pos hq]; rfl)
    generalize e k = v at *
    clear h hq
    go_enter Try.func32, Try.ntmps32
    go_wp2_with fail
    refine PR.mono ?_
    rintro e w' ⟨rfl, rfl⟩
    go_wp2
    go_ret
    exact ⟨by rw [HV.out]; rfl, rfl⟩
  · have hb : (decide (0 ≤ q) && decide (q < 64)) = false := by
      cases h1 : decide (0 ≤ q) with
      | false => rfl
      | true =>
        cases h2 : decide (q < 64) with
        | false => rfl
        | true => exact absurd ⟨of_decide_eq_true h1, of_decide_eq_true h2⟩ hq
    rw [hb] at PR
    have HV := Lib.hid (show endAt e q = 1 by unfold endAt; rw [if_neg hq])
    clear h hq hb
    go_enter Try.func32, Try.ntmps32
    go_wp2_with fail
    refine PR.mono ?_
    rintro e w' ⟨rfl, rfl⟩
    go_wp2
    go_ret
    exact ⟨by rw [HV.out]; rfl, rfl⟩
set_option maxHeartbeats 1000000 in
theorem pahead (h : EnB w b e) (m : Mg) (p0 : -9223372036854775808 ≤ m.f) (p1 : m.f ≤ 9223372036854775807) (q0 : 0 ≤ m.q) (q1 : m.q < 4294967296) :
    Calls Try.prog 21 #[.pointer (some ⟨b, 0, none⟩), .agg (encG m).toArray] w fun ee w' => ee = .returned (.bool (aheadE e m)) ∧ Grw w w' := by
  obtain ⟨f, q, s, v, a, dl, dc, deps, text⟩ := m
  simp only at p0 p1 q0 q1
  have G := Lib.hid ((Grw.refl w).alloc (.cells #[.int .i64 f, .int .u32 q, .int .u64 s, .int .i64 v, .slice a dl dc, .string text] 35))
  have HE := Lib.hid (h.below G.out.below)
  have PO := fun n => pof (HE.out.below ((Grw.refl _).drewN n).below) f p0 p1
  have HA : Hid (aheadE e ⟨f, q, s, v, a, dl, dc, deps, text⟩ = (decide (0 < q) && decide (q < endAt e f))) := Lib.hid rfl
  have hwr : IntKind.u64.wrap q = q := by obtain ⟨k, rfl⟩ := Int.eq_ofNat_of_zero_le q0; exact wrap_nat k (by omega)
  generalize endAt e f = u at *
  clear h
  unfold encG
  cases hq : decide (0 < q) with
  | false =>
    rw [hq] at HA
    go_enter Try.func21, Try.ntmps21
    go_upto_region 1 with fail
    go_quiet (fail)
    go_wp2
    go_ret
    exact ⟨by rw [HA.out]; rfl, G.out.trans ((Grw.refl _).drewN _)⟩
  | true =>
    rw [hq] at HA
    go_enter Try.func21, Try.ntmps21
    go_upto_region 1 with fail
    go_quiet ((go_at_call 32; exact Calls.quiet_of_same ((PO _).mono fun _ _ ⟨he, hw⟩ => ⟨he, hw.symm⟩)))
    go_wp2
    go_ret
    exact ⟨by rw [HA.out]; rfl, G.out.trans ((Grw.refl _).drewN _)⟩
end
end Go.Proofs.Ythgdiihibjnhoaa
