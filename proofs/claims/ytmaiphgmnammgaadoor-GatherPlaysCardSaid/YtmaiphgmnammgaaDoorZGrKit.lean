/- The document's attempts: is one a member, how many; must an attempt be begun: both sides. -/
import Derived.Test.YtmaiphgmnammgaaDoorZGaAt
import Derived.Test.YtmaiphgmnammgaaDoorZBel
set_option linter.unusedVariables false
set_option maxRecDepth 100000
set_option linter.unusedSimpArgs false
namespace Go.Proofs.YtmaiphgmnammgaaDoor
open Go.RowKit Go.Sort Go.Maps

theorem and_bit16 (s k : Nat) (hs : s < 18446744073709551616) : bits .and .u64 ((s : Int) / 2 ^ k) 1 = (if s.testBit k = true then 1 else 0 : Int) := by
  have e1 : ((s : Int) / 2 ^ k) = ((s / 2 ^ k : Nat) : Int) := by rw [Int.natCast_ediv, Int.natCast_pow]; rfl
  rw [e1, show (1 : Int) = ((1 : Nat) : Int) from rfl, bits_and_u64_nat _ 1 (Nat.lt_of_le_of_lt (Nat.div_le_self _ _) hs) (by decide), Nat.and_one_is_mod, Nat.testBit_eq_decide_div_mod_eq]
  by_cases h : s / 2 ^ k % 2 = 1
  · rw [h]; simp
  · rw [show s / 2 ^ k % 2 = 0 by omega]; simp
theorem or_one16 (a k : Nat) (ha : a < 18446744073709551616) (hk : k < 64) : bits .or .u64 (a : Int) (IntKind.u64.wrap (2 ^ k)) = ((any a (onl (k : Int)) : Nat) : Int) := by
  have := onl_shl k
  rw [Nat.min_eq_left (by omega)] at this
  rw [this, any_eq a _ ha (onl_lt _)]
/-- The first k of them. -/
def setK16 (f : Nat → Bool) (k : Nat) : Nat := num fun q => decide (q < k) && f q
theorem setK16_lt (f : Nat → Bool) (k : Nat) : setK16 f k < 18446744073709551616 := num_lt _
theorem setK16_zero (f : Nat → Bool) : setK16 f 0 = 0 := set_ext _ _ (num_lt _) (by decide) fun i hi => by unfold setK16; rw [num_bit]; simp
theorem setK16_all (f : Nat → Bool) (k : Nat) (h : k = 64) : setK16 f k = num f := num_ext _ _ fun i hi => by subst h; simp [hi]
theorem setK16_yes (f : Nat → Bool) (k : Nat) (hk : k < 64) (h : f k = true) : any (setK16 f k) (onl (k : Int)) = setK16 f (k + 1) := by
  refine set_ext _ _ (num_lt _) (num_lt _) fun i hi => ?_
  unfold any
  rw [num_bit, onl_bit _ _ hi]
  unfold setK16
  rw [num_bit, num_bit]
  by_cases e : i = k
  · subst e; simp [hi, h]
  · have e1 : decide ((i : Int) = (k : Int)) = false := decide_eq_false (by omega)
    have e2 : decide (i < k + 1) = decide (i < k) := decide_eq_decide.2 (by omega)
    rw [e1, e2]; simp [hi]
theorem setK16_no (f : Nat → Bool) (k : Nat) (h : f k = false) : setK16 f k = setK16 f (k + 1) := num_ext _ _ fun i hi => by
  by_cases e : i = k
  · subst e; simp [h]
  · have e2 : decide (i < k + 1) = decide (i < k) := decide_eq_decide.2 (by omega)
    rw [e2]
set_option maxHeartbeats 4000000 in
theorem rmember (s : Nat) (p : Int) (w : World) (hs : s < 18446744073709551616) :
    Calls Tryd.prog 38 #[.int .u64 (s : Int), .int .i64 p] w fun e w' => e = .returned (.bool (mem s p)) ∧ w = w' := by
  by_cases h0 : 0 ≤ p
  · by_cases h1 : p < 64
    · obtain ⟨k, rfl⟩ := Int.eq_ofNat_of_zero_le h0
      have hk : k < 64 := by omega
      have hk' : (k : Int) < 64 := h1
      have hm3 : min k 64 = k := by omega
      rw [mem_nat _ _ hk]
      have hb := and_bit16 s k hs
      cases hbit : s.testBit k with
      | true =>
        rw [hbit, if_pos rfl] at hb
        go_enter Tryd.func38, Tryd.ntmps38
        go_wp2
        go_ret
        exact ⟨rfl, rfl⟩
      | false =>
        rw [hbit, if_neg (by decide)] at hb
        go_enter Tryd.func38, Tryd.ntmps38
        go_wp2
        go_ret
        exact ⟨rfl, rfl⟩
    · rw [show mem s p = false by unfold mem; rw [decide_eq_false h1]; simp]
      go_enter Tryd.func38, Tryd.ntmps38
      go_wp2
      go_ret
      exact ⟨rfl, rfl⟩
  · rw [show mem s p = false by unfold mem; rw [decide_eq_false h0]; simp]
    go_enter Tryd.func38, Tryd.ntmps38
    go_wp2
    go_ret
    exact ⟨rfl, rfl⟩
/-- How many of the first k. -/
def cntK (f : Nat → Bool) (k : Nat) : Nat := (List.range k).countP f
theorem cntK_next (f : Nat → Bool) (k : Nat) : cntK f (k + 1) = cntK f k + (if f k = true then 1 else 0) := by
  unfold cntK
  rw [List.range_succ, List.countP_append]
  simp
theorem cntK_le (f : Nat → Bool) (k : Nat) : cntK f k ≤ k := by
  unfold cntK
  exact Nat.le_trans List.countP_le_length (by simp)
set_option maxHeartbeats 1000000 in
theorem rsize (s : Nat) (w : World) (hs : s < 18446744073709551616) :
    Calls Tryd.prog 43 #[.int .u64 (s : Int)] w fun e w' => e = .returned (.int .i64 (card s : Int)) ∧ w = w' := by
  have PM := fun k : Nat => rmember s (k : Int) w hs
  go_enter Tryd.func43, Tryd.ntmps43
  go_wp2
  go_loop [3, 4] (fun sn sp => ∃ (k m : Nat), k ≤ 64 ∧ m ≤ k ∧ sp = .int .i64 k ∧ sn = .int .i64 m ∧ Hid (m = cntK s.testBit k)) (fun _ sp => 64 - (intOf sp).toNat)
  case atStart => exact ⟨0, 0, Nat.zero_le _, Nat.le_refl _, rfl, rfl, Lib.hid rfl⟩
  case round =>
    obtain ⟨k, m, hk, hm, rfl, rfl, HM⟩ := hrel
    by_cases hlt : k < 64
    · have P := PM k
      rw [mem_nat _ _ hlt] at P
      have HN := Lib.hid (cntK_next s.testBit k)
      cases hb : s.testBit k with
      | true =>
        rw [hb] at P
        have HE := Lib.hid (show m + 1 = cntK s.testBit (k + 1) by rw [HN.out, hb, HM.out]; rfl)
        clear hb HN HM
        go_wp2_with fail
        refine P.mono ?_
        rintro e w' ⟨rfl, rfl⟩
        clear P
        go_wp2
        go_round
        case rel => exact ⟨k + 1, m + 1, by omega, by omega, by go_num, by go_num, HE⟩
        case measure => simp [intOf]; omega
      | false =>
        rw [hb] at P
        have HE := Lib.hid (show m = cntK s.testBit (k + 1) by rw [HN.out, hb, HM.out]; rfl)
        clear hb HN HM
        go_wp2_with fail
        refine P.mono ?_
        rintro e w' ⟨rfl, rfl⟩
        clear P
        go_wp2
        go_round
        case rel => exact ⟨k + 1, m, by omega, by omega, by go_num, rfl, HE⟩
        case measure => simp [intOf]; omega
    · obtain rfl : k = 64 := by omega
      have HE := Lib.hid (show m = card s from HM.out)
      clear HM
      go_wp2
      go_ret
      exact ⟨by rw [← HE.out]; rfl, rfl⟩
/-! ### Needs -/
def needsB (M R T : Nat) (me : Int) : Bool := decide (me = mn R) && (decide (R ≠ M) || decide (both T R ≠ 0))
theorem beq_of (a b : Int) : (a == b) = decide (a = b) := by
  by_cases h : a = b
  · subst h; simp
  · rw [decide_eq_false h]; simpa using h
theorem bne_of (a b : Nat) : ((a : Int) != (b : Int)) = decide (a ≠ b) := by
  by_cases h : a = b
  · subst h; simp
  · rw [decide_eq_true h]; simp; omega
set_option maxHeartbeats 2000000 in
theorem gneeds (e0 r0 : Int) (M R T : Nat) (me : Int) (w : World) (hM : M < 18446744073709551616) (hR : R < 18446744073709551616) (hT : T < 18446744073709551616) (hTab : Tab w) :
    Calls Tryd.prog 26 #[.agg #[.int .u64 e0, .int .i64 r0], .int .u64 (M : Int), .int .u64 (R : Int), .int .u64 (T : Int), .int .i64 me] w fun e w' => e = .returned (.bool (needsB M R T me)) ∧ Below w.heap.size w w' := by
  have L1 := ((Grw.refl w).alloc (.cells #[.int .u64 e0, .int .i64 r0] 24)).below
  have PM := min_any R (w.alloc (.cells #[.int .u64 e0, .int .i64 r0] 24)) hR (fun _ => hTab.below L1 (Nat.le_refl _))
  have PB := both_any T R (w.alloc (.cells #[.int .u64 e0, .int .i64 r0] 24)) hT hR
  have HB := Lib.hid L1
  have h1 := beq_of me (mn R)
  have h2 := bne_of R M
  have h3 := bne_of (both T R) 0
  rw [show ((0 : Nat) : Int) = 0 from rfl] at h3
  have HV := Lib.hid (show needsB M R T me = (decide (me = mn R) && (decide (R ≠ M) || decide (both T R ≠ 0))) from rfl)
  obtain ⟨nb, hnb⟩ : ∃ nb, nb = needsB M R T me := ⟨_, rfl⟩
  rw [← hnb] at HV
  rw [← hnb]
  clear hnb L1 hTab
  generalize mn R = v at *
  generalize both T R = bt at *
  obtain ⟨b1, hb1⟩ : ∃ b, b = decide (me = v) := ⟨_, rfl⟩
  obtain ⟨b2, hb2⟩ : ∃ b, b = decide (R ≠ M) := ⟨_, rfl⟩
  obtain ⟨b3, hb3⟩ : ∃ b, b = decide (bt ≠ 0) := ⟨_, rfl⟩
  rw [← hb1] at h1 HV
  rw [← hb2] at h2 HV
  rw [← hb3] at h3 HV
  clear hb1 hb2 hb3
  cases b1 with
  | false =>
    go_enter Tryd.func26, Tryd.ntmps26
    go_wp2_with fail
    refine PM.mono ?_
    rintro e w' ⟨rfl, rfl⟩
    go_wp2
    go_ret
    exact ⟨by rw [HV.out]; rfl, HB.out⟩
  | true =>
    cases b2 with
    | true =>
      go_enter Tryd.func26, Tryd.ntmps26
      go_wp2_with fail
      refine PM.mono ?_
      rintro e w' ⟨rfl, rfl⟩
      go_wp2
      go_ret
      exact ⟨by rw [HV.out]; rfl, HB.out⟩
    | false =>
      go_enter Tryd.func26, Tryd.ntmps26
      go_wp2_with fail
      refine PM.mono ?_
      rintro e w' ⟨rfl, rfl⟩
      go_wp2_with fail
      refine PB.mono ?_
      rintro e w' ⟨rfl, rfl⟩
      go_wp2
      go_ret
      exact ⟨by rw [HV.out]; rfl, HB.out⟩
/-- What the document tells of it. -/
theorem needs_out {M R T : Nat} {me : Int} (hR : R < 18446744073709551616) (h : mem R me = false) : needsB M R T me = (decide (R = 0) && decide (me = -1) && decide (M ≠ 0)) := by
  unfold needsB
  by_cases h0 : R = 0
  · subst h0
    have hb : both T 0 = 0 := set_ext _ _ (both_lt _ _) (by decide) fun i hi => by unfold both; rw [num_bit, Nat.zero_testBit]; simp
    rw [mn_zero, hb, decide_eq_true (rfl : (0 : Nat) = 0)]
    have e : decide ((0 : Nat) ≠ M) = decide (M ≠ 0) := decide_eq_decide.2 (by omega)
    rw [e]
    simp
  · have hne : me ≠ mn R := by
      rintro rfl
      unfold mn at h
      rw [if_neg h0] at h
      obtain ⟨r, hr⟩ := lst_head R hR h0
      have := (lst_mem R (Lib.ctz 64 R)).1 (by rw [hr]; exact List.mem_cons_self ..)
      rw [mem_nat _ _ this.1, this.2] at h
      cases h
    rw [decide_eq_false hne, decide_eq_false h0]; simp
theorem needs_in {M R T k : Nat} (hR : R < 18446744073709551616) (hk : k < 64) (h : R.testBit k = true) : needsB M R T (k : Int) = ((List.range k).all (fun p => !R.testBit p) && (decide (R ≠ M) || decide (both T R ≠ 0))) := by
  have h0 : R ≠ 0 := by rintro rfl; rw [Nat.zero_testBit] at h; cases h
  unfold needsB
  congr 1
  obtain ⟨r, hr⟩ := lst_head R hR h0
  have hmn : mn R = (Lib.ctz 64 R : Int) := by unfold mn; rw [if_neg h0]
  have hc := (lst_mem R (Lib.ctz 64 R)).1 (by rw [hr]; exact List.mem_cons_self ..)
  have hrise := lst_rises R
  rw [hr, List.pairwise_cons] at hrise
  rw [hmn]
  by_cases e : k = Lib.ctz 64 R
  · rw [decide_eq_true (by omega), eq_comm, List.all_eq_true]
    intro p hp
    rw [List.mem_range] at hp
    cases hb : R.testBit p with
    | false => rfl
    | true =>
      have hm := (lst_mem R p).2 ⟨by omega, hb⟩
      rw [hr] at hm
      rcases List.mem_cons.1 hm with hm | hm
      · omega
      · have := hrise.1 p hm; omega
  · rw [decide_eq_false (by omega), eq_comm, Bool.eq_false_iff]
    intro ha
    rw [List.all_eq_true] at ha
    have hm := (lst_mem R k).2 ⟨hk, h⟩
    rw [hr] at hm
    rcases List.mem_cons.1 hm with hm | hm
    · exact e hm
    · have h3 := hrise.1 k hm
      have := ha (Lib.ctz 64 R) (List.mem_range.2 h3)
      rw [hc.2] at this
      cases this
theorem all_next (f : Nat → Bool) (k : Nat) : (List.range (k + 1)).all f = ((List.range k).all f && f k) := by
  rw [List.range_succ, List.all_append]; simp
theorem all_off {f : Nat → Bool} {k m : Nat} (h : k < m) (hf : f k = false) : (List.range m).all f = false := by
  rw [Bool.eq_false_iff]
  intro ha
  rw [List.all_eq_true] at ha
  have := ha k (List.mem_range.2 h)
  rw [hf] at this
  cases this
set_option maxHeartbeats 2000000 in
theorem rneeds (M R T : Nat) (me : Int) (w : World) (hM : M < 18446744073709551616) (hR : R < 18446744073709551616) (hT : T < 18446744073709551616) (m0 : -9223372036854775808 ≤ me) (m1 : me ≤ 9223372036854775807) :
    Calls Tryd.prog 27 #[.int .u64 (M : Int), .int .u64 (R : Int), .int .u64 (T : Int), .int .i64 me] w fun e w' => e = .returned (.bool (needsB M R T me)) ∧ w = w' := by
  have PM := rmember R me w hR
  cases hmem : mem R me with
  | false =>
    rw [hmem] at PM
    have HV := Lib.hid (needs_out (M := M) (T := T) hR hmem)
    have h1 : ((R : Int) == 0) = decide (R = 0) := by by_cases h : R = 0 <;> simp [h]
    have h2 := beq_of me (-1)
    have h3 : ((M : Int) != 0) = decide (M ≠ 0) := bne_of M 0
    obtain ⟨nb, hnb⟩ : ∃ nb, nb = needsB M R T me := ⟨_, rfl⟩
    rw [← hnb] at HV
    rw [← hnb]
    clear hnb hmem
    obtain ⟨b1, hb1⟩ : ∃ b, b = decide (R = 0) := ⟨_, rfl⟩
    obtain ⟨b2, hb2⟩ : ∃ b, b = decide (me = -1) := ⟨_, rfl⟩
    obtain ⟨b3, hb3⟩ : ∃ b, b = decide (M ≠ 0) := ⟨_, rfl⟩
    rw [← hb1] at h1 HV
    rw [← hb2] at h2 HV
    rw [← hb3] at h3 HV
    clear hb1 hb2 hb3
    cases b1 with
    | false =>
      go_enter Tryd.func27, Tryd.ntmps27
      go_wp2_with fail
      refine PM.mono ?_
      rintro e w' ⟨rfl, rfl⟩
      go_wp2
      go_ret
      exact ⟨by rw [HV.out]; rfl, rfl⟩
    | true =>
      cases b2 with
      | false =>
        go_enter Tryd.func27, Tryd.ntmps27
        go_wp2_with fail
        refine PM.mono ?_
        rintro e w' ⟨rfl, rfl⟩
        go_wp2
        go_ret
        exact ⟨by rw [HV.out]; rfl, rfl⟩
      | true =>
        go_enter Tryd.func27, Tryd.ntmps27
        go_wp2_with fail
        refine PM.mono ?_
        rintro e w' ⟨rfl, rfl⟩
        go_wp2
        go_ret
        exact ⟨by rw [HV.out]; rfl, rfl⟩
  | true =>
    rw [hmem] at PM
    obtain ⟨g0, g1, g2⟩ := mem_lt hmem
    obtain ⟨k, rfl⟩ := Int.eq_ofNat_of_zero_le g0
    have hk : k < 64 := by omega
    rw [Int.toNat_natCast] at g2
    have HV := Lib.hid (needs_in (M := M) (T := T) hR hk g2)
    have PQ := fun p : Nat => rmember R (p : Int) w hR
    have HOFF := Lib.hid (fun p (h : p < k) (hf : (!R.testBit p) = false) => all_off (f := fun p => !R.testBit p) h hf)
    have HNX := Lib.hid (fun p => all_next (fun p => !R.testBit p) p)
    have h2 := bne_of R M
    have h3 : bits .and .u64 (T : Int) (R : Int) = ((both T R : Nat) : Int) := both_eq T R hT hR
    have h4 : ((both T R : Int) != 0) = decide (both T R ≠ 0) := bne_of (both T R) 0
    obtain ⟨nb, hnb⟩ : ∃ nb, nb = needsB M R T (k : Int) := ⟨_, rfl⟩
    rw [← hnb] at HV
    rw [← hnb]
    clear hnb hmem g0 g1 g2
    generalize both T R = bt at *
    obtain ⟨b2, hb2⟩ : ∃ b, b = decide (R ≠ M) := ⟨_, rfl⟩
    obtain ⟨b3, hb3⟩ : ∃ b, b = decide (bt ≠ 0) := ⟨_, rfl⟩
    rw [← hb2] at h2 HV
    rw [← hb3] at h4 HV
    clear hb2 hb3
    obtain ⟨ab, hab⟩ : ∃ ab, ab = (List.range k).all fun p => !R.testBit p := ⟨_, rfl⟩
    rw [← hab] at HV
    have HAB := Lib.hid hab
    clear hab
    go_enter Tryd.func27, Tryd.ntmps27
    go_wp2_with fail
    refine PM.mono ?_
    rintro e w' ⟨rfl, rfl⟩
    clear PM
    go_wp2_with fail
    go_loop [9] (fun sp => ∃ p : Nat, p ≤ k ∧ sp = .int .i64 p ∧ Hid (((List.range p).all fun p => !R.testBit p) = true)) (fun sp => k - (intOf sp).toNat)
    case atStart => exact ⟨0, Nat.zero_le _, rfl, Lib.hid rfl⟩
    case round =>
      obtain ⟨p, hp, rfl, HP⟩ := hrel
      by_cases hlt : p < k
      · have P := PQ p
        rw [mem_nat _ _ (by omega)] at P
        cases hb : R.testBit p with
        | true =>
          rw [hb] at P
          have HE := Lib.hid (show nb = false by rw [HV.out, HAB.out, HOFF.out p hlt (by rw [hb]; rfl)]; rfl)
          clear hb
          go_wp2_with fail
          refine P.mono ?_
          rintro e w' ⟨rfl, rfl⟩
          clear P
          go_wp2
          go_ret
          exact ⟨by rw [HE.out]; rfl, rfl⟩
        | false =>
          rw [hb] at P
          have HE := Lib.hid (show ((List.range (p + 1)).all fun p => !R.testBit p) = true by rw [HNX.out, HP.out, hb]; rfl)
          clear hb HP
          go_wp2_with fail
          refine P.mono ?_
          rintro e w' ⟨rfl, rfl⟩
          clear P
          go_wp2
          go_round
          case rel => exact ⟨p + 1, by omega, by go_num, HE⟩
          case measure => simp [intOf]; omega
      · obtain rfl : p = k := by omega
        have HE := Lib.hid (show nb = (b2 || b3) by rw [HV.out, HAB.out, HP.out]; rfl)
        clear HP
        cases b2 with
        | true =>
          go_wp2
          go_ret
          exact ⟨by rw [HE.out]; rfl, rfl⟩
        | false =>
          go_wp2
          go_ret
          exact ⟨by rw [HE.out]; rfl, rfl⟩
end Go.Proofs.YtmaiphgmnammgaaDoor
