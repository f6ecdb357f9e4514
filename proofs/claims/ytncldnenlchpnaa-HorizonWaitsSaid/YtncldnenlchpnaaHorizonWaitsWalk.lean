/- The walk of 'HorizonWaits'. (Written by gen_hwaits.py.) -/
import Derived.Test.YtncldnenlchpnaaHzRun
set_option linter.unusedVariables false
set_option linter.unusedSimpArgs false
namespace Go.Proofs.Ytncldnenlchpnaa
open Go.RowKit Go.Sort Go.Shelf

/-- One promise: it counts, or waits. -/
structure WtS (stamp sent : Nat) (b : Bool) (H : Hz) : Prop where
  oth : H.oth = 2
  clock : H.clock = stamp
  hd : (H.mks 1).hd = if b then stamp else 0
  wait : H.wait = if b then [] else [⟨1, stamp, sent⟩]
theorem least_one (f : Nat → Nat) (s : Nat) : leastN 2 f s = min s (f 1) := by
  refine Nat.le_antisymm (Nat.le_min.2 ⟨leastN_le _ _ _, leastN_of 2 f s 1 (by decide) (by decide)⟩) (leastN_ge _ _ _ _ (Nat.min_le_left _ _) fun p hp hb => ?_)
  have : p = 1 := by
    have h2 : ∀ q, q < 64 → (2 : Nat).testBit q = true → q = 1 := by decide
    exact h2 p hp hb
  subst this
  exact Nat.min_le_right _ _
theorem WtS.all {stamp sent : Nat} {b : Bool} {H : Hz} (h : WtS stamp sent b H) : allN H = if b then stamp else 0 := by
  unfold allN
  rw [h.oth, least_one, h.clock, h.hd]
  cases b <;> simp
theorem oth_two (H : Hz) (h : H.oth = 2) : othZ H 1 = true := by unfold othZ; rw [h]; decide
theorem waits_count {stamp sent c : Nat} {b : Bool} {H : Hz} (hs : 1 ≤ stamp) (h : WtS stamp sent b H) (hc : (H.mks 1).cm = c) : WtS stamp sent (b || decide (sent ≤ c)) (countZ H 1) := by
  have e : nowH H 1 = if (b || decide (sent ≤ c)) then stamp else 0 := by
    unfold nowH
    rw [hc, h.hd, h.wait]
    cases b with
    | true => rfl
    | false =>
      show (if hits 1 c ⟨1, stamp, sent⟩ then max 0 stamp else 0) = _
      have : hits 1 c ⟨1, stamp, sent⟩ = decide (sent ≤ c) := by unfold hits; simp
      rw [this]
      cases decide (sent ≤ c) <;> simp
  refine ⟨h.oth, h.clock, ?_, ?_⟩
  · show (updM H.mks 1 { H.mks 1 with hd := nowH H 1 } 1).hd = _
    rw [updM_at]
    exact e
  · show H.wait.filter (fun a => !doneP ((1 : Nat) : Int) (nowH H 1) a) = _
    rw [e, h.wait]
    cases b with
    | true => simp
    | false =>
      cases hq : decide (sent ≤ c) with
      | true => simp [doneP]
      | false => simp [doneP]; omega
theorem waits_first (stamp sent : Nat) (hs : 1 ≤ stamp) : WtS stamp sent (decide (sent ≤ 0)) (promZ (newZ 0 3) 1 stamp sent) := by
  have ho : (newZ 0 3).oth = 2 := by decide +kernel
  rw [promZ_yes (oth_two _ ho)]
  have := waits_count (H := { seeZ (newZ 0 3) stamp with wait := waitL (newZ 0 3).wait ⟨1, stamp, sent⟩ }) (b := false) (sent := sent) (c := 0) hs ⟨ho, by show max 0 stamp = stamp; omega, rfl, rfl⟩ rfl
  rw [Bool.false_or] at this
  exact this
theorem waits_came {stamp sent c : Nat} {b : Bool} {H : Hz} (hs : 1 ≤ stamp) (h : WtS stamp sent b H) : WtS stamp sent (b || decide (sent ≤ c)) (cameZ H 1 c 0) := by
  rw [cameZ_yes (oth_two _ h.oth)]
  refine waits_count hs ⟨h.oth, ?_, ?_, h.wait⟩ ?_
  · show max H.clock 0 = stamp
    rw [h.clock]; omega
  · show (updM H.mks 1 ⟨max (H.mks 1).hd 0, (H.mks 1).rc, c⟩ 1).hd = _
    rw [updM_at]
    show max (H.mks 1).hd 0 = _
    rw [h.hd]; omega
  · show (updM H.mks 1 ⟨max (H.mks 1).hd 0, (H.mks 1).rc, c⟩ 1).cm = c
    rw [updM_at]
theorem WtS.few {stamp sent : Nat} {b : Bool} {H : Hz} (h : WtS stamp sent b H) : H.wait.length ≤ 1 := by rw [h.wait]; cases b <;> simp
theorem NewZ.prom {w w1 : World} {g : Nat} {H : Hz} (h : NewZ w w1 g H) (hn : H.wait.length ≤ 99999) (p : Int) (p0 : -9223372036854775808 ≤ p) (p1 : p ≤ 9223372036854775807) (st sn : Nat) (hs : st < 18446744073709551616) (hq : sn < 4294967296) :
    Calls Try.prog 15 #[.pointer (some ⟨g, 0, none⟩), .int .i64 p, .int .u64 (st : Int), .int .u32 (sn : Int)] w1 fun e w' => e = .returned (.tuple #[]) ∧ NewZ w w' g (promZ H p st sn) := by
  obtain ⟨s, h1, h2⟩ := h
  exact (zprom h1 hn p p0 p1 st sn hs hq).mono fun e w' ⟨he, hg⟩ => ⟨he, NewZ.gone h1 h2 hg⟩
theorem NewZ.came {w w1 : World} {g : Nat} {H : Hz} (h : NewZ w w1 g H) (hn : H.wait.length ≤ 99999) (p : Int) (p0 : -9223372036854775808 ≤ p) (p1 : p ≤ 9223372036854775807) (seq st : Nat) (hq : seq < 4294967296) (hs : st < 18446744073709551616) :
    Calls Try.prog 16 #[.pointer (some ⟨g, 0, none⟩), .int .i64 p, .int .u32 (seq : Int), .int .u64 (st : Int)] w1 fun e w' => e = .returned (.tuple #[]) ∧ NewZ w w' g (cameZ H p seq st) := by
  obtain ⟨s, h1, h2⟩ := h
  exact (zcame h1 (by omega) p p0 p1 seq st hq hs).mono fun e w' ⟨he, hg⟩ => ⟨he, NewZ.gone h1 h2 hg⟩
set_option maxHeartbeats 16000000 in
set_option maxRecDepth 100000 in
theorem full_HorizonWaits (stamp sent : Nat) (ao : Option Addr) (len cap : Nat) (l : List Int) (w : World) (hst : stamp < 18446744073709551616) (hse : sent < 4294967296)
    (hl : Lst (fun n : Int => [.int .u32 n]) 1 w ao len l) (hok : ∀ n ∈ l, 0 ≤ n ∧ n ≤ 4294967295) :
    Calls Try.prog 4 #[.int .u64 (stamp : Int), .int .u32 (sent : Int), .slice ao len cap] w fun e w' => e = .returned (.bool true) ∧ Below w.heap.size w w' := by
  have hlen := hl.size
  have HL := Lib.hid hl
  have HOK := Lib.hid hok
  have HLEN := Lib.hid hlen
  clear hl hok hlen
  by_cases h0 : stamp < 1
  · have d0 : decide (stamp < 1) = true := by simp; omega
    obtain rfl : stamp = 0 := by omega
    go_enter Try.func4, Try.ntmps4
    go_wp2_with (go_at_call 7; refine (zawake _).mono ?_; rintro e w1 ⟨rfl, L1⟩)
    go_ret
    exact ⟨rfl, L1⟩
  have d0 : decide ((stamp : Int) < 1) = false := by simp; omega
  have d0' : decide (stamp < 1) = false := by simp; omega
  by_cases h1 : (100 : Int) < (len : Int)
  · have d1 : decide ((100 : Int) < (len : Int)) = true := by simp; omega
    go_enter Try.func4, Try.ntmps4
    go_wp2_with (go_at_call 7; refine (zawake _).mono ?_; rintro e w1 ⟨rfl, L1⟩)
    go_ret
    exact ⟨rfl, L1⟩
  have d1 : decide ((100 : Int) < (len : Int)) = false := by simp; omega
  have hl100 : len ≤ 100 := by omega
  have hs1 : 1 ≤ stamp := by omega
  clear h1 h0
  go_enter Try.func4, Try.ntmps4
  go_wp2_with fail
  refine (zawake _).mono ?_
  rintro e w1 ⟨rfl, L1⟩
  have HO := of_any (some ⟨w1.heap.size, 0, none⟩) 2 2 [0, 1] _ (InI.twoZ w1 0 1 (by decide) (by decide) (by decide) (by decide)) (by decide)
  rw [az_of] at HO
  have B1 := ((Grw.refl w1).alloc (.cells #[.int .i64 0, .int .i64 1] 3)).below
  have L2 := L1.trans (B1.mono L1.size)
  have HN := NewZ.made 0 3 L2 (by decide) (by decide) (by decide)
  obtain ⟨g, hg⟩ : ∃ g, g = (w1.alloc (.cells #[.int .i64 0, .int .i64 1] 3)).heap.size + 1 := ⟨_, rfl⟩
  rw [← hg] at HN
  have HN := Lib.hid HN
  clear hg B1 L1 L2
  go_wp2_with fail
  refine HO.mono ?_
  rintro e w' ⟨rfl, rfl⟩
  go_wp2_with fail
  refine HN.out.mono ?_
  rintro e w2 ⟨rfl, N2⟩
  have HP := Lib.hid (N2.prom (by show (0 : Nat) ≤ 99999; decide) 1 (by decide) (by decide) stamp sent hst hse)
  have HW := waits_first stamp sent hs1
  obtain ⟨H0, hH0⟩ : ∃ H0, H0 = promZ (newZ 0 3) 1 stamp sent := ⟨_, rfl⟩
  rw [← hH0] at HP HW
  have HW := Lib.hid HW
  clear HO HN N2 hH0
  go_wp2_with fail
  refine HP.out.mono ?_
  rintro e w3 ⟨rfl, N3⟩
  have N3 := Lib.hid N3
  clear HP
  have HS0 := Lib.hid (show decide (sent ≤ 0) = ((sent : Int) == 0) by
    by_cases h : sent = 0
    · subst h; rfl
    · rw [decide_eq_false (by omega), beq_eq_false_iff_ne.2 (by omega)])
  go_wp2
  go_loopw [8, 9, 10] (fun sb sc si wr => ∃ (k : Nat) (b : Bool) (bb : Nat) (H : Hz), k ≤ len ∧ si = .int .i64 k ∧ sc = .bool b ∧ sb = .int .u64 (bb : Int) ∧ Aside (b = false → bb = 0) ∧ Aside (WtS stamp sent b H) ∧ Aside (NewZ w wr g H)) (fun _ _ si _ => len - (intOf si).toNat)
  case atStart => exact ⟨0, _, 0, H0, Nat.zero_le _, rfl, rfl, rfl, fun _ => rfl, by first | (rw [← HS0.out]; exact HW.out) | (have := HW.out; rw [HS0.out] at this; simpa using this), N3.out⟩
  case round =>
    obtain ⟨k, b, bb, H, hk, rfl, rfl, rfl, hbb, hW, N⟩ := hrel
    clear N3 HS0 HW
    by_cases hlt : k < len
    · have hil : k < l.length := by rw [HLEN.out]; omega
      obtain ⟨bk, o, rfl, R⟩ := HL.out.src (by omega)
      have hx := List.getElem?_eq_getElem hil
      have ha := HOK.out _ (List.getElem_mem hil)
      generalize l[k] = c at hx ha
      obtain ⟨c, rfl⟩ := Int.eq_ofNat_of_zero_le ha.1
      have hc32 : c < 4294967296 := by omega
      have HR0 := R k _ hx 0 _ rfl
      rw [Nat.add_zero, Nat.mul_one] at HR0
      have cc := cell_later N.out.below HR0
      have Q1 := N.out.all
      rw [hW.out.all] at Q1
      have Q3 := N.out.clk
      rw [hW.out.clock] at Q3
      have HD := Lib.hid (N.out.came (by have := hW.out.few; omega) 1 (by decide) (by decide) c 0 hc32 (by decide))
      have HW2 := waits_came (c := c) hs1 hW.out
      obtain ⟨H2, hH2⟩ : ∃ H2, H2 = cameZ H 1 c 0 := ⟨_, rfl⟩
      rw [← hH2] at HD HW2
      have HCC := Lib.hid HR0
      clear R hx ha hil hH2 HR0 N
      cases b with
      | true =>
        rw [Bool.true_or] at HW2
        rw [if_pos rfl] at Q1
        have HW2 := Lib.hid HW2
        clear hbb hW
        go_wp2_with (first | (go_at_call 9; refine Q1.mono ?_; rintro e w' ⟨rfl, rfl⟩) | (go_at_call 11; refine Q3.mono ?_; rintro e w' ⟨rfl, rfl⟩) | fail)
        refine HD.out.mono ?_
        rintro e w4 ⟨rfl, N4⟩
        have P1 := N4.all
        rw [HW2.out.all] at P1
        rw [if_pos rfl] at P1
        have cd := cell_later N4.below HCC.out
        have N4 := Lib.hid N4
        clear Q1 Q3 HD cc
        go_wp2_with (go_at_call 9; refine P1.mono ?_; rintro e w' ⟨rfl, rfl⟩)
        go_roundw
        case rel => exact ⟨k + 1, true, stamp, H2, by omega, by go_num, rfl, rfl, (fun e => Bool.noConfusion e), HW2.out, N4.out⟩
        case measure => simp [intOf]; omega
      | false =>
        have hb0 := hbb.out rfl
        subst hb0
        rw [Bool.false_or] at HW2
        rw [if_neg (by decide)] at Q1
        have z1 : ((0 : Int) == (stamp : Int)) = false := beq_eq_false_iff_ne.2 (by omega)
        clear hbb hW
        cases hq : decide (sent ≤ c) with
        | true =>
          rw [hq] at HW2
          have HW2 := Lib.hid HW2
          go_wp2_with (first | (go_at_call 9; refine Q1.mono ?_; rintro e w' ⟨rfl, rfl⟩) | (go_at_call 11; refine Q3.mono ?_; rintro e w' ⟨rfl, rfl⟩) | fail)
          refine HD.out.mono ?_
          rintro e w4 ⟨rfl, N4⟩
          have P1 := N4.all
          rw [HW2.out.all] at P1
          rw [if_pos rfl] at P1
          have cd := cell_later N4.below HCC.out
          have N4 := Lib.hid N4
          clear Q1 Q3 HD cc
          go_wp2_with (go_at_call 9; refine P1.mono ?_; rintro e w' ⟨rfl, rfl⟩)
          go_roundw
          case rel => exact ⟨k + 1, true, stamp, H2, by omega, by go_num, rfl, rfl, (fun e => Bool.noConfusion e), HW2.out, N4.out⟩
          case measure => simp [intOf]; omega
        | false =>
          rw [hq] at HW2
          have HW2 := Lib.hid HW2
          go_wp2_with (first | (go_at_call 9; refine Q1.mono ?_; rintro e w' ⟨rfl, rfl⟩) | (go_at_call 11; refine Q3.mono ?_; rintro e w' ⟨rfl, rfl⟩) | fail)
          refine HD.out.mono ?_
          rintro e w4 ⟨rfl, N4⟩
          have P1 := N4.all
          rw [HW2.out.all] at P1
          rw [if_neg (by decide)] at P1
          have cd := cell_later N4.below HCC.out
          have N4 := Lib.hid N4
          clear Q1 Q3 HD cc
          go_wp2_with (go_at_call 9; refine P1.mono ?_; rintro e w' ⟨rfl, rfl⟩)
          go_roundw
          case rel => exact ⟨k + 1, false, 0, H2, by omega, by go_num, rfl, rfl, fun _ => rfl, HW2.out, N4.out⟩
          case measure => simp [intOf]; omega
    · obtain rfl : k = len := by omega
      have HB := Lib.hid N.out.below
      clear N
      go_wp2
      go_ret
      exact ⟨rfl, HB.out⟩
theorem walk_HorizonWaits {w : World} (a : Int) (wa : (Lit.int .u64 a).wf = true) (b : Int) (wb : (Lit.int .u32 b).wf = true) (ao : Option Addr) (len cap : Nat) (l : List Int) (hl : Lst (fun n : Int => [.int .u32 n]) 1 w ao len l ∧ ∀ n ∈ l, 0 ≤ n ∧ n ≤ 4294967295) :
    Calls Try.prog 4 #[.int .u64 a, .int .u32 b, .slice ao len cap] w fun e w' => e = .returned (.bool true) ∧ Below w.heap.size w w' := by
  have b0 := Go.bounds_u64 wa
  have b1 := Go.bounds_u32 wb
  obtain ⟨a, rfl⟩ := Int.eq_ofNat_of_zero_le (show 0 ≤ a by omega)
  obtain ⟨b, rfl⟩ := Int.eq_ofNat_of_zero_le (show 0 ≤ b by omega)
  exact full_HorizonWaits a b ao len cap l w (by omega) (by omega) hl.1 hl.2
end Go.Proofs.Ytncldnenlchpnaa
