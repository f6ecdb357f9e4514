/- The walk of 'HorizonMore'. -/
import Derived.Test.YtncldnenlchpnaaHzTwo
set_option linter.unusedVariables false
set_option linter.unusedSimpArgs false
namespace Go.Proofs.Ytncldnenlchpnaa
open Go.RowKit Go.Sort Go.Shelf

theorem ZaB.new (w : World) (a : ZA) : ZaB (w.alloc (.cells #[.int .i64 a.kind, .int .i64 a.p, .int .u32 (a.seq : Int), .int .u64 (a.st : Int)] 32)) w.heap.size a := Own.new w _ _
theorem ZaB.rng {w : World} {g : Nat} {a : ZA} (h : ZaB w g a) : w.rangeAt g 0 (encZ a) := fun q v hv => by rw [Nat.zero_add]; exact Own.at_ h q v (by rw [List.getElem?_toArray]; exact hv)
/-- What a round of the law asks. -/
structure MoreF (H' : Hz) (O : Nat) : Prop where
  t1 : decide (allN H' < allN (wideZ H' O)) = false
  t2 : decide (safeN H' < safeN (wideZ H' O)) = false
theorem more_of {H' : Hz} {s m : Nat} (h : H'.oth = (newZ 0 s).oth) : MoreF H' (but (any s m) (onl 0)) :=
  ⟨decide_eq_false (Nat.not_lt.2 (wide_all _ _ (by rw [h]; exact wide_bits s m))), decide_eq_false (Nat.not_lt.2 (wide_safe _ _ (by rw [h]; exact wide_bits s m)))⟩
theorem more_oth {H : Hz} {s m : Nat} (h : H.oth = (newZ 0 s).oth) (p : Int) (hp : mem (but m s) p = false) : othZ (wideZ H (but (any s m) (onl 0))) p = othZ H p := by
  have := wide_oth s m p hp
  unfold othZ wideZ at *
  simp only at *
  rw [h]
  exact this
set_option maxHeartbeats 16000000 in
set_option maxRecDepth 100000 in
theorem full_HorizonMore (s m : Nat) (ao : Option Addr) (len cap : Nat) (l : List ZA) (w : World) (hs : s < 18446744073709551616) (hm : m < 18446744073709551616)
    (hl : Lst encZ 4 w ao len l) (hok : ∀ m ∈ l, m.ok) (hle : len ≤ maxLen) :
    Calls Try.prog 6 #[.int .u64 (s : Int), .int .u64 (m : Int), .slice ao len cap] w fun e w' => e = .returned (.bool true) ∧ Below w.heap.size w w' := by
  have hlen := hl.size
  have HL := Lib.hid hl
  have HOK := Lib.hid hok
  have HLEN := Lib.hid hlen
  clear hl hok hlen
  unfold maxLen at hle
  by_cases h1 : (300 : Int) < (len : Int)
  · have d1 : decide ((300 : Int) < (len : Int)) = true := by simp; omega
    go_enter Try.func6, Try.ntmps6
    go_wp2_with (go_at_call 7; refine (zawake _).mono ?_; rintro e w1 ⟨rfl, L1⟩)
    go_ret
    exact ⟨rfl, L1⟩
  have d1 : decide ((300 : Int) < (len : Int)) = false := by simp; omega
  have hl300 : len ≤ 300 := by omega
  have eor := any_eq s m hs hm
  have ebut := but_eq m s hm hs
  have hbl : but m s < 18446744073709551616 := but_lt _ _
  have hal : any s m < 18446744073709551616 := any_lt _ _
  clear h1
  go_enter Try.func6, Try.ntmps6
  go_wp2_with fail
  refine (zawake _).mono ?_
  rintro e w1 ⟨rfl, L1⟩
  have HN := Lib.hid (NewZ.made 0 s L1 hs (by decide) (by decide))
  clear L1
  go_wp2_with fail
  refine HN.out.mono ?_
  rintro e w2 ⟨rfl, N2⟩
  generalize w1.heap.size + 1 = g at *
  have HN2 := Lib.hid (N2.second 0 (any s m) hal (by decide) (by decide))
  clear HN N2
  go_wp2_with fail
  refine HN2.out.mono ?_
  rintro e w3 ⟨rfl, T3⟩
  generalize w2.heap.size + 1 = g2 at *
  have T3 := Lib.hid (show TwoZ w w3 g g2 (newZ 0 s) (wideZ (newZ 0 s) (but (any s m) (onl 0))) from T3)
  clear HN2
  clear eor
  go_wp2
  go_loopw [9] (fun si wr => ∃ (k : Nat) (H : Hz), k ≤ len ∧ si = .int .i64 k ∧ Aside (TwoZ w wr g g2 H (wideZ H (but (any s m) (onl 0)))) ∧ Aside (H.oth = (newZ 0 s).oth) ∧ Aside (H.wait.length ≤ k)) (fun si _ => len - (intOf si).toNat)
  case atStart => exact ⟨0, newZ 0 s, Nat.zero_le _, rfl, T3.out, rfl, Nat.le_refl _⟩
  case round =>
    obtain ⟨k, H, hk, rfl, T, hO, hW⟩ := hrel
    clear T3
    by_cases hlt : k < len
    · have hil : k < l.length := by rw [HLEN.out]; omega
      obtain ⟨b, o, rfl, R⟩ := HL.out.src (by omega)
      have hx := List.getElem?_eq_getElem hil
      have ha := HOK.out _ (List.getElem_mem hil)
      generalize l[k] = a at hx ha
      have HR := Lib.hid (show wr.rangeAt b (o + k * 4) (encZ a) from fun j v hj => cell_later T.out.below (za_range R k a hx j v hj))
      have B4 := ((Grw.refl wr).alloc (.cells #[.int .i64 a.kind, .int .i64 a.p, .int .u32 (a.seq : Int), .int .u64 (a.st : Int)] 32)).below
      have T4 := T.out.later B4
      have Z4 := Lib.hid (ZaB.new wr a)
      have M := has_any (but m s) a.p (wr.alloc (.cells #[.int .i64 a.kind, .int .i64 a.p, .int .u32 (a.seq : Int), .int .u64 (a.st : Int)] 32)) hbl ha.p0 ha.p1
      have hfew := hW.out
      have HD := Lib.hid (T4.act (by omega) a ha)
      have HT4 := Lib.hid T4
      have HXO := Lib.hid ((step_oth H a).trans hO.out)
      have HXM := Lib.hid (more_of (m := m) ((step_oth H a).trans hO.out))
      have HSW := Lib.hid (show (stepZ H a).wait.length ≤ k + 1 from Nat.le_trans (step_wait H a) (by omega))
      have HA := Lib.hid ha
      have HFW := Lib.hid (show (wideZ H (but (any s m) (onl 0))).wait.length ≤ 99999 from (by omega : H.wait.length ≤ 99999))
      have HOT := Lib.hid (fun p hp => more_oth (m := m) hO.out p hp)
      clear R hx hil B4 T4 hfew ha
      by_cases hk3 : a.kind < 3
      · have dk : decide (a.kind < 3) = true := by simp [hk3]
        cases hm2 : mem (but m s) a.p with
        | true =>
          rw [hm2] at M
          clear hm2 HD HXM HSW HOT HXO Z4
          go_wp2_with (first | (with_reducible refine load_za rfl (.tmp 30) rfl b (o + k * 4) a rfl HR.out ?_) | fail)
          refine M.mono ?_
          rintro e w' ⟨rfl, rfl⟩
          go_wp2
          go_roundw
          case rel => exact ⟨k + 1, H, by omega, by go_num, HT4.out, hO.out, Nat.le_succ_of_le hW.out⟩
          case measure => simp [intOf]; omega
        | false =>
          rw [hm2] at M
          have HST := Lib.hid (wide_step H (but (any s m) (onl 0)) a (fun _ => HOT.out _ hm2))
          clear hm2 HOT hk3
          go_wp2_with (first | (with_reducible refine load_za rfl (.tmp 30) rfl b (o + k * 4) a rfl HR.out ?_) | fail)
          refine M.mono ?_
          rintro e w' ⟨rfl, rfl⟩
          clear M
          go_wp2_with (first | (with_reducible refine load_za rfl (.tmp 30) rfl b (o + k * 4) a rfl HR.out ?_) | fail)
          refine HD.out.mono ?_
          rintro e w5 ⟨rfl, T5, Z5⟩
          have ZB := Z5 _ _ Z4.out
          have HZR := Lib.hid ZB.rng
          have HD2 := Lib.hid (T5.act2 HFW.out a HA.out)
          clear HD T5 Z5 ZB Z4 HR HT4
          generalize wr.heap.size = vb at *
          go_wp2_with (first | (with_reducible refine load_za rfl (.tmp 10) rfl vb 0 a rfl HZR.out ?_) | fail)
          refine HD2.out.mono ?_
          rintro e w6 ⟨rfl, T6, -⟩
          rw [HST.out] at T6
          clear HD2 HZR HST HFW HA
          obtain ⟨H', hH'⟩ : ∃ H', H' = stepZ H a := ⟨_, rfl⟩
          rw [← hH'] at T6 HXO HXM HSW
          clear hH' T hO hW
          have Q1 := T6.one.all
          have Q2 := T6.one.safe
          have Q3 := T6.one.clk
          have P1 := T6.two.all
          have P2 := T6.two.safe
          have P3 := T6.two.clk
          obtain ⟨t1, t2⟩ := HXM.out
          change Calls Try.prog 11 #[.pointer (some ⟨g2, 0, none⟩)] w6 (fun e w' => e = .returned (.int .u64 (H'.clock : Nat)) ∧ w6 = w') at P3
          have T6 := Lib.hid T6
          clear HXM
          generalize allN H' = a1 at *
          generalize safeN H' = s1 at *
          generalize H'.clock = c1 at *
          generalize allN (wideZ H' (but (any s m) (onl 0))) = a2 at *
          generalize safeN (wideZ H' (but (any s m) (onl 0))) = s2 at *
          go_wp2_with (first | (go_at_call 9; (first | (with_reducible refine Q1.mono ?_) | (with_reducible refine P1.mono ?_)); rintro e w' ⟨rfl, rfl⟩) | (go_at_call 10; (first | (with_reducible refine Q2.mono ?_) | (with_reducible refine P2.mono ?_)); rintro e w' ⟨rfl, rfl⟩) | (go_at_call 11; (first | (with_reducible refine Q3.mono ?_) | (with_reducible refine P3.mono ?_)); rintro e w' ⟨rfl, rfl⟩))
          go_roundw
          case rel => exact ⟨k + 1, H', by omega, by go_num, T6.out, HXO.out, HSW.out⟩
          case measure => simp [intOf]; omega
      · have dk : decide (a.kind < 3) = false := by simp; omega
        have HST := Lib.hid (wide_step H (but (any s m) (onl 0)) a (fun h => absurd h hk3))
        clear HOT hk3 M
        go_wp2_with (first | (with_reducible refine load_za rfl (.tmp 30) rfl b (o + k * 4) a rfl HR.out ?_) | fail)
        refine HD.out.mono ?_
        rintro e w5 ⟨rfl, T5, Z5⟩
        have ZB := Z5 _ _ Z4.out
        have HZR := Lib.hid ZB.rng
        have HD2 := Lib.hid (T5.act2 HFW.out a HA.out)
        clear HD T5 Z5 ZB Z4 HR HT4
        generalize wr.heap.size = vb at *
        go_wp2_with (first | (with_reducible refine load_za rfl (.tmp 10) rfl vb 0 a rfl HZR.out ?_) | fail)
        refine HD2.out.mono ?_
        rintro e w6 ⟨rfl, T6, -⟩
        rw [HST.out] at T6
        clear HD2 HZR HST HFW HA
        obtain ⟨H', hH'⟩ : ∃ H', H' = stepZ H a := ⟨_, rfl⟩
        rw [← hH'] at T6 HXO HXM HSW
        clear hH' T hO hW
        have Q1 := T6.one.all
        have Q2 := T6.one.safe
        have Q3 := T6.one.clk
        have P1 := T6.two.all
        have P2 := T6.two.safe
        have P3 := T6.two.clk
        obtain ⟨t1, t2⟩ := HXM.out
        change Calls Try.prog 11 #[.pointer (some ⟨g2, 0, none⟩)] w6 (fun e w' => e = .returned (.int .u64 (H'.clock : Nat)) ∧ w6 = w') at P3
        have T6 := Lib.hid T6
        clear HXM
        generalize allN H' = a1 at *
        generalize safeN H' = s1 at *
        generalize H'.clock = c1 at *
        generalize allN (wideZ H' (but (any s m) (onl 0))) = a2 at *
        generalize safeN (wideZ H' (but (any s m) (onl 0))) = s2 at *
        go_wp2_with (first | (go_at_call 9; (first | (with_reducible refine Q1.mono ?_) | (with_reducible refine P1.mono ?_)); rintro e w' ⟨rfl, rfl⟩) | (go_at_call 10; (first | (with_reducible refine Q2.mono ?_) | (with_reducible refine P2.mono ?_)); rintro e w' ⟨rfl, rfl⟩) | (go_at_call 11; (first | (with_reducible refine Q3.mono ?_) | (with_reducible refine P3.mono ?_)); rintro e w' ⟨rfl, rfl⟩))
        go_roundw
        case rel => exact ⟨k + 1, H', by omega, by go_num, T6.out, HXO.out, HSW.out⟩
        case measure => simp [intOf]; omega
    · obtain rfl : k = len := by omega
      have HB := Lib.hid T.out.below
      clear T
      go_wp2
      go_ret
      exact ⟨rfl, HB.out⟩
theorem walk_HorizonMore {w : World} (a : Int) (wa : (Lit.int .u64 a).wf = true) (b : Int) (wb : (Lit.int .u64 b).wf = true) (ao : Option Addr) (len cap : Nat) (l : List ZA) (hl : Lst encZ 4 w ao len l ∧ len ≤ maxLen ∧ ∀ m ∈ l, m.ok) :
    Calls Try.prog 6 #[.int .u64 a, .int .u64 b, .slice ao len cap] w fun e w' => e = .returned (.bool true) ∧ Below w.heap.size w w' := by
  have b0 := Go.bounds_u64 wa
  have b1 := Go.bounds_u64 wb
  obtain ⟨a, rfl⟩ := Int.eq_ofNat_of_zero_le (show 0 ≤ a by omega)
  obtain ⟨b, rfl⟩ := Int.eq_ofNat_of_zero_le (show 0 ≤ b by omega)
  exact full_HorizonMore a b ao len cap l w (by omega) (by omega) hl.1 hl.2.2 hl.2.1
end Go.Proofs.Ytncldnenlchpnaa
