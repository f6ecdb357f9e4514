/- The walk of 'HorizonCopies'. -/
import Derived.Test.YtncldnenlchpnaaHzTwo
set_option linter.unusedVariables false
set_option linter.unusedSimpArgs false
namespace Go.Proofs.Ytncldnenlchpnaa
open Go.RowKit Go.Sort Go.Shelf

set_option maxHeartbeats 16000000 in
set_option maxRecDepth 100000 in
theorem full_HorizonCopies (s : Nat) (ao : Option Addr) (len cap : Nat) (l : List ZA) (at_ : Int) (w : World) (hs : s < 18446744073709551616)
    (hl : Lst encZ 4 w ao len l) (hok : ∀ m ∈ l, m.ok) (hle : len ≤ maxLen) (t0 : -9223372036854775808 ≤ at_) (t1 : at_ ≤ 9223372036854775807) :
    Calls Try.prog 5 #[.int .u64 (s : Int), .slice ao len cap, .int .i64 at_] w fun e w' => e = .returned (.bool true) ∧ Below w.heap.size w w' := by
  have hlen := hl.size
  have HL := Lib.hid hl
  have HOK := Lib.hid hok
  have HLEN := Lib.hid hlen
  clear hl hok hlen
  unfold maxLen at hle
  by_cases h1 : (100 : Int) < (len : Int)
  · have d1 : decide ((100 : Int) < (len : Int)) = true := by simp; omega
    go_enter Try.func5, Try.ntmps5
    go_wp2_with (go_at_call 7; refine (zawake _).mono ?_; rintro e w1 ⟨rfl, L1⟩)
    go_ret
    exact ⟨rfl, L1⟩
  have d1 : decide ((100 : Int) < (len : Int)) = false := by simp; omega
  by_cases h2 : at_ < 0
  · have d2 : decide (at_ < 0) = true := by simp; omega
    go_enter Try.func5, Try.ntmps5
    go_wp2_with (go_at_call 7; refine (zawake _).mono ?_; rintro e w1 ⟨rfl, L1⟩)
    go_ret
    exact ⟨rfl, L1⟩
  obtain ⟨p, rfl⟩ := Int.eq_ofNat_of_zero_le (show 0 ≤ at_ by omega)
  have d2 : decide ((p : Int) < 0) = false := by simp
  by_cases h3 : (len : Int) < (p : Int)
  · have d3 : decide ((len : Int) < (p : Int)) = true := by simp; omega
    go_enter Try.func5, Try.ntmps5
    go_wp2_with (go_at_call 7; refine (zawake _).mono ?_; rintro e w1 ⟨rfl, L1⟩)
    go_ret
    exact ⟨rfl, L1⟩
  have d3 : decide ((len : Int) < (p : Int)) = false := by simp; omega
  have hpl : p ≤ len := by omega
  have hl100 : len ≤ 100 := by omega
  clear h1 h2 h3
  go_enter Try.func5, Try.ntmps5
  go_wp2_with fail
  refine (zawake _).mono ?_
  rintro e w1 ⟨rfl, L1⟩
  have HN := Lib.hid (NewZ.made 0 s L1 hs (by decide) (by decide))
  have HW0 := Lib.hid (show (newZ 0 s).wait.length = 0 from rfl)
  generalize newZ 0 s = H0 at *
  clear L1
  go_wp2_with fail
  refine HN.out.mono ?_
  rintro e w2 ⟨rfl, N2⟩
  generalize w1.heap.size + 1 = g at *
  have N2 := Lib.hid N2
  clear HN
  go_wp2
  go_loopw [8] (fun si wr => ∃ k : Nat, k ≤ p ∧ si = .int .i64 k ∧ Aside (NewZ w wr g (runZ H0 (l.take k)))) (fun si _ => p - (intOf si).toNat)
  case atStart => exact ⟨0, Nat.zero_le _, rfl, by rw [List.take_zero]; exact N2.out⟩
  case round =>
    obtain ⟨k, hk, rfl, N⟩ := hrel
    clear N2
    by_cases hlt : k < p
    · have hil : k < l.length := by rw [HLEN.out]; omega
      obtain ⟨b, o, rfl, R⟩ := HL.out.src (by omega)
      have hx := List.getElem?_eq_getElem hil
      have ha := HOK.out _ (List.getElem_mem hil)
      generalize l[k] = a at hx ha
      have HR := Lib.hid (show wr.rangeAt b (o + k * 4) (encZ a) from fun j v hj => cell_later N.out.below (za_range R k a hx j v hj))
      have HT := Lib.hid (runZ_take H0 l k a hx)
      have hfew := run_few H0 l k 99999 HW0.out (by omega)
      have HD := Lib.hid (N.out.act hfew a ha)
      clear R hx hil N hfew ha
      go_wp2_with (first | (with_reducible refine load_za rfl (.tmp 40) rfl b (o + k * 4) a rfl HR.out ?_) | fail)
      refine HD.out.mono ?_
      rintro e w3 ⟨rfl, N3⟩
      rw [← HT.out] at N3
      have N3 := Lib.hid N3
      clear HD HT HR
      go_wp2
      go_roundw
      case rel => exact ⟨k + 1, by omega, by go_num, N3.out⟩
      case measure => simp [intOf]; omega
    · obtain rfl : k = p := by omega
      have hfew := run_few H0 l k 100000 HW0.out (by omega)
      have HC := Lib.hid (N.out.copy hfew)
      clear N hfew
      go_wp2_with fail
      refine HC.out.mono ?_
      rintro e w3 ⟨rfl, T3⟩
      generalize wr.heap.size = gc at *
      have Q1 := Lib.hid T3.one.all
      have Q2 := Lib.hid T3.one.safe
      have Q3 := Lib.hid T3.one.clk
      have T3 := Lib.hid T3
      clear HC
      go_wp2_with (first | (go_at_call 9; refine Q1.out.mono ?_; rintro e w' ⟨rfl, rfl⟩) | (go_at_call 10; refine Q2.out.mono ?_; rintro e w' ⟨rfl, rfl⟩) | (go_at_call 11; refine Q3.out.mono ?_; rintro e w' ⟨rfl, rfl⟩))
      clear Q1 Q2 Q3
      go_loopw [13] (fun si wr => ∃ j : Nat, k ≤ j ∧ j ≤ len ∧ si = .int .i64 j ∧ Aside (TwoZ w wr g gc (runZ H0 (l.take j)) (runZ H0 (l.take k)))) (fun si _ => len - (intOf si).toNat)
      case atStart => exact ⟨k, Nat.le_refl _, hpl, rfl, T3.out⟩
      case round =>
        obtain ⟨j, hkj, hj, rfl, T⟩ := hrel
        clear T3
        by_cases hlt2 : j < len
        · have hil : j < l.length := by rw [HLEN.out]; omega
          obtain ⟨b, o, rfl, R⟩ := HL.out.src (by omega)
          have hx := List.getElem?_eq_getElem hil
          have ha := HOK.out _ (List.getElem_mem hil)
          generalize l[j] = a at hx ha
          have HR := Lib.hid (show wr.rangeAt b (o + j * 4) (encZ a) from fun q v hj => cell_later T.out.below (za_range R j a hx q v hj))
          have HT := Lib.hid (runZ_take H0 l j a hx)
          have hfew := run_few H0 l j 99999 HW0.out (by omega)
          have HD := Lib.hid (T.out.act hfew a ha)
          clear R hx hil T hfew ha
          go_wp2_with (first | (with_reducible refine load_za rfl (.tmp 61) rfl b (o + j * 4) a rfl HR.out ?_) | fail)
          refine HD.out.mono ?_
          rintro e w4 ⟨rfl, T4, -⟩
          rw [← HT.out] at T4
          have T4 := Lib.hid T4
          clear HD HT HR
          go_wp2
          go_roundw
          case rel => exact ⟨j + 1, by omega, by omega, by go_num, T4.out⟩
          case measure => simp [intOf]; omega
        · obtain rfl : j = len := by omega
          have Q1 := Lib.hid T.out.two.all
          have Q2 := Lib.hid T.out.two.safe
          have Q3 := Lib.hid T.out.two.clk
          go_wp2_with (first | (go_at_call 9; refine Q1.out.mono ?_; rintro e w' ⟨rfl, rfl⟩) | (go_at_call 10; refine Q2.out.mono ?_; rintro e w' ⟨rfl, rfl⟩) | (go_at_call 11; refine Q3.out.mono ?_; rintro e w' ⟨rfl, rfl⟩))
          clear Q1 Q2 Q3
          go_loopw [14] (fun si wr => ∃ i : Nat, k ≤ i ∧ i ≤ j ∧ si = .int .i64 i ∧ Aside (TwoZ w wr g gc (runZ H0 (l.take j)) (runZ H0 (l.take i)))) (fun si _ => j - (intOf si).toNat)
          case atStart => exact ⟨k, Nat.le_refl _, hpl, rfl, T⟩
          case round =>
            obtain ⟨i, hki, hi, rfl, T2⟩ := hrel
            clear T
            by_cases hlt3 : i < j
            · have hil : i < l.length := by rw [HLEN.out]; omega
              obtain ⟨b, o, rfl, R⟩ := HL.out.src (by omega)
              have hx := List.getElem?_eq_getElem hil
              have ha := HOK.out _ (List.getElem_mem hil)
              generalize l[i] = a at hx ha
              have HR := Lib.hid (show wr.rangeAt b (o + i * 4) (encZ a) from fun q v hj => cell_later T2.out.below (za_range R i a hx q v hj))
              have HT := Lib.hid (runZ_take H0 l i a hx)
              have hfew := run_few H0 l i 99999 HW0.out (by omega)
              have HD := Lib.hid (T2.out.act2 hfew a ha)
              clear R hx hil T2 hfew ha
              go_wp2_with (first | (with_reducible refine load_za rfl (.tmp 90) rfl b (o + i * 4) a rfl HR.out ?_) | fail)
              refine HD.out.mono ?_
              rintro e w4 ⟨rfl, T4, -⟩
              rw [← HT.out] at T4
              have T4 := Lib.hid T4
              clear HD HT HR
              go_wp2
              go_roundw
              case rel => exact ⟨i + 1, by omega, by omega, by go_num, T4.out⟩
              case measure => simp [intOf]; omega
            · obtain rfl : i = j := by omega
              have Q1 := Lib.hid T2.out.one.all
              have Q2 := Lib.hid T2.out.one.safe
              have Q3 := Lib.hid T2.out.one.clk
              have P1 := Lib.hid T2.out.two.all
              have P2 := Lib.hid T2.out.two.safe
              have P3 := Lib.hid T2.out.two.clk
              have HB := Lib.hid T2.out.below
              clear T2
              go_wp2_with (first | (go_at_call 9; (first | (with_reducible refine Q1.out.mono ?_) | (with_reducible refine P1.out.mono ?_)); rintro e w' ⟨rfl, rfl⟩) | (go_at_call 10; (first | (with_reducible refine Q2.out.mono ?_) | (with_reducible refine P2.out.mono ?_)); rintro e w' ⟨rfl, rfl⟩) | (go_at_call 11; (first | (with_reducible refine Q3.out.mono ?_) | (with_reducible refine P3.out.mono ?_)); rintro e w' ⟨rfl, rfl⟩))
              go_ret
              exact ⟨rfl, HB.out⟩
theorem walk_HorizonCopies {w : World} (a : Int) (wa : (Lit.int .u64 a).wf = true) (ao : Option Addr) (len cap : Nat) (l : List ZA) (hl : Lst encZ 4 w ao len l ∧ len ≤ maxLen ∧ ∀ m ∈ l, m.ok) (d : Int) (wd : (Lit.int .i64 d).wf = true) :
    Calls Try.prog 5 #[.int .u64 a, .slice ao len cap, .int .i64 d] w fun e w' => e = .returned (.bool true) ∧ Below w.heap.size w w' := by
  have b0 := Go.bounds_u64 wa
  have b3 := Go.bounds_i64 wd
  obtain ⟨a, rfl⟩ := Int.eq_ofNat_of_zero_le (show 0 ≤ a by omega)
  exact full_HorizonCopies a ao len cap l d w (by omega) hl.1 hl.2.2 hl.2.1 (by omega) (by omega)
end Go.Proofs.Ytncldnenlchpnaa
