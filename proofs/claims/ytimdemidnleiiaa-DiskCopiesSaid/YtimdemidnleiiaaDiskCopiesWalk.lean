/- The walk of 'DiskCopies'. -/
import Derived.Test.YtimdemidnleiiaaDiskOpen
set_option linter.unusedVariables false
set_option linter.unusedSimpArgs false
namespace Go.Proofs.Ytimdemidnleiiaa
open Go.RowKit Go.Sort

/-- What some acts leave, from the number a on, ahead of the number k. -/
def runD (d : Dk) (l : List DAc) : Nat → Nat → Dk
  | _, 0 => d
  | a, n + 1 => match l[a + n]? with
    | some x => stepD (runD d l a n) x
    | none => runD d l a n
theorem runD_next (d : Dk) (l : List DAc) (a n : Nat) (x : DAc) (h : l[a + n]? = some x) : runD d l a (n + 1) = stepD (runD d l a n) x := by
  show (match l[a + n]? with | some x => stepD (runD d l a n) x | none => runD d l a n) = _
  rw [h]

set_option maxHeartbeats 4000000 in
set_option maxRecDepth 100000 in
theorem full_DiskCopies (ao : Option Addr) (len cap : Nat) (l : List DAc) (at_ : Int) (h0 : -9223372036854775808 ≤ at_) (h1 : at_ ≤ 9223372036854775807) (w : World) (hl : Lst encDA 3 w ao len l) (hle : len ≤ maxLen) (hok : ∀ m ∈ l, m.ok) :
    Calls Try.prog 5 #[.slice ao len cap, .int .i64 at_] w fun e w' => e = .returned (.bool true) ∧ Below w.heap.size w w' := by
  have hlen := hl.size
  have HL := Lib.hid hl
  have HOK := Lib.hid hok
  clear hl hok
  by_cases hneg : at_ < 0
  · go_enter Try.func5, Try.ntmps5
    go_wp2_with fail
    refine (dawake _).mono ?_
    rintro e w1 ⟨rfl, L1⟩
    go_wp2_with fail
    refine (dfew ao len cap l w1 (HL.out.below L1) hle HOK.out).mono ?_
    rintro e w' ⟨⟨bf, rfl⟩, rfl⟩
    cases bf
    · go_wp2
      go_ret
      exact ⟨rfl, L1⟩
    · go_wp2
      go_ret
      exact ⟨rfl, L1⟩
  by_cases hbig : (len : Int) < at_
  · have hd : decide (at_ < 0) = false := by simp; omega
    go_enter Try.func5, Try.ntmps5
    go_wp2_with fail
    refine (dawake _).mono ?_
    rintro e w1 ⟨rfl, L1⟩
    go_wp2_with fail
    refine (dfew ao len cap l w1 (HL.out.below L1) hle HOK.out).mono ?_
    rintro e w' ⟨⟨bf, rfl⟩, rfl⟩
    cases bf
    · go_wp2
      go_ret
      exact ⟨rfl, L1⟩
    · go_wp2
      go_ret
      exact ⟨rfl, L1⟩
  obtain ⟨t, rfl⟩ := Int.eq_ofNat_of_zero_le (show 0 ≤ at_ by omega)
  have htl : t ≤ len := by omega
  have hd1 : decide ((len : Int) < (t : Int)) = false := by simp; omega
  have hd2 : decide ((t : Int) < 0) = false := by simp
  clear hneg hbig h0 h1
  go_enter Try.func5, Try.ntmps5
  go_wp2_with fail
  refine (dawake _).mono ?_
  rintro e w1 ⟨rfl, L1⟩
  go_wp2_with fail
  refine (dfew ao len cap l w1 (HL.out.below L1) hle HOK.out).mono ?_
  rintro e w' ⟨⟨bf, rfl⟩, rfl⟩
  cases bf
  · go_wp2
    go_ret
    exact ⟨rfl, L1⟩
  go_wp2_with fail
  refine (dnew w1).mono ?_
  rintro e w2 ⟨rfl, A2, L2'⟩
  have L2 := L1.trans (L2'.mono L1.size)
  have hs1 := L1.size
  generalize w1.heap.size = g at *
  clear L1 L2' hd1 hd2
  unfold maxLen at hle
  go_wp2
  go_loopw [6] (fun i wr => ∃ (k : Nat) (d : Dk), k ≤ t ∧ i = .int .i64 k ∧ DkAt wr g d ∧ Below w.heap.size w wr) (fun i _ => t - (intOf i).toNat)
  case atStart => exact ⟨0, newD0, Nat.zero_le _, rfl, A2, L2⟩
  case round =>
    obtain ⟨k, d, hk, rfl, A, L⟩ := hrel
    clear A2 L2
    by_cases hlt : k < t
    · have hkl : k < l.length := by omega
      obtain ⟨b, o, rfl, R⟩ := (HL.out.below L).src (by omega)
      have hx := List.getElem?_eq_getElem hkl
      have ha := HOK.out _ (List.getElem_mem hkl)
      generalize l[k] = x at hx ha
      obtain ⟨c0, c1, c2⟩ := dlst_at R k x hx
      have HACT : Hid (Calls Try.prog 10 #[.pointer (some ⟨g, 0, none⟩), .agg #[.string x.data, .bool x.tear, .int .i64 x.keep]] wr fun e w' => e = .returned (.int .i64 (codeD x.data)) ∧ DkAt w' g (stepD d x) ∧ wr.grownBy w' (some g)) := Lib.hid (dact A x ha)
      have hgs := L.size
      have hgr := A.lt
      have HLL := Lib.hid L
      have hkn : k < len := by omega
      clear A R hx ha hkl L
      go_wp2_with (go_at_call 10; refine HACT.out.mono ?_; rintro e w4 ⟨rfl, A4, G4⟩; (have L4 := Lib.hid (HLL.out.grown G4 (by omega) (fun k hk => by cases hk; omega))); clear c0 c1 c2 G4 HACT)
      go_roundw
      case rel => exact ⟨k + 1, stepD d x, by omega, by go_num, A4, L4.out⟩
      case measure => simp [intOf]; omega
    · obtain rfl : k = t := by omega
      clear hlt hk
      have HD := Lib.hid A
      have HLL := Lib.hid L
      have hgr := A.lt
      have hgs := L.size
      clear L
      have HC := dcopy A
      clear A
      go_wp2_with fail
      refine HC.mono ?_
      rintro e w3 ⟨rfl, C3, L3⟩
      have A3 := HD.out.below L3
      have LL3 := HLL.out.trans (L3.mono hgs)
      generalize hgc : wr.heap.size = gc at *
      have hne : g ≠ gc := by omega
      have hgcs : w.heap.size ≤ gc := by omega
      clear HD HLL L3 HC hgc
      have RD := Lib.hid (dread A3)
      have HA3 := Lib.hid A3
      have HC3 := Lib.hid C3
      have hg3 := LL3.size
      clear A3 C3
      go_wp2_with fail
      refine RD.out.mono ?_
      rintro e w4 ⟨rfl, L4⟩
      have A4 := HA3.out.below L4
      have C4 := HC3.out.below L4
      have LL4 := LL3.trans (L4.mono hg3)
      clear HA3 HC3 LL3 L4 RD hg3
      go_wp2
      go_loopw [10] (fun i wr => ∃ (n : Nat), k + n ≤ len ∧ i = .int .i64 ((k + n : Nat) : Int) ∧ DkAt wr g (runD d l k n) ∧ DkAt wr gc d ∧ Below w.heap.size w wr) (fun i _ => len - (intOf i).toNat)
      case atStart => exact ⟨0, by omega, rfl, A4, C4, LL4⟩
      case round =>
        obtain ⟨n, hn, rfl, A, C, L⟩ := hrel
        clear A4 C4 LL4
        by_cases hlt2 : k + n < len
        · have hkl : k + n < l.length := by omega
          obtain ⟨b, o, rfl, R⟩ := (HL.out.below L).src (by omega)
          have hx := List.getElem?_eq_getElem hkl
          have ha := HOK.out _ (List.getElem_mem hkl)
          generalize l[k + n] = x at hx ha
          have HNX := Lib.hid (runD_next d l k n x hx)
          obtain ⟨q, hq⟩ : ∃ q, k + n = q := ⟨_, rfl⟩
          rw [hq] at hx hlt2 ⊢
          obtain ⟨c0, c1, c2⟩ := dlst_at R q x hx
          have HACT : Hid (Calls Try.prog 10 #[.pointer (some ⟨g, 0, none⟩), .agg #[.string x.data, .bool x.tear, .int .i64 x.keep]] wr fun e w' => e = .returned (.int .i64 (codeD x.data)) ∧ DkAt w' g (stepD (runD d l k n) x) ∧ wr.grownBy w' (some g)) := Lib.hid (dact A x ha)
          have hgs2 := L.size
          have hgr2 := A.lt
          have HLL := Lib.hid L
          have HC := Lib.hid C
          have HQ := Lib.hid hq
          clear A R hx ha hkl L C hq hn
          go_wp2_with (go_at_call 10; refine HACT.out.mono ?_; rintro e w4 ⟨rfl, A4, G4⟩; (have L4 := Lib.hid (HLL.out.grown G4 (by omega) (fun k hk => by cases hk; omega))); (have C4 := Lib.hid (HC.out.grown G4 (Ne.symm hne))); clear c0 c1 c2 G4 HACT)
          go_roundw
          case rel => exact ⟨n + 1, by have := HQ.out; omega, by have := HQ.out; rw [show k + (n + 1) = q + 1 by omega]; go_num, by rw [HNX.out]; exact A4, C4.out, L4.out⟩
          case measure => simp [intOf]; omega
        · have hkn : k + n = len := by omega
          have HKN := Lib.hid hkn
          have hgs2 := L.size
          have hcl := C.lt
          have RC := Lib.hid (dread C)
          have HA := Lib.hid A
          have HC := Lib.hid C
          have HLL := Lib.hid L
          clear A C L hn
          rw [hkn] at hlt2 ⊢
          clear hkn
          go_upto_region 19 with (go_at_call 13; refine RC.out.mono ?_; rintro e w5 ⟨rfl, L5⟩)
          have A5 := HA.out.below L5
          have C5 := HC.out.below L5
          have LL5 := HLL.out.trans (L5.mono hgs2)
          clear RC HA HC HLL L5
          go_wp2
          go_loopw [13] (fun i wr => ∃ (m : Nat), k + m ≤ len ∧ i = .int .i64 ((k + m : Nat) : Int) ∧ DkAt wr g (runD d l k n) ∧ DkAt wr gc (runD d l k m) ∧ Below w.heap.size w wr) (fun i _ => len - (intOf i).toNat)
          case atStart => exact ⟨0, by omega, rfl, A5, C5, LL5⟩
          case round =>
            obtain ⟨m, hm, rfl, A, C, L⟩ := hrel
            clear A5 C5 LL5
            by_cases hlt3 : k + m < len
            · have hkl : k + m < l.length := by omega
              obtain ⟨b, o, rfl, R⟩ := (HL.out.below L).src (by omega)
              have hx := List.getElem?_eq_getElem hkl
              have ha := HOK.out _ (List.getElem_mem hkl)
              generalize l[k + m] = x at hx ha
              have HNX := Lib.hid (runD_next d l k m x hx)
              obtain ⟨q, hq⟩ : ∃ q, k + m = q := ⟨_, rfl⟩
              rw [hq] at hx hlt3 ⊢
              obtain ⟨c0, c1, c2⟩ := dlst_at R q x hx
              have HACT : Hid (Calls Try.prog 10 #[.pointer (some ⟨gc, 0, none⟩), .agg #[.string x.data, .bool x.tear, .int .i64 x.keep]] wr fun e w' => e = .returned (.int .i64 (codeD x.data)) ∧ DkAt w' gc (stepD (runD d l k m) x) ∧ wr.grownBy w' (some gc)) := Lib.hid (dact C x ha)
              have hgs3 := L.size
              have hgr3 := C.lt
              have HLL := Lib.hid L
              have HA := Lib.hid A
              have HQ := Lib.hid hq
              clear A R hx ha hkl L C hq hm
              go_wp2_with (go_at_call 10; refine HACT.out.mono ?_; rintro e w4 ⟨rfl, C4, G4⟩; (have L4 := Lib.hid (HLL.out.grown G4 (by omega) (fun k hk => by cases hk; omega))); (have A4 := Lib.hid (HA.out.grown G4 hne)); clear c0 c1 c2 G4 HACT)
              go_roundw
              case rel => exact ⟨m + 1, by have := HQ.out; omega, by have := HQ.out; rw [show k + (m + 1) = q + 1 by omega]; go_num, A4.out, by rw [HNX.out]; exact C4, L4.out⟩
              case measure => simp [intOf]; omega
            · have hmn : m = n := by have := HKN.out; omega
              have hkm : k + m = len := by have := HKN.out; omega
              subst hmn
              have HLL := Lib.hid L
              have S0 : Calls Try.prog 15 #[.pointer (some ⟨gc, 0, none⟩), .int .i64 0] wr fun e w' => e = .returned (.string (runD d l k m).a) ∧ wr = w' := dslot C 0 (by decide) (by decide)
              have S1 : Calls Try.prog 15 #[.pointer (some ⟨gc, 0, none⟩), .int .i64 1] wr fun e w' => e = .returned (.string (runD d l k m).b) ∧ wr = w' := dslot C 1 (by decide) (by decide)
              have T0 : Calls Try.prog 15 #[.pointer (some ⟨g, 0, none⟩), .int .i64 0] wr fun e w' => e = .returned (.string (runD d l k m).a) ∧ wr = w' := dslot A 0 (by decide) (by decide)
              have T1 : Calls Try.prog 15 #[.pointer (some ⟨g, 0, none⟩), .int .i64 1] wr fun e w' => e = .returned (.string (runD d l k m).b) ∧ wr = w' := dslot A 1 (by decide) (by decide)
              have S0 := Lib.hid S0
              have S1 := Lib.hid S1
              have T0 := Lib.hid T0
              have T1 := Lib.hid T1
              rw [hkm] at hlt3 ⊢
              clear A C L hm hkm HKN
              go_wp2_with (go_at_call 15; first | (with_reducible refine S0.out.mono ?_; rintro e w' ⟨rfl, rfl⟩) | (with_reducible refine S1.out.mono ?_; rintro e w' ⟨rfl, rfl⟩) | (with_reducible refine T0.out.mono ?_; rintro e w' ⟨rfl, rfl⟩) | (with_reducible refine T1.out.mono ?_; rintro e w' ⟨rfl, rfl⟩))
              go_ret
              exact ⟨rfl, HLL.out⟩
theorem walk_DiskCopies {w : World} (ao : Option Addr) (len cap : Nat) (l : List DAc) (hl : Lst encDA 3 w ao len l ∧ len ≤ maxLen ∧ ∀ m ∈ l, m.ok) (at_ : Int) (wa : (Lit.int .i64 at_).wf = true) :
    Calls Try.prog 5 #[.slice ao len cap, .int .i64 at_] w fun e w' => e = .returned (.bool true) ∧ Below w.heap.size w w' := by
  have b0 := Go.bounds_i64 wa
  exact full_DiskCopies ao len cap l at_ (by omega) (by omega) w hl.1 hl.2.1 hl.2.2
end Go.Proofs.Ytimdemidnleiiaa
