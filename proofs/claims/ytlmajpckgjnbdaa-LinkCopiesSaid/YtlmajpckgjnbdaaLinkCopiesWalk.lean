/- The walk of 'LinkCopies'. -/
import Derived.Test.YtlmajpckgjnbdaaLinkDo
set_option linter.unusedVariables false
set_option linter.unusedSimpArgs false
namespace Go.Proofs.Ytlmajpckgjnbdaa
open Go.RowKit Go.Sort

theorem at_sent (W : Wn) (l : List LA) (k : Nat) (h0 : W.sent = 0) : (runL W (l.take k)).sent ≤ k := by
  have := runL_sent (l.take k) W
  rw [List.length_take] at this
  omega
theorem load_at {ops : Array Oper} {rest : List Oper} {o : Oper} {A : Act} {w : World} {Q : Exit → Act → World → Prop} (hgd : o.guard = none) (x : Operand) (ho : o.op = .load 35 x)
    (b q : Nat) (a : LA) (hx : A.eval x = .pointer (some ⟨b, q, none⟩)) (hc : w.rangeAt b q (encL a))
    (h : wpList Try.prog ops Q rest (A.put o.dst (.agg #[.int .i64 a.p, .int .i64 a.n, .int .u32 (a.seq : Int)])) w) : wpList Try.prog ops Q (o :: rest) A w :=
  wpList_load_mid hgd 35 x ho b q hx (encL a) _ hc Try.underlying35 rfl (by kernel_rfl) h
theorem lact_range {w : World} {b o : Nat} {l : List LA} (h : RowAt encL 3 w b o l) (k : Nat) (a : LA) (hk : l[k]? = some a) : w.rangeAt b (o + k * 3) (encL a) := fun j v hj => h k a hk j v hj
set_option maxHeartbeats 8000000 in
set_option maxRecDepth 100000 in
theorem full_LinkCopies (s : Nat) (size : Int) (ao : Option Addr) (len cap : Nat) (l : List LA) (at_ : Int) (w : World) (hs : s < 18446744073709551616) (b0 : -9223372036854775808 ≤ size) (b1 : size ≤ 9223372036854775807)
    (hl : Lst encL 3 w ao len l) (hok : ∀ m ∈ l, m.ok) (hle : len ≤ maxLen) (t0 : -9223372036854775808 ≤ at_) (t1 : at_ ≤ 9223372036854775807) :
    Calls Try.prog 6 #[.int .u64 (s : Int), .int .i64 size, .slice ao len cap, .int .i64 at_] w fun e w' => e = .returned (.bool true) ∧ Below w.heap.size w w' := by
  have hlen := hl.size
  have HL := Lib.hid hl
  have HOK := Lib.hid hok
  have HLEN := Lib.hid hlen
  clear hl hok hlen
  unfold maxLen at hle
  by_cases h1 : (300 : Int) < (len : Int)
  · have d1 : decide ((300 : Int) < (len : Int)) = true := by simp; omega
    go_enter Try.func6, Try.ntmps6
    go_wp2_with (go_at_call 7; refine (lawake _).mono ?_; rintro e w1 ⟨rfl, L1⟩)
    go_ret
    exact ⟨rfl, L1⟩
  have d1 : decide ((300 : Int) < (len : Int)) = false := by simp; omega
  by_cases h2 : at_ < 0
  · have d2 : decide (at_ < 0) = true := by simp; omega
    go_enter Try.func6, Try.ntmps6
    go_wp2_with (go_at_call 7; refine (lawake _).mono ?_; rintro e w1 ⟨rfl, L1⟩)
    go_ret
    exact ⟨rfl, L1⟩
  obtain ⟨p, rfl⟩ := Int.eq_ofNat_of_zero_le (show 0 ≤ at_ by omega)
  have d2 : decide ((p : Int) < 0) = false := by simp
  by_cases h3 : (len : Int) < (p : Int)
  · have d3 : decide ((len : Int) < (p : Int)) = true := by simp; omega
    go_enter Try.func6, Try.ntmps6
    go_wp2_with (go_at_call 7; refine (lawake _).mono ?_; rintro e w1 ⟨rfl, L1⟩)
    go_ret
    exact ⟨rfl, L1⟩
  have d3 : decide ((len : Int) < (p : Int)) = false := by simp; omega
  have hpl : p ≤ len := by omega
  have hl300 : len ≤ 300 := by omega
  clear h1 h2 h3
  go_enter Try.func6, Try.ntmps6
  go_wp2_with fail
  refine (lawake _).mono ?_
  rintro e w1 ⟨rfl, L1⟩
  have HN := lnew 0 size s w1 hs (by decide) (by decide) b0 b1
  have HS0 := Lib.hid (show (newN 0 s size).sent = 0 from rfl)
  generalize newN 0 s size = W0 at *
  have HL1 := Lib.hid L1
  clear L1
  go_wp2_with fail
  refine HN.mono ?_
  rintro e w2 ⟨rfl, A2, B2⟩
  have L2 := HL1.out.trans (B2.mono HL1.out.size)
  have hgw : w.heap.size ≤ w1.heap.size + 1 := Nat.le_trans HL1.out.size (Nat.le_succ _)
  clear HN B2 HL1
  generalize w1.heap.size + 1 = g at *
  go_wp2
  go_loopw [11] (fun si wr => ∃ k : Nat, k ≤ p ∧ si = .int .i64 k ∧ LkAt wr g (runL W0 (l.take k)) ∧ Below w.heap.size w wr) (fun si _ => p - (intOf si).toNat)
  case atStart => exact ⟨0, Nat.zero_le _, rfl, by rw [List.take_zero]; exact A2, L2⟩
  case round =>
    obtain ⟨k, hk, rfl, A, L⟩ := hrel
    clear A2 L2
    by_cases hlt : k < p
    · have hil : k < l.length := by rw [HLEN.out]; omega
      obtain ⟨b, o, rfl, R⟩ := (HL.out.below L).src (by omega)
      have hx := List.getElem?_eq_getElem hil
      have ha := HOK.out _ (List.getElem_mem hil)
      generalize l[k] = a at hx ha
      have HR := Lib.hid (lact_range R k a hx)
      have hs1 := at_sent W0 l k HS0.out
      have HT := Lib.hid (runL_take W0 l k a hx)
      have HD := Lib.hid (ldo A a ha (by omega))
      have HL' := Lib.hid L
      clear R hx ha hs1 A L hil
      go_wp2_with (first | (with_reducible refine load_at rfl (.tmp 44) rfl b (o + k * 3) a rfl HR.out ?_) | fail)
      refine HD.out.mono ?_
      rintro e w3 ⟨rfl, K⟩
      have A3 := K.at_
      rw [← HT.out] at A3
      have A3 := Lib.hid A3
      have L3 := Lib.hid (Linked.later HL'.out K hgw)
      clear K HD HT HL' HR
      go_wp2
      go_roundw
      case rel => exact ⟨k + 1, by omega, by go_num, A3.out, L3.out⟩
      case measure => simp [intOf]; omega
    · obtain rfl : k = p := by omega
      have HC := lcopy A
      have HA := Lib.hid A
      have HL1 := Lib.hid L
      have hgl := A.lt
      clear A L
      go_wp2_with fail
      refine HC.mono ?_
      rintro e w3 ⟨rfl, C3, B3⟩
      have A3 := HA.out.below B3
      have L3 := HL1.out.trans (B3.mono HL1.out.size)
      have H1 := lsent A3
      have H2 := llow A3
      have hgc : w.heap.size ≤ wr.heap.size := HL1.out.size
      have hne : g ≠ wr.heap.size := by omega
      have A3 := Lib.hid A3
      have L3 := Lib.hid L3
      have C3 := Lib.hid C3
      clear HC B3 HA HL1 hgl
      generalize wr.heap.size = gc at *
      have HZ := Lib.hid (show True from trivial)
      go_wp2_with (first | (refine H1.mono ?_; rintro e w' ⟨rfl, rfl⟩) | (refine H2.mono ?_; rintro e w' ⟨rfl, rfl⟩))
      clear H1 H2
      go_loopw [15] (fun si wr => ∃ j : Nat, k ≤ j ∧ j ≤ len ∧ si = .int .i64 j ∧ LkAt wr g (runL W0 (l.take j)) ∧ LkAt wr gc (runL W0 (l.take k)) ∧ Below w.heap.size w wr) (fun si _ => len - (intOf si).toNat)
      case atStart => exact ⟨k, Nat.le_refl _, hpl, rfl, A3.out, C3.out, L3.out⟩
      case round =>
        obtain ⟨j, hkj, hj, rfl, A, C, L⟩ := hrel
        clear A3 C3 L3
        by_cases hlt2 : j < len
        · have hil : j < l.length := by rw [HLEN.out]; omega
          obtain ⟨b, o, rfl, R⟩ := (HL.out.below L).src (by omega)
          have hx := List.getElem?_eq_getElem hil
          have ha := HOK.out _ (List.getElem_mem hil)
          generalize l[j] = a at hx ha
          have HR := Lib.hid (lact_range R j a hx)
          have hs1 := at_sent W0 l j HS0.out
          have HT := Lib.hid (runL_take W0 l j a hx)
          have HD := Lib.hid (ldo A a ha (by omega))
          have HL' := Lib.hid L
          have HCC := Lib.hid C
          clear R hx ha hs1 A C L hil
          go_wp2_with (first | (with_reducible refine load_at rfl (.tmp 64) rfl b (o + j * 3) a rfl HR.out ?_) | fail)
          refine HD.out.mono ?_
          rintro e w4 ⟨rfl, K⟩
          have A4 := K.at_
          rw [← HT.out] at A4
          have A4 := Lib.hid A4
          have C4 := Lib.hid (HCC.out.grown K.gr (by intro e; cases e; exact hne rfl))
          have L4 := Lib.hid (Linked.later HL'.out K hgw)
          clear K HD HT HL' HR HCC
          go_wp2
          go_roundw
          case rel => exact ⟨j + 1, by omega, by omega, by go_num, A4.out, C4.out, L4.out⟩
          case measure => simp [intOf]; omega
        · obtain rfl : j = len := by omega
          have H1 := lsent C
          have H2 := llow C
          have HA := Lib.hid A
          have HC := Lib.hid C
          have HL1 := Lib.hid L
          clear A C L
          go_wp2_with (first | (refine H1.mono ?_; rintro e w' ⟨rfl, rfl⟩) | (refine H2.mono ?_; rintro e w' ⟨rfl, rfl⟩))
          clear H1 H2
          go_loopw [16] (fun si wr => ∃ i : Nat, k ≤ i ∧ i ≤ j ∧ si = .int .i64 i ∧ LkAt wr gc (runL W0 (l.take i)) ∧ LkAt wr g (runL W0 (l.take j)) ∧ Below w.heap.size w wr) (fun si _ => j - (intOf si).toNat)
          case atStart => exact ⟨k, Nat.le_refl _, hpl, rfl, HC.out, HA.out, HL1.out⟩
          case round =>
            obtain ⟨i, hki, hi, rfl, A, C, L⟩ := hrel
            clear HA HC HL1
            by_cases hlt3 : i < j
            · have hil : i < l.length := by rw [HLEN.out]; omega
              obtain ⟨b, o, rfl, R⟩ := (HL.out.below L).src (by omega)
              have hx := List.getElem?_eq_getElem hil
              have ha := HOK.out _ (List.getElem_mem hil)
              generalize l[i] = a at hx ha
              have HR := Lib.hid (lact_range R i a hx)
              have hs1 := at_sent W0 l i HS0.out
              have HT := Lib.hid (runL_take W0 l i a hx)
              have HD := Lib.hid (ldo A a ha (by omega))
              have HL' := Lib.hid L
              have HCC := Lib.hid C
              clear R hx ha hs1 A C L hil
              go_wp2_with (first | (with_reducible refine load_at rfl (.tmp 88) rfl b (o + i * 3) a rfl HR.out ?_) | fail)
              refine HD.out.mono ?_
              rintro e w4 ⟨rfl, K⟩
              have A4 := K.at_
              rw [← HT.out] at A4
              have A4 := Lib.hid A4
              have C4 := Lib.hid (HCC.out.grown K.gr (by intro e; cases e; exact hne rfl))
              have L4 := Lib.hid (Linked.later HL'.out K hgc)
              clear K HD HT HL' HR HCC
              go_wp2
              go_roundw
              case rel => exact ⟨i + 1, by omega, by omega, by go_num, A4.out, C4.out, L4.out⟩
              case measure => simp [intOf]; omega
            · obtain rfl : i = j := by omega
              have H1 := lsent A
              have H2 := lsent C
              have H3 := llow A
              have H4 := llow C
              have H5 := llag A
              have HC := Lib.hid C
              have HL1 := Lib.hid L
              clear A C L
              go_wp2_with fail
              refine H1.mono ?_
              rintro e w' ⟨rfl, rfl⟩
              clear H1
              go_wp2_with fail
              refine H2.mono ?_
              rintro e w' ⟨rfl, rfl⟩
              clear H2
              go_wp2_with fail
              refine H3.mono ?_
              rintro e w' ⟨rfl, rfl⟩
              clear H3
              go_wp2_with fail
              refine H4.mono ?_
              rintro e w' ⟨rfl, rfl⟩
              clear H4
              go_wp2_with fail
              refine H5.mono ?_
              rintro e w4 ⟨rfl, B4⟩
              have C4 := HC.out.below B4
              have L4 := HL1.out.trans (B4.mono HL1.out.size)
              have H6 := llag C4
              have L4 := Lib.hid L4
              clear H5 HC HL1 B4 C4
              go_wp2_with fail
              refine H6.mono ?_
              rintro e w5 ⟨rfl, B5⟩
              have L5 := Lib.hid (L4.out.trans (B5.mono L4.out.size))
              clear H6 L4 B5
              go_wp2
              go_ret
              exact ⟨rfl, L5.out⟩
theorem walk_LinkCopies {w : World} (a : Int) (wa : (Lit.int .u64 a).wf = true) (b : Int) (wb : (Lit.int .i64 b).wf = true) (ao : Option Addr) (len cap : Nat) (l : List LA) (hl : Lst encL 3 w ao len l ∧ len ≤ maxLen ∧ ∀ m ∈ l, m.ok) (d : Int) (wd : (Lit.int .i64 d).wf = true) :
    Calls Try.prog 6 #[.int .u64 a, .int .i64 b, .slice ao len cap, .int .i64 d] w fun e w' => e = .returned (.bool true) ∧ Below w.heap.size w w' := by
  have b0 := Go.bounds_u64 wa
  have b1 := Go.bounds_i64 wb
  have b3 := Go.bounds_i64 wd
  obtain ⟨a, rfl⟩ := Int.eq_ofNat_of_zero_le (show 0 ≤ a by omega)
  exact full_LinkCopies a b ao len cap l d w (by omega) (by omega) (by omega) hl.1 hl.2.2 hl.2.1 (by omega) (by omega)
end Go.Proofs.Ytlmajpckgjnbdaa
