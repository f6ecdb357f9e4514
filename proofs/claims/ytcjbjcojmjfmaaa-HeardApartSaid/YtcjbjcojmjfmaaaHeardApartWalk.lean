/- The walk of 'HeardApart'. (Written by wip/gen_heardapart.py.) -/
import Derived.Test.YtcjbjcojmjfmaaaApart9
set_option linter.unusedVariables false
set_option linter.unusedSimpArgs false
namespace Go.Proofs.Ytcjbjcojmjfmaaa
open Go.RowKit Go.Sort

/-- Amid the law: both ears, what they hold, the act's block. -/
structure Duo (w wr : World) (g f k q : Nat) (a : HA) (E F : Er) : Prop where
  e : EarAt wr g E
  f : EarAt wr f F
  act : HaB wr k a
  ap : ApI q E F
  below : Below w.heap.size w wr
theorem Duo.later {w wr w' : World} {g f k q : Nat} {a : HA} {E F : Er} (h : Duo w wr g f k q a E F) (hb : Below wr.heap.size wr w') : Duo w w' g f k q a E F :=
  ⟨h.e.below hb, h.f.below hb, h.act.below hb, h.ap, h.below.trans (hb.mono h.below.size)⟩
/-- What of the ears was told. -/
structure Half (w wr : World) (g f k : Nat) (a : HA) (E F : Er) : Prop where
  e : EarAt wr g E
  f : EarAt wr f F
  act : HaB wr k a
  below : Below w.heap.size w wr
theorem Duo.half {w wr : World} {g f k q : Nat} {a : HA} {E F : Er} (h : Duo w wr g f k q a E F) : Half w wr g f k a E F := ⟨h.e, h.f, h.act, h.below⟩
theorem Half.duo {w wr : World} {g f k q : Nat} {a : HA} {E F : Er} (h : Half w wr g f k a E F) (ap : ApI q E F) : Duo w wr g f k q a E F := ⟨h.e, h.f, h.act, ap, h.below⟩
theorem Half.later {w wr w' : World} {g f k : Nat} {a : HA} {E F : Er} (h : Half w wr g f k a E F) (hb : Below wr.heap.size wr w') : Half w w' g f k a E F :=
  ⟨h.e.below hb, h.f.below hb, h.act.below hb, h.below.trans (hb.mono h.below.size)⟩
theorem Half.first {w wr w' : World} {g f k : Nat} {a : HA} {E F E' : Er} (h : Half w wr g f k a E F) (m : Eared wr w' g E') (hgf : g ≠ f) (hgk : g ≠ k) (hg : w.heap.size ≤ g) : Half w w' g f k a E' F :=
  ⟨m.at_, h.f.grown m.gr (by intro e; cases e; exact hgf rfl), h.act.grown m.gr (by intro e; cases e; exact hgk rfl), Eared.later h.below m hg⟩
theorem Half.second {w wr w' : World} {g f k : Nat} {a : HA} {E F F' : Er} (h : Half w wr g f k a E F) (m : Eared wr w' f F') (hgf : g ≠ f) (hfk : f ≠ k) (hf : w.heap.size ≤ f) : Half w w' g f k a E F' :=
  ⟨h.e.grown m.gr (by intro e; cases e; exact hgf rfl), m.at_, h.act.grown m.gr (by intro e; cases e; exact hfk rfl), Eared.later h.below m hf⟩

set_option maxHeartbeats 40000000 in
set_option maxRecDepth 100000 in
theorem full_HeardApart (me n Q : Int) (m0 : -9223372036854775808 ≤ me) (m1 : me ≤ 9223372036854775807) (n0 : -9223372036854775808 ≤ n) (n1 : n ≤ 9223372036854775807) (q0 : -9223372036854775808 ≤ Q) (q1 : Q ≤ 9223372036854775807)
    (ao : Option Addr) (len cap : Nat) (l : List HA) (w : World) (hl : Lst encH 8 w ao len l) (hle : len ≤ maxLen) (hok : ∀ m ∈ l, m.ok) :
    Calls Try.prog 5 #[.int .i64 me, .int .i64 n, .slice ao len cap, .int .i64 Q] w fun e w' => e = .returned (.bool true) ∧ Below w.heap.size w w' := by
  have hlen := hl.size
  have HL := Lib.hid hl
  have HOK := Lib.hid hok
  clear hl hok
  unfold maxLen at hle
  by_cases h1 : (100 : Int) < (len : Int)
  · clear q0 q1
    go_enter Try.func5, Try.ntmps5
    go_wp2_with (go_at_call 7; refine (eawake _).mono ?_; rintro e w1 ⟨rfl, L1⟩)
    go_ret
    exact ⟨rfl, L1⟩
  by_cases h2 : Q < 0
  · clear n0
    go_enter Try.func5, Try.ntmps5
    go_wp2_with (go_at_call 7; refine (eawake _).mono ?_; rintro e w1 ⟨rfl, L1⟩)
    go_ret
    exact ⟨rfl, L1⟩
  by_cases h3 : 63 < Q
  · clear n0
    go_enter Try.func5, Try.ntmps5
    go_wp2_with (go_at_call 7; refine (eawake _).mono ?_; rintro e w1 ⟨rfl, L1⟩)
    go_ret
    exact ⟨rfl, L1⟩
  obtain ⟨q, rfl⟩ := Int.eq_ofNat_of_zero_le (show 0 ≤ Q by omega)
  have hq : q < 64 := by omega
  have d1 : decide ((100 : Int) < (len : Int)) = false := by simp <;> omega
  have d2 : decide ((q : Int) < 0) = false := by simp <;> omega
  have d3 : decide (63 < (q : Int)) = false := by simp <;> omega
  go_enter Try.func5, Try.ntmps5
  go_wp2_with fail
  refine (eawake _).mono ?_
  rintro e w1 ⟨rfl, L1⟩
  have HNW := enew me n 3 w1 m0 m1 n0 n1 (by decide) (by decide)
  go_wp2_with fail
  refine HNW.mono ?_
  rintro e w2 ⟨rfl, A2, L2'⟩
  have L2 := L1.trans (L2'.mono L1.size)
  have HNX := enew me n 3 w2 m0 m1 n0 n1 (by decide) (by decide)
  have hg0 : w1.heap.size + 1 < w2.heap.size := A2.lt
  have hs1 := L1.size
  clear HNW
  go_wp2_with fail
  refine HNX.mono ?_
  rintro e w3 ⟨rfl, F3, L3'⟩
  have E3 := A2.below L3'
  have L3 := L2.trans (L3'.mono L2.size)
  have hgw : w.heap.size ≤ w1.heap.size + 1 := by omega
  have hfw : w.heap.size ≤ w2.heap.size + 1 := by omega
  have hgf : w1.heap.size + 1 ≠ w2.heap.size + 1 := by omega
  have I3 := ApI.new q me n 3
  have hc3 : (earN me n 3).clock ≤ 0 := Int.le_refl _
  have hme3 : (earN me n 3).me = me := rfl
  clear HNX L1 L2 L2' L3' A2 hg0 hs1
  generalize earN me n 3 = E0 at *
  generalize w1.heap.size + 1 = g at *
  generalize w2.heap.size + 1 = f at *
  go_wp2
  go_loopw [11] (fun si wr => ∃ (i : Nat) (E F : Er), i ≤ len ∧ si = .int .i64 i ∧ EarAt wr g E ∧ EarAt wr f F ∧ ApI q E F ∧ E.clock ≤ i ∧ F.me = me ∧ Below w.heap.size w wr) (fun si _ => len - (intOf si).toNat)
  case atStart => exact ⟨0, E0, E0, Nat.zero_le _, rfl, E3, F3, I3, by simpa using hc3, hme3, L3⟩
  case round =>
    obtain ⟨i, E, F, hi, rfl, A, B, I, hc, hme, L⟩ := hrel
    clear E3 F3 I3 hc3 hme3 L3
    by_cases hlt : i < len
    · have hil : i < l.length := by rw [hlen]; exact hlt
      obtain ⟨b, o, rfl, R⟩ := (HL.out.below L).src (by omega)
      have hx := List.getElem?_eq_getElem hil
      have ha := HOK.out _ (List.getElem_mem hil)
      generalize l[i] = a at hx ha
      obtain ⟨c0, c1, c2, c3, c4, c5, c6, c7⟩ := hlst_at R i a hx
      clear R hx hil
      go_upto_region 10 with fail
      have B4 := ((Grw.refl wr).alloc (.cells #[.int .i64 a.kind, .int .i64 a.p, .int .u64 (a.b.ce : Int), .int .i64 a.b.cr, .int .u64 (a.b.pe : Int), .int .i64 a.b.pr, .int .u64 (a.b.ep : Int), .int .u64 (a.s : Int)] 35)).below
      have D4 : Half w (wr.alloc (.cells #[.int .i64 a.kind, .int .i64 a.p, .int .u64 (a.b.ce : Int), .int .i64 a.b.cr, .int .u64 (a.b.pe : Int), .int .i64 a.b.pr, .int .u64 (a.b.ep : Int), .int .u64 (a.s : Int)] 35)) g f wr.heap.size a E F := ⟨A.below B4, B.below B4, HaB.new wr a, L.trans (B4.mono L.size)⟩
      have hgk : g ≠ wr.heap.size := by have := A.lt; omega
      have hfk : f ≠ wr.heap.size := by have := B.lt; omega
      clear A B L B4 c0 c1 c2 c3 c4 c5 c6 c7
      generalize wr.alloc (.cells #[.int .i64 a.kind, .int .i64 a.p, .int .u64 (a.b.ce : Int), .int .i64 a.b.cr, .int .u64 (a.b.pe : Int), .int .i64 a.b.pr, .int .u64 (a.b.ep : Int), .int .u64 (a.s : Int)] 35) = w4 at *
      generalize wr.heap.size = k at *
      have hp0 := ha.p0
      have hp1 := ha.p1
      have c0 := D4.act.own.at_ 0 _ rfl
      have c1 := D4.act.own.at_ 1 _ rfl
      have c2 := D4.act.own.at_ 2 _ rfl
      have c3 := D4.act.own.at_ 3 _ rfl
      have c4 := D4.act.own.at_ 4 _ rfl
      have c5 := D4.act.own.at_ 5 _ rfl
      have c6 := D4.act.own.at_ 6 _ rfl
      have c7 := D4.act.own.at_ 7 _ rfl
      by_cases hk0 : a.kind = 0
      · have e0 : (a.kind == 0) = true := by simp [hk0]
        have H1 := etick D4.e (by omega)
        go_wp2_with fail
        refine H1.mono ?_
        rintro e w5 ⟨rfl, M5⟩
        have D5 := D4.first M5 hgf hgk hgw
        clear H1 M5 D4
        have H2 := etick D5.f (by rw [← I.clock]; omega)
        go_wp2_with fail
        refine H2.mono ?_
        rintro e w6 ⟨rfl, M6⟩
        have D6 := D5.second M6 hgf hfk hfw
        clear H2 M6 D5
        have D5 := D6.duo I.tick
        have HC := Lib.hid (show (tickE E).clock ≤ ((i + 1 : Nat) : Int) by show E.clock + 1 ≤ _; omega)
        have HME := Lib.hid (show (tickE F).me = me from hme)
        have hFme := HME.out
        clear D6 c0 c1 c2 c3 c4 c5 c6 c7 ha hp0 hp1 I
        obtain ⟨E5, hE5⟩ : ∃ E5, E5 = tickE E := ⟨_, rfl⟩
        obtain ⟨F5, hF5⟩ : ∃ F5, F5 = tickE F := ⟨_, rfl⟩
        rw [← hE5] at D5 HC
        rw [← hF5] at D5 HME hFme
        clear hE5 hF5
        have HOE := eof D5.e (q : Int) (by omega) (by omega)
        have hof := D5.ap.of
        rw [hof.1, hof.2] at HOE
        have HB : Hid (∀ w', EarAt w' f F5 → Calls Try.prog 14 #[.pointer (some ⟨f, 0, none⟩), .int .i64 (q : Int)] w' fun e w'' => e = .returned (.tuple #[.agg #[.int .u64 ((ofB F5 (q : Int)).ce : Int), .int .i64 (ofB F5 (q : Int)).cr, .int .u64 ((ofB F5 (q : Int)).pe : Int), .int .i64 (ofB F5 (q : Int)).pr, .int .u64 ((ofB F5 (q : Int)).ep : Int)], .bool (ofO F5 (q : Int))]) ∧ Below w'.heap.size w' w'') := Lib.hid (fun w' h => eof h (q : Int) (by omega) (by omega))
        clear hof
        generalize ofB F5 (q : Int) = bt at *
        generalize ofO F5 (q : Int) = o at *
        have hq5 := neq_beat bt bt
        rw [show sameB bt bt = true from (sameB_iff bt bt).2 rfl] at hq5
        go_upto_region 26 with (first | (go_at_call 14; refine HOE.mono ?_; rintro e w7 ⟨rfl, B7⟩) | (refine store_bt rfl (.tmp 13) (.tmp 104) rfl w7.heap.size bt rfl rfl (BtB.zero w7) ?_))
        (try simp only [Act.put])
        obtain ⟨RB, LB⟩ := btb_put w7 bt
        have D8 := (D5.later B7).later LB
        clear LB B7 HOE D5
        generalize ((w7.alloc (.cells #[.int .u64 0, .int .i64 0, .int .u64 0, .int .i64 0, .int .u64 0] 33)).setRow w7.heap.size #[.int .u64 (bt.ce : Int), .int .i64 bt.cr, .int .u64 (bt.pe : Int), .int .i64 bt.pr, .int .u64 (bt.ep : Int)]) = w8 at *
        generalize w7.heap.size = bx at *
        have HOF := HB.out w8 D8.f
        clear HB
        go_upto_region 27 with (first | (go_at_call 14; refine HOF.mono ?_; rintro e w9 ⟨rfl, B9⟩) | (refine store_bt rfl (.tmp 15) (.tmp 110) rfl w9.heap.size bt rfl rfl (BtB.zero w9) ?_))
        (try simp only [Act.put])
        obtain ⟨RC, LC⟩ := btb_put w9 bt
        have D10 := (D8.later B9).later LC
        have RB := (RB.below B9).below LC
        clear LC B9 HOF D8
        generalize ((w9.alloc (.cells #[.int .u64 0, .int .i64 0, .int .u64 0, .int .i64 0, .int .u64 0] 33)).setRow w9.heap.size #[.int .u64 (bt.ce : Int), .int .i64 bt.cr, .int .u64 (bt.pe : Int), .int .i64 bt.pr, .int .u64 (bt.ep : Int)]) = w10 at *
        generalize w9.heap.size = by_ at *
        have x0 := RB.d0
        have x1 := RB.d1
        have x2 := RB.d2
        have x3 := RB.d3
        have x4 := RB.d4
        have y0 := RC.d0
        have y1 := RC.d1
        have y2 := RC.d2
        have y3 := RC.d3
        have y4 := RC.d4
        have HR1 := ereach D10.e
        have hr1 := D10.ap.reach hq
        have hrl := reachE_lt E5
        have hrl2 := reachE_lt F5
        have hin := D10.ap.in_ hq
        rw [hFme] at hin
        have HRF : Hid (∀ w', EarAt w' f F5 → Calls Try.prog 16 #[.pointer (some ⟨f, 0, none⟩)] w' fun e w'' => e = .returned (.int .u64 (reachE F5 : Nat)) ∧ Below w'.heap.size w' w'') := Lib.hid (fun w' h => ereach h)
        have HF : Hid (∀ w', Duo w w' g f k q a E5 F5 → EarAt w' g E5 ∧ EarAt w' f F5 ∧ ApI q E5 F5 ∧ Below w.heap.size w w') := Lib.hid (fun w' h => ⟨h.e, h.f, h.ap, h.below⟩)
        generalize reachE E5 = r1 at *
        generalize reachE F5 = r2 at *
        have HM2 : Hid (∀ w', Calls Try.prog 22 #[.int .u64 (r2 : Int), .int .i64 (q : Int)] w' fun e w'' => e = .returned (.bool (mem r2 (q : Int))) ∧ w' = w'') := Lib.hid (fun w' => has_any r2 (q : Int) w' hrl2 (by omega) (by omega))
        have HM1 : Hid (∀ w', Calls Try.prog 22 #[.int .u64 (r1 : Int), .int .i64 (q : Int)] w' fun e w'' => e = .returned (.bool (mem r2 (q : Int))) ∧ w' = w'') := Lib.hid (fun w' => by have := has_any r1 (q : Int) w' hrl (by omega) (by omega); rw [hr1] at this; exact this)
        have HINN : Hid (∀ w', Calls Try.prog 25 #[.int .u64 (r2 : Int), .int .u64 (ofl [me, (q : Int)] : Nat)] w' fun e w'' => e = .returned (.bool true) ∧ w' = w'') := Lib.hid (fun w' => by have := in_any r2 (ofl [me, (q : Int)]) w' hrl2 (ofl_lt _); rw [hin] at this; exact this)
        generalize mem r2 (q : Int) = mq at *
        obtain ⟨lq, hlq⟩ : ∃ lq, ofl [me, (q : Int)] = lq := ⟨_, rfl⟩
        rw [hlq] at HINN
        have HLQ := Lib.hid hlq
        clear hlq
        clear RB RC hr1 hin hrl hrl2
        have hoo : (o != o) = false := by cases o <;> rfl
        have hmm : (mq != mq) = false := by cases mq <;> rfl
        go_wp2_with fail
        refine HR1.mono ?_
        rintro e w11 ⟨rfl, B11⟩
        have D11 := D10.later B11
        have HR2 := HRF.out w11 D11.f
        have HM := HM1.out w11
        go_wp2_with fail
        refine HM.mono ?_
        rintro e w' ⟨rfl, rfl⟩
        clear HM B11
        go_wp2_with fail
        refine HR2.mono ?_
        rintro e w12 ⟨rfl, B12⟩
        have D12 := D11.later B12
        have HR3 := HRF.out w12 D12.f
        have HM := HM2.out w12
        clear B12 HR2 D11
        go_wp2_with fail
        refine HM.mono ?_
        rintro e w' ⟨rfl, rfl⟩
        clear HM
        go_wp2_with fail
        refine HR3.mono ?_
        rintro e w13 ⟨rfl, B13⟩
        have D13 := D12.later B13
        have B14 := ((Grw.refl w13).alloc (.cells #[.int .i64 me, .int .i64 (q : Int)] 3)).below
        have D14 := Lib.hid (HF.out _ (D13.later B14))
        have HO : Calls Try.prog 23 #[.slice (some ⟨w13.heap.size, 0, none⟩) 2 2] (w13.alloc (.cells #[.int .i64 me, .int .i64 (q : Int)] 3)) fun e w'' => e = .returned (.int .u64 (lq : Int)) ∧ (w13.alloc (.cells #[.int .i64 me, .int .i64 (q : Int)] 3)) = w'' := by rw [← HLQ.out]; exact of_any (some ⟨w13.heap.size, 0, none⟩) 2 2 [me, (q : Int)] _ (InI.two w13 me (q : Int) m0 m1 (by omega) (by omega)) (by decide)
        clear B13 B14 HR3 D12 D13
        go_wp2_with fail
        refine HO.mono ?_
        rintro e w' ⟨rfl, rfl⟩
        have HI2 := HINN.out (w13.alloc (.cells #[.int .i64 me, .int .i64 (q : Int)] 3))
        clear HO
        go_wp2_with fail
        refine HI2.mono ?_
        rintro e w' ⟨rfl, rfl⟩
        clear HI2 HR1 HRF HM1 HM2 HINN
        go_wp2
        go_roundw
        case rel => exact ⟨i + 1, E5, F5, by omega, by go_num, D14.out.1, D14.out.2.1, D14.out.2.2.1, HC.out, HME.out, D14.out.2.2.2⟩
        case measure => simp [intOf]; omega
      by_cases hk1 : a.kind = 1
      · by_cases hpq : a.p = (q : Int)
        · have ep : (a.p == (q : Int)) = true := by simp [hpq]
          have HPQ := Lib.hid hpq
          clear hpq
          have e0 : (a.kind == 0) = false := by simp [hk0]
          have e1 : (a.kind == 1) = true := by simp [hk1]
          have H1 := ehear D4.e a.p ha.p0 ha.p1
          go_wp2_with fail
          refine H1.mono ?_
          rintro e w5 ⟨rfl, M5⟩
          have D5 := D4.first M5 hgf hgk hgw
          clear H1 M5 D4
          clear c0 c1 c2 c3 c4 c5 c6 c7
          have c0 := D5.act.own.at_ 0 _ rfl
          have c1 := D5.act.own.at_ 1 _ rfl
          have c2 := D5.act.own.at_ 2 _ rfl
          have c3 := D5.act.own.at_ 3 _ rfl
          have c4 := D5.act.own.at_ 4 _ rfl
          have c5 := D5.act.own.at_ 5 _ rfl
          have c6 := D5.act.own.at_ 6 _ rfl
          have c7 := D5.act.own.at_ 7 _ rfl
          have H2 := ehear D5.f a.p ha.p0 ha.p1
          go_wp2_with fail
          refine H2.mono ?_
          rintro e w6 ⟨rfl, M6⟩
          have D6 := D5.second M6 hgf hfk hfw
          clear H2 M6 D5
          have D5 := D6.duo (by rw [HPQ.out]; exact I.hear2)
          have HC := Lib.hid (show (hearE E a.p).clock ≤ ((i + 1 : Nat) : Int) by rw [clock_hear]; omega)
          have HME := Lib.hid (show (hearE F a.p).me = me from by unfold hearE; split <;> exact hme)
          have hFme := HME.out
          clear D6 c0 c1 c2 c3 c4 c5 c6 c7 ha hp0 hp1 I
          obtain ⟨E5, hE5⟩ : ∃ E5, E5 = hearE E a.p := ⟨_, rfl⟩
          obtain ⟨F5, hF5⟩ : ∃ F5, F5 = hearE F a.p := ⟨_, rfl⟩
          rw [← hE5] at D5 HC
          rw [← hF5] at D5 HME hFme
          clear hE5 hF5
          have HOE := eof D5.e (q : Int) (by omega) (by omega)
          have hof := D5.ap.of
          rw [hof.1, hof.2] at HOE
          have HB : Hid (∀ w', EarAt w' f F5 → Calls Try.prog 14 #[.pointer (some ⟨f, 0, none⟩), .int .i64 (q : Int)] w' fun e w'' => e = .returned (.tuple #[.agg #[.int .u64 ((ofB F5 (q : Int)).ce : Int), .int .i64 (ofB F5 (q : Int)).cr, .int .u64 ((ofB F5 (q : Int)).pe : Int), .int .i64 (ofB F5 (q : Int)).pr, .int .u64 ((ofB F5 (q : Int)).ep : Int)], .bool (ofO F5 (q : Int))]) ∧ Below w'.heap.size w' w'') := Lib.hid (fun w' h => eof h (q : Int) (by omega) (by omega))
          clear hof
          generalize ofB F5 (q : Int) = bt at *
          generalize ofO F5 (q : Int) = o at *
          have hq5 := neq_beat bt bt
          rw [show sameB bt bt = true from (sameB_iff bt bt).2 rfl] at hq5
          go_upto_region 26 with (first | (go_at_call 14; refine HOE.mono ?_; rintro e w7 ⟨rfl, B7⟩) | (refine store_bt rfl (.tmp 13) (.tmp 104) rfl w7.heap.size bt rfl rfl (BtB.zero w7) ?_))
          (try simp only [Act.put])
          obtain ⟨RB, LB⟩ := btb_put w7 bt
          have D8 := (D5.later B7).later LB
          clear LB B7 HOE D5
          generalize ((w7.alloc (.cells #[.int .u64 0, .int .i64 0, .int .u64 0, .int .i64 0, .int .u64 0] 33)).setRow w7.heap.size #[.int .u64 (bt.ce : Int), .int .i64 bt.cr, .int .u64 (bt.pe : Int), .int .i64 bt.pr, .int .u64 (bt.ep : Int)]) = w8 at *
          generalize w7.heap.size = bx at *
          have HOF := HB.out w8 D8.f
          clear HB
          go_upto_region 27 with (first | (go_at_call 14; refine HOF.mono ?_; rintro e w9 ⟨rfl, B9⟩) | (refine store_bt rfl (.tmp 15) (.tmp 110) rfl w9.heap.size bt rfl rfl (BtB.zero w9) ?_))
          (try simp only [Act.put])
          obtain ⟨RC, LC⟩ := btb_put w9 bt
          have D10 := (D8.later B9).later LC
          have RB := (RB.below B9).below LC
          clear LC B9 HOF D8
          generalize ((w9.alloc (.cells #[.int .u64 0, .int .i64 0, .int .u64 0, .int .i64 0, .int .u64 0] 33)).setRow w9.heap.size #[.int .u64 (bt.ce : Int), .int .i64 bt.cr, .int .u64 (bt.pe : Int), .int .i64 bt.pr, .int .u64 (bt.ep : Int)]) = w10 at *
          generalize w9.heap.size = by_ at *
          have x0 := RB.d0
          have x1 := RB.d1
          have x2 := RB.d2
          have x3 := RB.d3
          have x4 := RB.d4
          have y0 := RC.d0
          have y1 := RC.d1
          have y2 := RC.d2
          have y3 := RC.d3
          have y4 := RC.d4
          have HR1 := ereach D10.e
          have hr1 := D10.ap.reach hq
          have hrl := reachE_lt E5
          have hrl2 := reachE_lt F5
          have hin := D10.ap.in_ hq
          rw [hFme] at hin
          have HRF : Hid (∀ w', EarAt w' f F5 → Calls Try.prog 16 #[.pointer (some ⟨f, 0, none⟩)] w' fun e w'' => e = .returned (.int .u64 (reachE F5 : Nat)) ∧ Below w'.heap.size w' w'') := Lib.hid (fun w' h => ereach h)
          have HF : Hid (∀ w', Duo w w' g f k q a E5 F5 → EarAt w' g E5 ∧ EarAt w' f F5 ∧ ApI q E5 F5 ∧ Below w.heap.size w w') := Lib.hid (fun w' h => ⟨h.e, h.f, h.ap, h.below⟩)
          generalize reachE E5 = r1 at *
          generalize reachE F5 = r2 at *
          have HM2 : Hid (∀ w', Calls Try.prog 22 #[.int .u64 (r2 : Int), .int .i64 (q : Int)] w' fun e w'' => e = .returned (.bool (mem r2 (q : Int))) ∧ w' = w'') := Lib.hid (fun w' => has_any r2 (q : Int) w' hrl2 (by omega) (by omega))
          have HM1 : Hid (∀ w', Calls Try.prog 22 #[.int .u64 (r1 : Int), .int .i64 (q : Int)] w' fun e w'' => e = .returned (.bool (mem r2 (q : Int))) ∧ w' = w'') := Lib.hid (fun w' => by have := has_any r1 (q : Int) w' hrl (by omega) (by omega); rw [hr1] at this; exact this)
          have HINN : Hid (∀ w', Calls Try.prog 25 #[.int .u64 (r2 : Int), .int .u64 (ofl [me, (q : Int)] : Nat)] w' fun e w'' => e = .returned (.bool true) ∧ w' = w'') := Lib.hid (fun w' => by have := in_any r2 (ofl [me, (q : Int)]) w' hrl2 (ofl_lt _); rw [hin] at this; exact this)
          generalize mem r2 (q : Int) = mq at *
          obtain ⟨lq, hlq⟩ : ∃ lq, ofl [me, (q : Int)] = lq := ⟨_, rfl⟩
          rw [hlq] at HINN
          have HLQ := Lib.hid hlq
          clear hlq
          clear RB RC hr1 hin hrl hrl2
          have hoo : (o != o) = false := by cases o <;> rfl
          have hmm : (mq != mq) = false := by cases mq <;> rfl
          go_wp2_with fail
          refine HR1.mono ?_
          rintro e w11 ⟨rfl, B11⟩
          have D11 := D10.later B11
          have HR2 := HRF.out w11 D11.f
          have HM := HM1.out w11
          go_wp2_with fail
          refine HM.mono ?_
          rintro e w' ⟨rfl, rfl⟩
          clear HM B11
          go_wp2_with fail
          refine HR2.mono ?_
          rintro e w12 ⟨rfl, B12⟩
          have D12 := D11.later B12
          have HR3 := HRF.out w12 D12.f
          have HM := HM2.out w12
          clear B12 HR2 D11
          go_wp2_with fail
          refine HM.mono ?_
          rintro e w' ⟨rfl, rfl⟩
          clear HM
          go_wp2_with fail
          refine HR3.mono ?_
          rintro e w13 ⟨rfl, B13⟩
          have D13 := D12.later B13
          have B14 := ((Grw.refl w13).alloc (.cells #[.int .i64 me, .int .i64 (q : Int)] 3)).below
          have D14 := Lib.hid (HF.out _ (D13.later B14))
          have HO : Calls Try.prog 23 #[.slice (some ⟨w13.heap.size, 0, none⟩) 2 2] (w13.alloc (.cells #[.int .i64 me, .int .i64 (q : Int)] 3)) fun e w'' => e = .returned (.int .u64 (lq : Int)) ∧ (w13.alloc (.cells #[.int .i64 me, .int .i64 (q : Int)] 3)) = w'' := by rw [← HLQ.out]; exact of_any (some ⟨w13.heap.size, 0, none⟩) 2 2 [me, (q : Int)] _ (InI.two w13 me (q : Int) m0 m1 (by omega) (by omega)) (by decide)
          clear B13 B14 HR3 D12 D13
          go_wp2_with fail
          refine HO.mono ?_
          rintro e w' ⟨rfl, rfl⟩
          have HI2 := HINN.out (w13.alloc (.cells #[.int .i64 me, .int .i64 (q : Int)] 3))
          clear HO
          go_wp2_with fail
          refine HI2.mono ?_
          rintro e w' ⟨rfl, rfl⟩
          clear HI2 HR1 HRF HM1 HM2 HINN
          go_wp2
          go_roundw
          case rel => exact ⟨i + 1, E5, F5, by omega, by go_num, D14.out.1, D14.out.2.1, D14.out.2.2.1, HC.out, HME.out, D14.out.2.2.2⟩
          case measure => simp [intOf]; omega
        · have ep : (a.p == (q : Int)) = false := by simp [hpq]
          have HPQ := Lib.hid hpq
          clear hpq
          have e0 : (a.kind == 0) = false := by simp [hk0]
          have e1 : (a.kind == 1) = true := by simp [hk1]
          have H1 := ehear D4.e a.p ha.p0 ha.p1
          go_wp2_with fail
          refine H1.mono ?_
          rintro e w5 ⟨rfl, M5⟩
          have D5 := D4.first M5 hgf hgk hgw
          clear H1 M5 D4
          clear c0 c1 c2 c3 c4 c5 c6 c7
          have c0 := D5.act.own.at_ 0 _ rfl
          have c1 := D5.act.own.at_ 1 _ rfl
          have c2 := D5.act.own.at_ 2 _ rfl
          have c3 := D5.act.own.at_ 3 _ rfl
          have c4 := D5.act.own.at_ 4 _ rfl
          have c5 := D5.act.own.at_ 5 _ rfl
          have c6 := D5.act.own.at_ 6 _ rfl
          have c7 := D5.act.own.at_ 7 _ rfl
          go_upto_region 25 with fail
          have D6 := D5.duo (I.hear1 a.p HPQ.out)
          have HC := Lib.hid (show (hearE E a.p).clock ≤ ((i + 1 : Nat) : Int) by rw [clock_hear]; omega)
          have HME := Lib.hid (show (F).me = me from hme)
          have hFme := HME.out
          clear D5 c0 c1 c2 c3 c4 c5 c6 c7 ha hp0 hp1 I
          obtain ⟨E5, hE5⟩ : ∃ E5, E5 = hearE E a.p := ⟨_, rfl⟩
          obtain ⟨F5, hF5⟩ : ∃ F5, F5 = F := ⟨_, rfl⟩
          rw [← hE5] at D6 HC
          rw [← hF5] at D6 HME hFme
          have D5 := D6
          clear D6
          clear hE5 hF5
          have HOE := eof D5.e (q : Int) (by omega) (by omega)
          have hof := D5.ap.of
          rw [hof.1, hof.2] at HOE
          have HB : Hid (∀ w', EarAt w' f F5 → Calls Try.prog 14 #[.pointer (some ⟨f, 0, none⟩), .int .i64 (q : Int)] w' fun e w'' => e = .returned (.tuple #[.agg #[.int .u64 ((ofB F5 (q : Int)).ce : Int), .int .i64 (ofB F5 (q : Int)).cr, .int .u64 ((ofB F5 (q : Int)).pe : Int), .int .i64 (ofB F5 (q : Int)).pr, .int .u64 ((ofB F5 (q : Int)).ep : Int)], .bool (ofO F5 (q : Int))]) ∧ Below w'.heap.size w' w'') := Lib.hid (fun w' h => eof h (q : Int) (by omega) (by omega))
          clear hof
          generalize ofB F5 (q : Int) = bt at *
          generalize ofO F5 (q : Int) = o at *
          have hq5 := neq_beat bt bt
          rw [show sameB bt bt = true from (sameB_iff bt bt).2 rfl] at hq5
          go_upto_region 26 with (first | (go_at_call 14; refine HOE.mono ?_; rintro e w7 ⟨rfl, B7⟩) | (refine store_bt rfl (.tmp 13) (.tmp 104) rfl w7.heap.size bt rfl rfl (BtB.zero w7) ?_))
          (try simp only [Act.put])
          obtain ⟨RB, LB⟩ := btb_put w7 bt
          have D8 := (D5.later B7).later LB
          clear LB B7 HOE D5
          generalize ((w7.alloc (.cells #[.int .u64 0, .int .i64 0, .int .u64 0, .int .i64 0, .int .u64 0] 33)).setRow w7.heap.size #[.int .u64 (bt.ce : Int), .int .i64 bt.cr, .int .u64 (bt.pe : Int), .int .i64 bt.pr, .int .u64 (bt.ep : Int)]) = w8 at *
          generalize w7.heap.size = bx at *
          have HOF := HB.out w8 D8.f
          clear HB
          go_upto_region 27 with (first | (go_at_call 14; refine HOF.mono ?_; rintro e w9 ⟨rfl, B9⟩) | (refine store_bt rfl (.tmp 15) (.tmp 110) rfl w9.heap.size bt rfl rfl (BtB.zero w9) ?_))
          (try simp only [Act.put])
          obtain ⟨RC, LC⟩ := btb_put w9 bt
          have D10 := (D8.later B9).later LC
          have RB := (RB.below B9).below LC
          clear LC B9 HOF D8
          generalize ((w9.alloc (.cells #[.int .u64 0, .int .i64 0, .int .u64 0, .int .i64 0, .int .u64 0] 33)).setRow w9.heap.size #[.int .u64 (bt.ce : Int), .int .i64 bt.cr, .int .u64 (bt.pe : Int), .int .i64 bt.pr, .int .u64 (bt.ep : Int)]) = w10 at *
          generalize w9.heap.size = by_ at *
          have x0 := RB.d0
          have x1 := RB.d1
          have x2 := RB.d2
          have x3 := RB.d3
          have x4 := RB.d4
          have y0 := RC.d0
          have y1 := RC.d1
          have y2 := RC.d2
          have y3 := RC.d3
          have y4 := RC.d4
          have HR1 := ereach D10.e
          have hr1 := D10.ap.reach hq
          have hrl := reachE_lt E5
          have hrl2 := reachE_lt F5
          have hin := D10.ap.in_ hq
          rw [hFme] at hin
          have HRF : Hid (∀ w', EarAt w' f F5 → Calls Try.prog 16 #[.pointer (some ⟨f, 0, none⟩)] w' fun e w'' => e = .returned (.int .u64 (reachE F5 : Nat)) ∧ Below w'.heap.size w' w'') := Lib.hid (fun w' h => ereach h)
          have HF : Hid (∀ w', Duo w w' g f k q a E5 F5 → EarAt w' g E5 ∧ EarAt w' f F5 ∧ ApI q E5 F5 ∧ Below w.heap.size w w') := Lib.hid (fun w' h => ⟨h.e, h.f, h.ap, h.below⟩)
          generalize reachE E5 = r1 at *
          generalize reachE F5 = r2 at *
          have HM2 : Hid (∀ w', Calls Try.prog 22 #[.int .u64 (r2 : Int), .int .i64 (q : Int)] w' fun e w'' => e = .returned (.bool (mem r2 (q : Int))) ∧ w' = w'') := Lib.hid (fun w' => has_any r2 (q : Int) w' hrl2 (by omega) (by omega))
          have HM1 : Hid (∀ w', Calls Try.prog 22 #[.int .u64 (r1 : Int), .int .i64 (q : Int)] w' fun e w'' => e = .returned (.bool (mem r2 (q : Int))) ∧ w' = w'') := Lib.hid (fun w' => by have := has_any r1 (q : Int) w' hrl (by omega) (by omega); rw [hr1] at this; exact this)
          have HINN : Hid (∀ w', Calls Try.prog 25 #[.int .u64 (r2 : Int), .int .u64 (ofl [me, (q : Int)] : Nat)] w' fun e w'' => e = .returned (.bool true) ∧ w' = w'') := Lib.hid (fun w' => by have := in_any r2 (ofl [me, (q : Int)]) w' hrl2 (ofl_lt _); rw [hin] at this; exact this)
          generalize mem r2 (q : Int) = mq at *
          obtain ⟨lq, hlq⟩ : ∃ lq, ofl [me, (q : Int)] = lq := ⟨_, rfl⟩
          rw [hlq] at HINN
          have HLQ := Lib.hid hlq
          clear hlq
          clear RB RC hr1 hin hrl hrl2
          have hoo : (o != o) = false := by cases o <;> rfl
          have hmm : (mq != mq) = false := by cases mq <;> rfl
          go_wp2_with fail
          refine HR1.mono ?_
          rintro e w11 ⟨rfl, B11⟩
          have D11 := D10.later B11
          have HR2 := HRF.out w11 D11.f
          have HM := HM1.out w11
          go_wp2_with fail
          refine HM.mono ?_
          rintro e w' ⟨rfl, rfl⟩
          clear HM B11
          go_wp2_with fail
          refine HR2.mono ?_
          rintro e w12 ⟨rfl, B12⟩
          have D12 := D11.later B12
          have HR3 := HRF.out w12 D12.f
          have HM := HM2.out w12
          clear B12 HR2 D11
          go_wp2_with fail
          refine HM.mono ?_
          rintro e w' ⟨rfl, rfl⟩
          clear HM
          go_wp2_with fail
          refine HR3.mono ?_
          rintro e w13 ⟨rfl, B13⟩
          have D13 := D12.later B13
          have B14 := ((Grw.refl w13).alloc (.cells #[.int .i64 me, .int .i64 (q : Int)] 3)).below
          have D14 := Lib.hid (HF.out _ (D13.later B14))
          have HO : Calls Try.prog 23 #[.slice (some ⟨w13.heap.size, 0, none⟩) 2 2] (w13.alloc (.cells #[.int .i64 me, .int .i64 (q : Int)] 3)) fun e w'' => e = .returned (.int .u64 (lq : Int)) ∧ (w13.alloc (.cells #[.int .i64 me, .int .i64 (q : Int)] 3)) = w'' := by rw [← HLQ.out]; exact of_any (some ⟨w13.heap.size, 0, none⟩) 2 2 [me, (q : Int)] _ (InI.two w13 me (q : Int) m0 m1 (by omega) (by omega)) (by decide)
          clear B13 B14 HR3 D12 D13
          go_wp2_with fail
          refine HO.mono ?_
          rintro e w' ⟨rfl, rfl⟩
          have HI2 := HINN.out (w13.alloc (.cells #[.int .i64 me, .int .i64 (q : Int)] 3))
          clear HO
          go_wp2_with fail
          refine HI2.mono ?_
          rintro e w' ⟨rfl, rfl⟩
          clear HI2 HR1 HRF HM1 HM2 HINN
          go_wp2
          go_roundw
          case rel => exact ⟨i + 1, E5, F5, by omega, by go_num, D14.out.1, D14.out.2.1, D14.out.2.2.1, HC.out, HME.out, D14.out.2.2.2⟩
          case measure => simp [intOf]; omega
      by_cases hk2 : a.kind = 2
      · by_cases hpq : a.p = (q : Int)
        · have ep : (a.p == (q : Int)) = true := by simp [hpq]
          have HPQ := Lib.hid hpq
          clear hpq
          have e0 : (a.kind == 0) = false := by simp [hk0]
          have e1 : (a.kind == 1) = false := by simp [hk1]
          have e2 : (a.kind == 2) = true := by simp [hk2]
          have H1 := ebeat D4.e a.p ha.p0 ha.p1 a.b ha.b
          go_wp2_with fail
          refine H1.mono ?_
          rintro e w5 ⟨rfl, M5⟩
          have D5 := D4.first M5 hgf hgk hgw
          clear H1 M5 D4
          clear c0 c1 c2 c3 c4 c5 c6 c7
          have c0 := D5.act.own.at_ 0 _ rfl
          have c1 := D5.act.own.at_ 1 _ rfl
          have c2 := D5.act.own.at_ 2 _ rfl
          have c3 := D5.act.own.at_ 3 _ rfl
          have c4 := D5.act.own.at_ 4 _ rfl
          have c5 := D5.act.own.at_ 5 _ rfl
          have c6 := D5.act.own.at_ 6 _ rfl
          have c7 := D5.act.own.at_ 7 _ rfl
          have H2 := ebeat D5.f a.p ha.p0 ha.p1 a.b ha.b
          go_wp2_with fail
          refine H2.mono ?_
          rintro e w6 ⟨rfl, M6⟩
          have D6 := D5.second M6 hgf hfk hfw
          clear H2 M6 D5
          have D5 := D6.duo (by rw [HPQ.out]; exact I.beat2 a.b)
          have HC := Lib.hid (show (beatE E a.p a.b).clock ≤ ((i + 1 : Nat) : Int) by rw [clock_beat]; omega)
          have HME := Lib.hid (show (beatE F a.p a.b).me = me from by unfold beatE; split <;> exact hme)
          have hFme := HME.out
          clear D6 c0 c1 c2 c3 c4 c5 c6 c7 ha hp0 hp1 I
          obtain ⟨E5, hE5⟩ : ∃ E5, E5 = beatE E a.p a.b := ⟨_, rfl⟩
          obtain ⟨F5, hF5⟩ : ∃ F5, F5 = beatE F a.p a.b := ⟨_, rfl⟩
          rw [← hE5] at D5 HC
          rw [← hF5] at D5 HME hFme
          clear hE5 hF5
          have HOE := eof D5.e (q : Int) (by omega) (by omega)
          have hof := D5.ap.of
          rw [hof.1, hof.2] at HOE
          have HB : Hid (∀ w', EarAt w' f F5 → Calls Try.prog 14 #[.pointer (some ⟨f, 0, none⟩), .int .i64 (q : Int)] w' fun e w'' => e = .returned (.tuple #[.agg #[.int .u64 ((ofB F5 (q : Int)).ce : Int), .int .i64 (ofB F5 (q : Int)).cr, .int .u64 ((ofB F5 (q : Int)).pe : Int), .int .i64 (ofB F5 (q : Int)).pr, .int .u64 ((ofB F5 (q : Int)).ep : Int)], .bool (ofO F5 (q : Int))]) ∧ Below w'.heap.size w' w'') := Lib.hid (fun w' h => eof h (q : Int) (by omega) (by omega))
          clear hof
          generalize ofB F5 (q : Int) = bt at *
          generalize ofO F5 (q : Int) = o at *
          have hq5 := neq_beat bt bt
          rw [show sameB bt bt = true from (sameB_iff bt bt).2 rfl] at hq5
          go_upto_region 26 with (first | (go_at_call 14; refine HOE.mono ?_; rintro e w7 ⟨rfl, B7⟩) | (refine store_bt rfl (.tmp 13) (.tmp 104) rfl w7.heap.size bt rfl rfl (BtB.zero w7) ?_))
          (try simp only [Act.put])
          obtain ⟨RB, LB⟩ := btb_put w7 bt
          have D8 := (D5.later B7).later LB
          clear LB B7 HOE D5
          generalize ((w7.alloc (.cells #[.int .u64 0, .int .i64 0, .int .u64 0, .int .i64 0, .int .u64 0] 33)).setRow w7.heap.size #[.int .u64 (bt.ce : Int), .int .i64 bt.cr, .int .u64 (bt.pe : Int), .int .i64 bt.pr, .int .u64 (bt.ep : Int)]) = w8 at *
          generalize w7.heap.size = bx at *
          have HOF := HB.out w8 D8.f
          clear HB
          go_upto_region 27 with (first | (go_at_call 14; refine HOF.mono ?_; rintro e w9 ⟨rfl, B9⟩) | (refine store_bt rfl (.tmp 15) (.tmp 110) rfl w9.heap.size bt rfl rfl (BtB.zero w9) ?_))
          (try simp only [Act.put])
          obtain ⟨RC, LC⟩ := btb_put w9 bt
          have D10 := (D8.later B9).later LC
          have RB := (RB.below B9).below LC
          clear LC B9 HOF D8
          generalize ((w9.alloc (.cells #[.int .u64 0, .int .i64 0, .int .u64 0, .int .i64 0, .int .u64 0] 33)).setRow w9.heap.size #[.int .u64 (bt.ce : Int), .int .i64 bt.cr, .int .u64 (bt.pe : Int), .int .i64 bt.pr, .int .u64 (bt.ep : Int)]) = w10 at *
          generalize w9.heap.size = by_ at *
          have x0 := RB.d0
          have x1 := RB.d1
          have x2 := RB.d2
          have x3 := RB.d3
          have x4 := RB.d4
          have y0 := RC.d0
          have y1 := RC.d1
          have y2 := RC.d2
          have y3 := RC.d3
          have y4 := RC.d4
          have HR1 := ereach D10.e
          have hr1 := D10.ap.reach hq
          have hrl := reachE_lt E5
          have hrl2 := reachE_lt F5
          have hin := D10.ap.in_ hq
          rw [hFme] at hin
          have HRF : Hid (∀ w', EarAt w' f F5 → Calls Try.prog 16 #[.pointer (some ⟨f, 0, none⟩)] w' fun e w'' => e = .returned (.int .u64 (reachE F5 : Nat)) ∧ Below w'.heap.size w' w'') := Lib.hid (fun w' h => ereach h)
          have HF : Hid (∀ w', Duo w w' g f k q a E5 F5 → EarAt w' g E5 ∧ EarAt w' f F5 ∧ ApI q E5 F5 ∧ Below w.heap.size w w') := Lib.hid (fun w' h => ⟨h.e, h.f, h.ap, h.below⟩)
          generalize reachE E5 = r1 at *
          generalize reachE F5 = r2 at *
          have HM2 : Hid (∀ w', Calls Try.prog 22 #[.int .u64 (r2 : Int), .int .i64 (q : Int)] w' fun e w'' => e = .returned (.bool (mem r2 (q : Int))) ∧ w' = w'') := Lib.hid (fun w' => has_any r2 (q : Int) w' hrl2 (by omega) (by omega))
          have HM1 : Hid (∀ w', Calls Try.prog 22 #[.int .u64 (r1 : Int), .int .i64 (q : Int)] w' fun e w'' => e = .returned (.bool (mem r2 (q : Int))) ∧ w' = w'') := Lib.hid (fun w' => by have := has_any r1 (q : Int) w' hrl (by omega) (by omega); rw [hr1] at this; exact this)
          have HINN : Hid (∀ w', Calls Try.prog 25 #[.int .u64 (r2 : Int), .int .u64 (ofl [me, (q : Int)] : Nat)] w' fun e w'' => e = .returned (.bool true) ∧ w' = w'') := Lib.hid (fun w' => by have := in_any r2 (ofl [me, (q : Int)]) w' hrl2 (ofl_lt _); rw [hin] at this; exact this)
          generalize mem r2 (q : Int) = mq at *
          obtain ⟨lq, hlq⟩ : ∃ lq, ofl [me, (q : Int)] = lq := ⟨_, rfl⟩
          rw [hlq] at HINN
          have HLQ := Lib.hid hlq
          clear hlq
          clear RB RC hr1 hin hrl hrl2
          have hoo : (o != o) = false := by cases o <;> rfl
          have hmm : (mq != mq) = false := by cases mq <;> rfl
          go_wp2_with fail
          refine HR1.mono ?_
          rintro e w11 ⟨rfl, B11⟩
          have D11 := D10.later B11
          have HR2 := HRF.out w11 D11.f
          have HM := HM1.out w11
          go_wp2_with fail
          refine HM.mono ?_
          rintro e w' ⟨rfl, rfl⟩
          clear HM B11
          go_wp2_with fail
          refine HR2.mono ?_
          rintro e w12 ⟨rfl, B12⟩
          have D12 := D11.later B12
          have HR3 := HRF.out w12 D12.f
          have HM := HM2.out w12
          clear B12 HR2 D11
          go_wp2_with fail
          refine HM.mono ?_
          rintro e w' ⟨rfl, rfl⟩
          clear HM
          go_wp2_with fail
          refine HR3.mono ?_
          rintro e w13 ⟨rfl, B13⟩
          have D13 := D12.later B13
          have B14 := ((Grw.refl w13).alloc (.cells #[.int .i64 me, .int .i64 (q : Int)] 3)).below
          have D14 := Lib.hid (HF.out _ (D13.later B14))
          have HO : Calls Try.prog 23 #[.slice (some ⟨w13.heap.size, 0, none⟩) 2 2] (w13.alloc (.cells #[.int .i64 me, .int .i64 (q : Int)] 3)) fun e w'' => e = .returned (.int .u64 (lq : Int)) ∧ (w13.alloc (.cells #[.int .i64 me, .int .i64 (q : Int)] 3)) = w'' := by rw [← HLQ.out]; exact of_any (some ⟨w13.heap.size, 0, none⟩) 2 2 [me, (q : Int)] _ (InI.two w13 me (q : Int) m0 m1 (by omega) (by omega)) (by decide)
          clear B13 B14 HR3 D12 D13
          go_wp2_with fail
          refine HO.mono ?_
          rintro e w' ⟨rfl, rfl⟩
          have HI2 := HINN.out (w13.alloc (.cells #[.int .i64 me, .int .i64 (q : Int)] 3))
          clear HO
          go_wp2_with fail
          refine HI2.mono ?_
          rintro e w' ⟨rfl, rfl⟩
          clear HI2 HR1 HRF HM1 HM2 HINN
          go_wp2
          go_roundw
          case rel => exact ⟨i + 1, E5, F5, by omega, by go_num, D14.out.1, D14.out.2.1, D14.out.2.2.1, HC.out, HME.out, D14.out.2.2.2⟩
          case measure => simp [intOf]; omega
        · have ep : (a.p == (q : Int)) = false := by simp [hpq]
          have HPQ := Lib.hid hpq
          clear hpq
          have e0 : (a.kind == 0) = false := by simp [hk0]
          have e1 : (a.kind == 1) = false := by simp [hk1]
          have e2 : (a.kind == 2) = true := by simp [hk2]
          have H1 := ebeat D4.e a.p ha.p0 ha.p1 a.b ha.b
          go_wp2_with fail
          refine H1.mono ?_
          rintro e w5 ⟨rfl, M5⟩
          have D5 := D4.first M5 hgf hgk hgw
          clear H1 M5 D4
          clear c0 c1 c2 c3 c4 c5 c6 c7
          have c0 := D5.act.own.at_ 0 _ rfl
          have c1 := D5.act.own.at_ 1 _ rfl
          have c2 := D5.act.own.at_ 2 _ rfl
          have c3 := D5.act.own.at_ 3 _ rfl
          have c4 := D5.act.own.at_ 4 _ rfl
          have c5 := D5.act.own.at_ 5 _ rfl
          have c6 := D5.act.own.at_ 6 _ rfl
          have c7 := D5.act.own.at_ 7 _ rfl
          go_upto_region 25 with fail
          have D6 := D5.duo (I.beat1 a.p HPQ.out a.b)
          have HC := Lib.hid (show (beatE E a.p a.b).clock ≤ ((i + 1 : Nat) : Int) by rw [clock_beat]; omega)
          have HME := Lib.hid (show (F).me = me from hme)
          have hFme := HME.out
          clear D5 c0 c1 c2 c3 c4 c5 c6 c7 ha hp0 hp1 I
          obtain ⟨E5, hE5⟩ : ∃ E5, E5 = beatE E a.p a.b := ⟨_, rfl⟩
          obtain ⟨F5, hF5⟩ : ∃ F5, F5 = F := ⟨_, rfl⟩
          rw [← hE5] at D6 HC
          rw [← hF5] at D6 HME hFme
          have D5 := D6
          clear D6
          clear hE5 hF5
          have HOE := eof D5.e (q : Int) (by omega) (by omega)
          have hof := D5.ap.of
          rw [hof.1, hof.2] at HOE
          have HB : Hid (∀ w', EarAt w' f F5 → Calls Try.prog 14 #[.pointer (some ⟨f, 0, none⟩), .int .i64 (q : Int)] w' fun e w'' => e = .returned (.tuple #[.agg #[.int .u64 ((ofB F5 (q : Int)).ce : Int), .int .i64 (ofB F5 (q : Int)).cr, .int .u64 ((ofB F5 (q : Int)).pe : Int), .int .i64 (ofB F5 (q : Int)).pr, .int .u64 ((ofB F5 (q : Int)).ep : Int)], .bool (ofO F5 (q : Int))]) ∧ Below w'.heap.size w' w'') := Lib.hid (fun w' h => eof h (q : Int) (by omega) (by omega))
          clear hof
          generalize ofB F5 (q : Int) = bt at *
          generalize ofO F5 (q : Int) = o at *
          have hq5 := neq_beat bt bt
          rw [show sameB bt bt = true from (sameB_iff bt bt).2 rfl] at hq5
          go_upto_region 26 with (first | (go_at_call 14; refine HOE.mono ?_; rintro e w7 ⟨rfl, B7⟩) | (refine store_bt rfl (.tmp 13) (.tmp 104) rfl w7.heap.size bt rfl rfl (BtB.zero w7) ?_))
          (try simp only [Act.put])
          obtain ⟨RB, LB⟩ := btb_put w7 bt
          have D8 := (D5.later B7).later LB
          clear LB B7 HOE D5
          generalize ((w7.alloc (.cells #[.int .u64 0, .int .i64 0, .int .u64 0, .int .i64 0, .int .u64 0] 33)).setRow w7.heap.size #[.int .u64 (bt.ce : Int), .int .i64 bt.cr, .int .u64 (bt.pe : Int), .int .i64 bt.pr, .int .u64 (bt.ep : Int)]) = w8 at *
          generalize w7.heap.size = bx at *
          have HOF := HB.out w8 D8.f
          clear HB
          go_upto_region 27 with (first | (go_at_call 14; refine HOF.mono ?_; rintro e w9 ⟨rfl, B9⟩) | (refine store_bt rfl (.tmp 15) (.tmp 110) rfl w9.heap.size bt rfl rfl (BtB.zero w9) ?_))
          (try simp only [Act.put])
          obtain ⟨RC, LC⟩ := btb_put w9 bt
          have D10 := (D8.later B9).later LC
          have RB := (RB.below B9).below LC
          clear LC B9 HOF D8
          generalize ((w9.alloc (.cells #[.int .u64 0, .int .i64 0, .int .u64 0, .int .i64 0, .int .u64 0] 33)).setRow w9.heap.size #[.int .u64 (bt.ce : Int), .int .i64 bt.cr, .int .u64 (bt.pe : Int), .int .i64 bt.pr, .int .u64 (bt.ep : Int)]) = w10 at *
          generalize w9.heap.size = by_ at *
          have x0 := RB.d0
          have x1 := RB.d1
          have x2 := RB.d2
          have x3 := RB.d3
          have x4 := RB.d4
          have y0 := RC.d0
          have y1 := RC.d1
          have y2 := RC.d2
          have y3 := RC.d3
          have y4 := RC.d4
          have HR1 := ereach D10.e
          have hr1 := D10.ap.reach hq
          have hrl := reachE_lt E5
          have hrl2 := reachE_lt F5
          have hin := D10.ap.in_ hq
          rw [hFme] at hin
          have HRF : Hid (∀ w', EarAt w' f F5 → Calls Try.prog 16 #[.pointer (some ⟨f, 0, none⟩)] w' fun e w'' => e = .returned (.int .u64 (reachE F5 : Nat)) ∧ Below w'.heap.size w' w'') := Lib.hid (fun w' h => ereach h)
          have HF : Hid (∀ w', Duo w w' g f k q a E5 F5 → EarAt w' g E5 ∧ EarAt w' f F5 ∧ ApI q E5 F5 ∧ Below w.heap.size w w') := Lib.hid (fun w' h => ⟨h.e, h.f, h.ap, h.below⟩)
          generalize reachE E5 = r1 at *
          generalize reachE F5 = r2 at *
          have HM2 : Hid (∀ w', Calls Try.prog 22 #[.int .u64 (r2 : Int), .int .i64 (q : Int)] w' fun e w'' => e = .returned (.bool (mem r2 (q : Int))) ∧ w' = w'') := Lib.hid (fun w' => has_any r2 (q : Int) w' hrl2 (by omega) (by omega))
          have HM1 : Hid (∀ w', Calls Try.prog 22 #[.int .u64 (r1 : Int), .int .i64 (q : Int)] w' fun e w'' => e = .returned (.bool (mem r2 (q : Int))) ∧ w' = w'') := Lib.hid (fun w' => by have := has_any r1 (q : Int) w' hrl (by omega) (by omega); rw [hr1] at this; exact this)
          have HINN : Hid (∀ w', Calls Try.prog 25 #[.int .u64 (r2 : Int), .int .u64 (ofl [me, (q : Int)] : Nat)] w' fun e w'' => e = .returned (.bool true) ∧ w' = w'') := Lib.hid (fun w' => by have := in_any r2 (ofl [me, (q : Int)]) w' hrl2 (ofl_lt _); rw [hin] at this; exact this)
          generalize mem r2 (q : Int) = mq at *
          obtain ⟨lq, hlq⟩ : ∃ lq, ofl [me, (q : Int)] = lq := ⟨_, rfl⟩
          rw [hlq] at HINN
          have HLQ := Lib.hid hlq
          clear hlq
          clear RB RC hr1 hin hrl hrl2
          have hoo : (o != o) = false := by cases o <;> rfl
          have hmm : (mq != mq) = false := by cases mq <;> rfl
          go_wp2_with fail
          refine HR1.mono ?_
          rintro e w11 ⟨rfl, B11⟩
          have D11 := D10.later B11
          have HR2 := HRF.out w11 D11.f
          have HM := HM1.out w11
          go_wp2_with fail
          refine HM.mono ?_
          rintro e w' ⟨rfl, rfl⟩
          clear HM B11
          go_wp2_with fail
          refine HR2.mono ?_
          rintro e w12 ⟨rfl, B12⟩
          have D12 := D11.later B12
          have HR3 := HRF.out w12 D12.f
          have HM := HM2.out w12
          clear B12 HR2 D11
          go_wp2_with fail
          refine HM.mono ?_
          rintro e w' ⟨rfl, rfl⟩
          clear HM
          go_wp2_with fail
          refine HR3.mono ?_
          rintro e w13 ⟨rfl, B13⟩
          have D13 := D12.later B13
          have B14 := ((Grw.refl w13).alloc (.cells #[.int .i64 me, .int .i64 (q : Int)] 3)).below
          have D14 := Lib.hid (HF.out _ (D13.later B14))
          have HO : Calls Try.prog 23 #[.slice (some ⟨w13.heap.size, 0, none⟩) 2 2] (w13.alloc (.cells #[.int .i64 me, .int .i64 (q : Int)] 3)) fun e w'' => e = .returned (.int .u64 (lq : Int)) ∧ (w13.alloc (.cells #[.int .i64 me, .int .i64 (q : Int)] 3)) = w'' := by rw [← HLQ.out]; exact of_any (some ⟨w13.heap.size, 0, none⟩) 2 2 [me, (q : Int)] _ (InI.two w13 me (q : Int) m0 m1 (by omega) (by omega)) (by decide)
          clear B13 B14 HR3 D12 D13
          go_wp2_with fail
          refine HO.mono ?_
          rintro e w' ⟨rfl, rfl⟩
          have HI2 := HINN.out (w13.alloc (.cells #[.int .i64 me, .int .i64 (q : Int)] 3))
          clear HO
          go_wp2_with fail
          refine HI2.mono ?_
          rintro e w' ⟨rfl, rfl⟩
          clear HI2 HR1 HRF HM1 HM2 HINN
          go_wp2
          go_roundw
          case rel => exact ⟨i + 1, E5, F5, by omega, by go_num, D14.out.1, D14.out.2.1, D14.out.2.2.1, HC.out, HME.out, D14.out.2.2.2⟩
          case measure => simp [intOf]; omega
      by_cases hk3 : a.kind = 3
      · have e0 : (a.kind == 0) = false := by simp [hk0]
        have e1 : (a.kind == 1) = false := by simp [hk1]
        have e2 : (a.kind == 2) = false := by simp [hk2]
        have e3 : (a.kind == 3) = true := by simp [hk3]
        have H1 := eforget D4.e a.s ha.s
        go_wp2_with fail
        refine H1.mono ?_
        rintro e w5 ⟨rfl, M5⟩
        have D5 := D4.first M5 hgf hgk hgw
        clear H1 M5 D4
        clear c0 c1 c2 c3 c4 c5 c6 c7
        have c0 := D5.act.own.at_ 0 _ rfl
        have c1 := D5.act.own.at_ 1 _ rfl
        have c2 := D5.act.own.at_ 2 _ rfl
        have c3 := D5.act.own.at_ 3 _ rfl
        have c4 := D5.act.own.at_ 4 _ rfl
        have c5 := D5.act.own.at_ 5 _ rfl
        have c6 := D5.act.own.at_ 6 _ rfl
        have c7 := D5.act.own.at_ 7 _ rfl
        go_upto_region 24 with fail
        have DD : Half w w5.drew g f k a (forgetE E a.s) F := D5.later ((Grw.refl w5).drew).below
        clear D5 c0 c1 c2 c3 c4 c5 c6 c7
        have KC : Hid (∀ w', HaB w' k a → w'.cell? ⟨k, 7, none⟩ = some (.int .u64 (a.s : Int))) := Lib.hid fun w' h => h.own.at_ 7 _ rfl
        refine wp_region_held_drew (S := fun w' => HaB w' k a) (by kernel_rfl) DD.act (fun hHeld => ?_)
        generalize w5.drew = V at *
        refine etake (i := 0) (v := .pointer (some ⟨f, 0, none⟩)) 92 rfl (by kernel_rfl) (by kernel_rfl) (by kernel_rfl) (by kernel_rfl) (fun _ _ _ h => h) (.inl ⟨by kernel_rfl, fun w' hS => by (go_simp)⟩) hHeld ?_
        (try simp only [Act.put, List.setIfInBounds_toArray, List.set_cons_zero, List.set_cons_succ])
        refine etake (i := 1) (v := .pointer (some ⟨k, 7, none⟩)) 93 rfl (by kernel_rfl) (by kernel_rfl) (by kernel_rfl) (by kernel_rfl) (fun _ _ _ h => h) (.inl ⟨by kernel_rfl, fun w' hS => by (go_simp)⟩) hHeld ?_
        (try simp only [Act.put, List.setIfInBounds_toArray, List.set_cons_zero, List.set_cons_succ])
        refine etake (i := 2) (v := .int .u64 (a.s : Int)) 94 rfl (by kernel_rfl) (by kernel_rfl) (by kernel_rfl) (by kernel_rfl) (fun _ _ _ h => h) (.inl ⟨by kernel_rfl, fun w' hS => by (have c := KC.out w' hS; go_simp)⟩) hHeld ?_
        (try simp only [Act.put, List.setIfInBounds_toArray, List.set_cons_zero, List.set_cons_succ])
        refine etake (i := 3) (v := .int .i64 (q : Int)) 95 rfl (by kernel_rfl) (by kernel_rfl) (by kernel_rfl) (by kernel_rfl) (fun _ _ _ h => h) (.inl ⟨by kernel_rfl, fun w' hS => by (go_simp)⟩) hHeld ?_
        (try simp only [Act.put, List.setIfInBounds_toArray, List.set_cons_zero, List.set_cons_succ])
        refine wpAnyH_ready (rs := [4]) (by kernel_rfl) (by simp) (AllReadyH.cons rfl (fun K hK => ?_) AllReadyH.nil)
        clear hHeld
        rw [if_pos (by kernel_rfl)]
        go_simp
        have B6 := ((Grw.refl V).alloc (.cells #[.int .i64 (q : Int)] 3)).below
        have D6 := DD.later B6
        have HO := of_any (some ⟨V.heap.size, 0, none⟩) 1 1 [(q : Int)] _ (InI.one V (q : Int) (by omega) (by omega)) (by decide)
        rw [ofl_one] at HO
        clear B6 DD
        generalize V.alloc (.cells #[.int .i64 (q : Int)] 3) = W at *
        generalize V.heap.size = vb at *
        refine hK.out _ _ D6.act (fun hHeld => ?_)
        clear hK K
        (try simp only [Act.put, List.setIfInBounds_toArray, List.set_cons_zero, List.set_cons_succ])
        refine wpAnyH_ready (rs := [5]) (by kernel_rfl) (by simp) (AllReadyH.cons rfl (fun K hK => ?_) AllReadyH.nil)
        clear hHeld
        rw [if_pos (by kernel_rfl)]
        go_simp
        refine HO.mono ?_
        rintro e w' ⟨rfl, rfl⟩
        have HBo := both_any a.s (onl (q : Int)) W ha.s (onl_lt _)
        have hblt := both_lt a.s (onl (q : Int))
        refine hK.out _ _ D6.act (fun hHeld => ?_)
        clear hK K HO
        (try simp only [Act.put, List.setIfInBounds_toArray, List.set_cons_zero, List.set_cons_succ])
        refine wpAnyH_ready (rs := [6]) (by kernel_rfl) (by simp) (AllReadyH.cons rfl (fun K hK => ?_) AllReadyH.nil)
        clear hHeld
        rw [if_pos (by kernel_rfl)]
        go_simp
        refine HBo.mono ?_
        rintro e w' ⟨rfl, rfl⟩
        have HFo := eforget D6.f (both a.s (onl (q : Int))) hblt
        refine hK.out _ _ D6.act (fun hHeld => ?_)
        clear hK K HBo
        (try simp only [Act.put, List.setIfInBounds_toArray, List.set_cons_zero, List.set_cons_succ])
        refine wpAnyH_ready (rs := [7]) (by kernel_rfl) (by simp) (AllReadyH.cons rfl (fun K hK => ?_) AllReadyH.nil)
        clear hHeld
        rw [if_pos (by kernel_rfl)]
        go_simp
        refine HFo.mono ?_
        rintro e w6 ⟨rfl, M6⟩
        have D7 := D6.second M6 hgf hfk hfw
        refine hK.out _ _ D7.act (fun hHeld => ?_)
        clear hK K HFo M6 D6 hHeld
        refine wpAnyH_done (by kernel_rfl) ?_ _
        (try simp only [Act.put, List.setIfInBounds_toArray, List.set_cons_zero, List.set_cons_succ])
        clear KC
        have D5 := D7.duo (I.forget hq a.s)
        have HC := Lib.hid (show (forgetE E a.s).clock ≤ ((i + 1 : Nat) : Int) by show E.clock ≤ _; omega)
        have HME := Lib.hid (show (forgetE F (both a.s (onl (q : Int)))).me = me from hme)
        have hFme := HME.out
        clear D7 ha hp0 hp1 I
        obtain ⟨E5, hE5⟩ : ∃ E5, E5 = forgetE E a.s := ⟨_, rfl⟩
        obtain ⟨F5, hF5⟩ : ∃ F5, F5 = forgetE F (both a.s (onl (q : Int))) := ⟨_, rfl⟩
        rw [← hE5] at D5 HC
        rw [← hF5] at D5 HME hFme
        clear hE5 hF5
        have HOE := eof D5.e (q : Int) (by omega) (by omega)
        have hof := D5.ap.of
        rw [hof.1, hof.2] at HOE
        have HB : Hid (∀ w', EarAt w' f F5 → Calls Try.prog 14 #[.pointer (some ⟨f, 0, none⟩), .int .i64 (q : Int)] w' fun e w'' => e = .returned (.tuple #[.agg #[.int .u64 ((ofB F5 (q : Int)).ce : Int), .int .i64 (ofB F5 (q : Int)).cr, .int .u64 ((ofB F5 (q : Int)).pe : Int), .int .i64 (ofB F5 (q : Int)).pr, .int .u64 ((ofB F5 (q : Int)).ep : Int)], .bool (ofO F5 (q : Int))]) ∧ Below w'.heap.size w' w'') := Lib.hid (fun w' h => eof h (q : Int) (by omega) (by omega))
        clear hof
        generalize ofB F5 (q : Int) = bt at *
        generalize ofO F5 (q : Int) = o at *
        have hq5 := neq_beat bt bt
        rw [show sameB bt bt = true from (sameB_iff bt bt).2 rfl] at hq5
        go_upto_region 26 with (first | (go_at_call 14; refine HOE.mono ?_; rintro e w7 ⟨rfl, B7⟩) | (refine store_bt rfl (.tmp 13) (.tmp 104) rfl w7.heap.size bt rfl rfl (BtB.zero w7) ?_))
        (try simp only [Act.put])
        obtain ⟨RB, LB⟩ := btb_put w7 bt
        have D8 := (D5.later B7).later LB
        clear LB B7 HOE D5
        generalize ((w7.alloc (.cells #[.int .u64 0, .int .i64 0, .int .u64 0, .int .i64 0, .int .u64 0] 33)).setRow w7.heap.size #[.int .u64 (bt.ce : Int), .int .i64 bt.cr, .int .u64 (bt.pe : Int), .int .i64 bt.pr, .int .u64 (bt.ep : Int)]) = w8 at *
        generalize w7.heap.size = bx at *
        have HOF := HB.out w8 D8.f
        clear HB
        go_upto_region 27 with (first | (go_at_call 14; refine HOF.mono ?_; rintro e w9 ⟨rfl, B9⟩) | (refine store_bt rfl (.tmp 15) (.tmp 110) rfl w9.heap.size bt rfl rfl (BtB.zero w9) ?_))
        (try simp only [Act.put])
        obtain ⟨RC, LC⟩ := btb_put w9 bt
        have D10 := (D8.later B9).later LC
        have RB := (RB.below B9).below LC
        clear LC B9 HOF D8
        generalize ((w9.alloc (.cells #[.int .u64 0, .int .i64 0, .int .u64 0, .int .i64 0, .int .u64 0] 33)).setRow w9.heap.size #[.int .u64 (bt.ce : Int), .int .i64 bt.cr, .int .u64 (bt.pe : Int), .int .i64 bt.pr, .int .u64 (bt.ep : Int)]) = w10 at *
        generalize w9.heap.size = by_ at *
        have x0 := RB.d0
        have x1 := RB.d1
        have x2 := RB.d2
        have x3 := RB.d3
        have x4 := RB.d4
        have y0 := RC.d0
        have y1 := RC.d1
        have y2 := RC.d2
        have y3 := RC.d3
        have y4 := RC.d4
        have HR1 := ereach D10.e
        have hr1 := D10.ap.reach hq
        have hrl := reachE_lt E5
        have hrl2 := reachE_lt F5
        have hin := D10.ap.in_ hq
        rw [hFme] at hin
        have HRF : Hid (∀ w', EarAt w' f F5 → Calls Try.prog 16 #[.pointer (some ⟨f, 0, none⟩)] w' fun e w'' => e = .returned (.int .u64 (reachE F5 : Nat)) ∧ Below w'.heap.size w' w'') := Lib.hid (fun w' h => ereach h)
        have HF : Hid (∀ w', Duo w w' g f k q a E5 F5 → EarAt w' g E5 ∧ EarAt w' f F5 ∧ ApI q E5 F5 ∧ Below w.heap.size w w') := Lib.hid (fun w' h => ⟨h.e, h.f, h.ap, h.below⟩)
        generalize reachE E5 = r1 at *
        generalize reachE F5 = r2 at *
        have HM2 : Hid (∀ w', Calls Try.prog 22 #[.int .u64 (r2 : Int), .int .i64 (q : Int)] w' fun e w'' => e = .returned (.bool (mem r2 (q : Int))) ∧ w' = w'') := Lib.hid (fun w' => has_any r2 (q : Int) w' hrl2 (by omega) (by omega))
        have HM1 : Hid (∀ w', Calls Try.prog 22 #[.int .u64 (r1 : Int), .int .i64 (q : Int)] w' fun e w'' => e = .returned (.bool (mem r2 (q : Int))) ∧ w' = w'') := Lib.hid (fun w' => by have := has_any r1 (q : Int) w' hrl (by omega) (by omega); rw [hr1] at this; exact this)
        have HINN : Hid (∀ w', Calls Try.prog 25 #[.int .u64 (r2 : Int), .int .u64 (ofl [me, (q : Int)] : Nat)] w' fun e w'' => e = .returned (.bool true) ∧ w' = w'') := Lib.hid (fun w' => by have := in_any r2 (ofl [me, (q : Int)]) w' hrl2 (ofl_lt _); rw [hin] at this; exact this)
        generalize mem r2 (q : Int) = mq at *
        obtain ⟨lq, hlq⟩ : ∃ lq, ofl [me, (q : Int)] = lq := ⟨_, rfl⟩
        rw [hlq] at HINN
        have HLQ := Lib.hid hlq
        clear hlq
        clear RB RC hr1 hin hrl hrl2
        have hoo : (o != o) = false := by cases o <;> rfl
        have hmm : (mq != mq) = false := by cases mq <;> rfl
        go_wp2_with fail
        refine HR1.mono ?_
        rintro e w11 ⟨rfl, B11⟩
        have D11 := D10.later B11
        have HR2 := HRF.out w11 D11.f
        have HM := HM1.out w11
        go_wp2_with fail
        refine HM.mono ?_
        rintro e w' ⟨rfl, rfl⟩
        clear HM B11
        go_wp2_with fail
        refine HR2.mono ?_
        rintro e w12 ⟨rfl, B12⟩
        have D12 := D11.later B12
        have HR3 := HRF.out w12 D12.f
        have HM := HM2.out w12
        clear B12 HR2 D11
        go_wp2_with fail
        refine HM.mono ?_
        rintro e w' ⟨rfl, rfl⟩
        clear HM
        go_wp2_with fail
        refine HR3.mono ?_
        rintro e w13 ⟨rfl, B13⟩
        have D13 := D12.later B13
        have B14 := ((Grw.refl w13).alloc (.cells #[.int .i64 me, .int .i64 (q : Int)] 3)).below
        have D14 := Lib.hid (HF.out _ (D13.later B14))
        have HO : Calls Try.prog 23 #[.slice (some ⟨w13.heap.size, 0, none⟩) 2 2] (w13.alloc (.cells #[.int .i64 me, .int .i64 (q : Int)] 3)) fun e w'' => e = .returned (.int .u64 (lq : Int)) ∧ (w13.alloc (.cells #[.int .i64 me, .int .i64 (q : Int)] 3)) = w'' := by rw [← HLQ.out]; exact of_any (some ⟨w13.heap.size, 0, none⟩) 2 2 [me, (q : Int)] _ (InI.two w13 me (q : Int) m0 m1 (by omega) (by omega)) (by decide)
        clear B13 B14 HR3 D12 D13
        go_wp2_with fail
        refine HO.mono ?_
        rintro e w' ⟨rfl, rfl⟩
        have HI2 := HINN.out (w13.alloc (.cells #[.int .i64 me, .int .i64 (q : Int)] 3))
        clear HO
        go_wp2_with fail
        refine HI2.mono ?_
        rintro e w' ⟨rfl, rfl⟩
        clear HI2 HR1 HRF HM1 HM2 HINN
        go_wp2
        go_roundw
        case rel => exact ⟨i + 1, E5, F5, by omega, by go_num, D14.out.1, D14.out.2.1, D14.out.2.2.1, HC.out, HME.out, D14.out.2.2.2⟩
        case measure => simp [intOf]; omega
      have e0 : (a.kind == 0) = false := by simp [hk0]
      have e1 : (a.kind == 1) = false := by simp [hk1]
      have e2 : (a.kind == 2) = false := by simp [hk2]
      have e3 : (a.kind == 3) = false := by simp [hk3]
      go_upto_region 25 with fail
      have D6 := D4
      have D5 := D4.duo I
      have HC := Lib.hid (show (E).clock ≤ ((i + 1 : Nat) : Int) by omega)
      have HME := Lib.hid (show (F).me = me from hme)
      have hFme := HME.out
      clear D4 D6 c0 c1 c2 c3 c4 c5 c6 c7 ha hp0 hp1 I
      obtain ⟨E5, hE5⟩ : ∃ E5, E5 = E := ⟨_, rfl⟩
      obtain ⟨F5, hF5⟩ : ∃ F5, F5 = F := ⟨_, rfl⟩
      rw [← hE5] at D5 HC
      rw [← hF5] at D5 HME hFme
      clear hE5 hF5
      have HOE := eof D5.e (q : Int) (by omega) (by omega)
      have hof := D5.ap.of
      rw [hof.1, hof.2] at HOE
      have HB : Hid (∀ w', EarAt w' f F5 → Calls Try.prog 14 #[.pointer (some ⟨f, 0, none⟩), .int .i64 (q : Int)] w' fun e w'' => e = .returned (.tuple #[.agg #[.int .u64 ((ofB F5 (q : Int)).ce : Int), .int .i64 (ofB F5 (q : Int)).cr, .int .u64 ((ofB F5 (q : Int)).pe : Int), .int .i64 (ofB F5 (q : Int)).pr, .int .u64 ((ofB F5 (q : Int)).ep : Int)], .bool (ofO F5 (q : Int))]) ∧ Below w'.heap.size w' w'') := Lib.hid (fun w' h => eof h (q : Int) (by omega) (by omega))
      clear hof
      generalize ofB F5 (q : Int) = bt at *
      generalize ofO F5 (q : Int) = o at *
      have hq5 := neq_beat bt bt
      rw [show sameB bt bt = true from (sameB_iff bt bt).2 rfl] at hq5
      go_upto_region 26 with (first | (go_at_call 14; refine HOE.mono ?_; rintro e w7 ⟨rfl, B7⟩) | (refine store_bt rfl (.tmp 13) (.tmp 104) rfl w7.heap.size bt rfl rfl (BtB.zero w7) ?_))
      (try simp only [Act.put])
      obtain ⟨RB, LB⟩ := btb_put w7 bt
      have D8 := (D5.later B7).later LB
      clear LB B7 HOE D5
      generalize ((w7.alloc (.cells #[.int .u64 0, .int .i64 0, .int .u64 0, .int .i64 0, .int .u64 0] 33)).setRow w7.heap.size #[.int .u64 (bt.ce : Int), .int .i64 bt.cr, .int .u64 (bt.pe : Int), .int .i64 bt.pr, .int .u64 (bt.ep : Int)]) = w8 at *
      generalize w7.heap.size = bx at *
      have HOF := HB.out w8 D8.f
      clear HB
      go_upto_region 27 with (first | (go_at_call 14; refine HOF.mono ?_; rintro e w9 ⟨rfl, B9⟩) | (refine store_bt rfl (.tmp 15) (.tmp 110) rfl w9.heap.size bt rfl rfl (BtB.zero w9) ?_))
      (try simp only [Act.put])
      obtain ⟨RC, LC⟩ := btb_put w9 bt
      have D10 := (D8.later B9).later LC
      have RB := (RB.below B9).below LC
      clear LC B9 HOF D8
      generalize ((w9.alloc (.cells #[.int .u64 0, .int .i64 0, .int .u64 0, .int .i64 0, .int .u64 0] 33)).setRow w9.heap.size #[.int .u64 (bt.ce : Int), .int .i64 bt.cr, .int .u64 (bt.pe : Int), .int .i64 bt.pr, .int .u64 (bt.ep : Int)]) = w10 at *
      generalize w9.heap.size = by_ at *
      have x0 := RB.d0
      have x1 := RB.d1
      have x2 := RB.d2
      have x3 := RB.d3
      have x4 := RB.d4
      have y0 := RC.d0
      have y1 := RC.d1
      have y2 := RC.d2
      have y3 := RC.d3
      have y4 := RC.d4
      have HR1 := ereach D10.e
      have hr1 := D10.ap.reach hq
      have hrl := reachE_lt E5
      have hrl2 := reachE_lt F5
      have hin := D10.ap.in_ hq
      rw [hFme] at hin
      have HRF : Hid (∀ w', EarAt w' f F5 → Calls Try.prog 16 #[.pointer (some ⟨f, 0, none⟩)] w' fun e w'' => e = .returned (.int .u64 (reachE F5 : Nat)) ∧ Below w'.heap.size w' w'') := Lib.hid (fun w' h => ereach h)
      have HF : Hid (∀ w', Duo w w' g f k q a E5 F5 → EarAt w' g E5 ∧ EarAt w' f F5 ∧ ApI q E5 F5 ∧ Below w.heap.size w w') := Lib.hid (fun w' h => ⟨h.e, h.f, h.ap, h.below⟩)
      generalize reachE E5 = r1 at *
      generalize reachE F5 = r2 at *
      have HM2 : Hid (∀ w', Calls Try.prog 22 #[.int .u64 (r2 : Int), .int .i64 (q : Int)] w' fun e w'' => e = .returned (.bool (mem r2 (q : Int))) ∧ w' = w'') := Lib.hid (fun w' => has_any r2 (q : Int) w' hrl2 (by omega) (by omega))
      have HM1 : Hid (∀ w', Calls Try.prog 22 #[.int .u64 (r1 : Int), .int .i64 (q : Int)] w' fun e w'' => e = .returned (.bool (mem r2 (q : Int))) ∧ w' = w'') := Lib.hid (fun w' => by have := has_any r1 (q : Int) w' hrl (by omega) (by omega); rw [hr1] at this; exact this)
      have HINN : Hid (∀ w', Calls Try.prog 25 #[.int .u64 (r2 : Int), .int .u64 (ofl [me, (q : Int)] : Nat)] w' fun e w'' => e = .returned (.bool true) ∧ w' = w'') := Lib.hid (fun w' => by have := in_any r2 (ofl [me, (q : Int)]) w' hrl2 (ofl_lt _); rw [hin] at this; exact this)
      generalize mem r2 (q : Int) = mq at *
      obtain ⟨lq, hlq⟩ : ∃ lq, ofl [me, (q : Int)] = lq := ⟨_, rfl⟩
      rw [hlq] at HINN
      have HLQ := Lib.hid hlq
      clear hlq
      clear RB RC hr1 hin hrl hrl2
      have hoo : (o != o) = false := by cases o <;> rfl
      have hmm : (mq != mq) = false := by cases mq <;> rfl
      go_wp2_with fail
      refine HR1.mono ?_
      rintro e w11 ⟨rfl, B11⟩
      have D11 := D10.later B11
      have HR2 := HRF.out w11 D11.f
      have HM := HM1.out w11
      go_wp2_with fail
      refine HM.mono ?_
      rintro e w' ⟨rfl, rfl⟩
      clear HM B11
      go_wp2_with fail
      refine HR2.mono ?_
      rintro e w12 ⟨rfl, B12⟩
      have D12 := D11.later B12
      have HR3 := HRF.out w12 D12.f
      have HM := HM2.out w12
      clear B12 HR2 D11
      go_wp2_with fail
      refine HM.mono ?_
      rintro e w' ⟨rfl, rfl⟩
      clear HM
      go_wp2_with fail
      refine HR3.mono ?_
      rintro e w13 ⟨rfl, B13⟩
      have D13 := D12.later B13
      have B14 := ((Grw.refl w13).alloc (.cells #[.int .i64 me, .int .i64 (q : Int)] 3)).below
      have D14 := Lib.hid (HF.out _ (D13.later B14))
      have HO : Calls Try.prog 23 #[.slice (some ⟨w13.heap.size, 0, none⟩) 2 2] (w13.alloc (.cells #[.int .i64 me, .int .i64 (q : Int)] 3)) fun e w'' => e = .returned (.int .u64 (lq : Int)) ∧ (w13.alloc (.cells #[.int .i64 me, .int .i64 (q : Int)] 3)) = w'' := by rw [← HLQ.out]; exact of_any (some ⟨w13.heap.size, 0, none⟩) 2 2 [me, (q : Int)] _ (InI.two w13 me (q : Int) m0 m1 (by omega) (by omega)) (by decide)
      clear B13 B14 HR3 D12 D13
      go_wp2_with fail
      refine HO.mono ?_
      rintro e w' ⟨rfl, rfl⟩
      have HI2 := HINN.out (w13.alloc (.cells #[.int .i64 me, .int .i64 (q : Int)] 3))
      clear HO
      go_wp2_with fail
      refine HI2.mono ?_
      rintro e w' ⟨rfl, rfl⟩
      clear HI2 HR1 HRF HM1 HM2 HINN
      go_wp2
      go_roundw
      case rel => exact ⟨i + 1, E5, F5, by omega, by go_num, D14.out.1, D14.out.2.1, D14.out.2.2.1, HC.out, HME.out, D14.out.2.2.2⟩
      case measure => simp [intOf]; omega
    · have HLL := Lib.hid L
      clear L A B I
      go_wp2
      go_ret
      exact ⟨rfl, HLL.out⟩
theorem walk_HeardApart {w : World} (me : Int) (wm : (Lit.int .i64 me).wf = true) (n : Int) (wn : (Lit.int .i64 n).wf = true) (ao : Option Addr) (len cap : Nat) (l : List HA) (hl : Lst encH 8 w ao len l ∧ len ≤ maxLen ∧ ∀ m ∈ l, m.ok) (Q : Int) (wq : (Lit.int .i64 Q).wf = true) :
    Calls Try.prog 5 #[.int .i64 me, .int .i64 n, .slice ao len cap, .int .i64 Q] w fun e w' => e = .returned (.bool true) ∧ Below w.heap.size w w' := by
  have b0 := Go.bounds_i64 wm
  have b1 := Go.bounds_i64 wn
  have b2 := Go.bounds_i64 wq
  exact full_HeardApart me n Q (by omega) (by omega) (by omega) (by omega) (by omega) (by omega) ao len cap l w hl.1 hl.2.1 hl.2.2
end Go.Proofs.Ytcjbjcojmjfmaaa
