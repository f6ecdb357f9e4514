/- The walk of 'HeardEpoch'. -/
import Derived.Test.YtcjbjcojmjfmaaaEarOpen
set_option linter.unusedVariables false
set_option linter.unusedSimpArgs false
namespace Go.Proofs.Ytcjbjcojmjfmaaa
open Go.RowKit Go.Sort

def stepP (E : Er) (a : HA) : Er := if a.kind = 3 then forgetE E a.s else beatE E a.p a.b
theorem ok_stepP {E : Er} (h : E.ok) (a : HA) (ha : a.ok) : (stepP E a).ok := by
  unfold stepP
  split
  · exact ok_forget h _
  · exact ok_beat h _ _ ha.b
def isB (b : Bt) (B : Nat) : Bool := decide (b.ep = B) || (decide (b.ce = B) || decide (b.pe = B))
def fndK (E : Er) (B : Nat) : Nat → Bool
  | 0 => decide (B = 0)
  | k + 1 => fndK E B k || (ofO E k && isB (ofB E k) B)
theorem fndK_le (E : Er) (B : Nat) : ∀ k, decide (B = 0) = true → fndK E B k = true
  | 0, h => h
  | k + 1, h => by unfold fndK; rw [fndK_le E B k h]; rfl
theorem fndK_at (E : Er) (B p : Nat) (h : (ofO E p && isB (ofB E p) B) = true) : ∀ k, p < k → fndK E B k = true
  | 0, hk => by omega
  | k + 1, hk => by
    unfold fndK
    by_cases e : p = k
    · subst e; rw [h]; simp
    · rw [fndK_at E B p h k (by omega)]; rfl
theorem fndK_all {E : Er} (h : E.ok) : fndK E (epochE E) 64 = true := by
  rcases epochK_at E 64 with h0 | ⟨p, hp, h1⟩
  · exact fndK_le E _ 64 (by unfold epochE; rw [h0]; rfl)
  · obtain ⟨e1, e2⟩ := mem_at h p hp
    cases ht : (E.recs p).told with
    | true =>
      refine fndK_at E _ p ?_ 64 hp
      rw [e1, e2, ht]
      unfold isB epochE
      simp
      exact h1
    | false =>
      have hb := (h.rc p).none ht
      refine fndK_le E _ 64 ?_
      rw [hb] at h1
      unfold epochE
      simp [bt0] at h1 ⊢
      exact h1.symm
theorem of_le {E : Er} (h : E.ok) (p : Nat) (hp : p < 64) : (ofB E p).ce ≤ epochE E ∧ (ofB E p).pe ≤ epochE E ∧ (ofB E p).ep ≤ epochE E := by
  rw [(mem_at h p hp).1]
  exact epochK_ge E p 64 hp
theorem hlst_at {w : World} {b o : Nat} {l : List HA} (h : RowAt encH 8 w b o l) (k : Nat) (a : HA) (hk : l[k]? = some a) :
    w.cell? ⟨b, o + k * 8, none⟩ = some (.int .i64 a.kind) ∧ w.cell? ⟨b, o + k * 8 + 1, none⟩ = some (.int .i64 a.p) ∧ w.cell? ⟨b, o + k * 8 + 2, none⟩ = some (.int .u64 (a.b.ce : Int)) ∧ w.cell? ⟨b, o + k * 8 + 3, none⟩ = some (.int .i64 a.b.cr) ∧ w.cell? ⟨b, o + k * 8 + 4, none⟩ = some (.int .u64 (a.b.pe : Int)) ∧
    w.cell? ⟨b, o + k * 8 + 5, none⟩ = some (.int .i64 a.b.pr) ∧ w.cell? ⟨b, o + k * 8 + 6, none⟩ = some (.int .u64 (a.b.ep : Int)) ∧ w.cell? ⟨b, o + k * 8 + 7, none⟩ = some (.int .u64 (a.s : Int)) :=
  ⟨h k a hk 0 _ rfl, h k a hk 1 _ rfl, h k a hk 2 _ rfl, h k a hk 3 _ rfl, h k a hk 4 _ rfl, h k a hk 5 _ rfl, h k a hk 6 _ rfl, h k a hk 7 _ rfl⟩
/-- An act's block. -/
def HaB (w : World) (g : Nat) (a : HA) : Prop := Own w g 35 #[.int .i64 a.kind, .int .i64 a.p, .int .u64 (a.b.ce : Int), .int .i64 a.b.cr, .int .u64 (a.b.pe : Int), .int .i64 a.b.pr, .int .u64 (a.b.ep : Int), .int .u64 (a.s : Int)]
theorem HaB.own {w : World} {g : Nat} {a : HA} (h : HaB w g a) : Own w g 35 #[.int .i64 a.kind, .int .i64 a.p, .int .u64 (a.b.ce : Int), .int .i64 a.b.cr, .int .u64 (a.b.pe : Int), .int .i64 a.b.pr, .int .u64 (a.b.ep : Int), .int .u64 (a.s : Int)] := h
theorem HaB.new (w : World) (a : HA) : HaB (w.alloc (.cells #[.int .i64 a.kind, .int .i64 a.p, .int .u64 (a.b.ce : Int), .int .i64 a.b.cr, .int .u64 (a.b.pe : Int), .int .i64 a.b.pr, .int .u64 (a.b.ep : Int), .int .u64 (a.s : Int)] 35)) w.heap.size a := Own.new w _ _
theorem HaB.lt {w : World} {g : Nat} {a : HA} (h : HaB w g a) : g < w.heap.size := h.own.lt
theorem HaB.below {w w' : World} {g : Nat} {a : HA} (h : HaB w g a) (hb : Below w.heap.size w w') : HaB w' g a := (hb.block g h.lt).trans h
theorem HaB.grown {w w' : World} {g : Nat} {a : HA} {o : Option Nat} (h : HaB w g a) (hb : w.grownBy w' o) (hk : some g ≠ o) : HaB w' g a := (hb.block g h.lt hk).trans h

set_option maxHeartbeats 4000000 in
set_option maxRecDepth 100000 in
theorem full_HeardEpoch (me n : Int) (m0 : -9223372036854775808 ≤ me) (m1 : me ≤ 9223372036854775807) (n0 : -9223372036854775808 ≤ n) (n1 : n ≤ 9223372036854775807)
    (ao : Option Addr) (len cap : Nat) (l : List HA) (w : World) (hl : Lst encH 8 w ao len l) (hle : len ≤ maxLen) (hok : ∀ m ∈ l, m.ok) :
    Calls Try.prog 6 #[.int .i64 me, .int .i64 n, .slice ao len cap] w fun e w' => e = .returned (.bool true) ∧ Below w.heap.size w w' := by
  have hlen := hl.size
  have HL := Lib.hid hl
  have HOK := Lib.hid hok
  clear hl hok
  unfold maxLen at hle
  by_cases h6 : (100 : Int) < (len : Int)
  · go_enter Try.func6, Try.ntmps6
    go_wp2_with (go_at_call 7; refine (eawake _).mono ?_; rintro e w1 ⟨rfl, L1⟩)
    go_ret
    exact ⟨rfl, L1⟩
  have d6 : decide ((100 : Int) < (len : Int)) = false := by simp; omega
  go_enter Try.func6, Try.ntmps6
  go_wp2_with fail
  refine (eawake _).mono ?_
  rintro e w1 ⟨rfl, L1⟩
  have HNW := enew me n 3 w1 m0 m1 n0 n1 (by decide) (by decide)
  go_wp2_with fail
  refine HNW.mono ?_
  rintro e w2 ⟨rfl, A2, L2'⟩
  have L2 := L1.trans (L2'.mono L1.size)
  have hgw : w.heap.size ≤ w1.heap.size + 1 := by have := L1.size; omega
  generalize earN me n 3 = E2 at *
  clear HNW L1 L2'
  generalize w1.heap.size + 1 = g at *
  go_wp2
  go_loopw [8] (fun si wr => ∃ (i : Nat) (E : Er), i ≤ len ∧ si = .int .i64 i ∧ EarAt wr g E ∧ Below w.heap.size w wr) (fun si _ => len - (intOf si).toNat)
  case atStart => exact ⟨0, E2, Nat.zero_le _, rfl, A2, L2⟩
  case round =>
    obtain ⟨i, E, hi, rfl, A, L⟩ := hrel
    clear A2 L2
    by_cases hlt : i < len
    · have hil : i < l.length := by rw [hlen]; exact hlt
      obtain ⟨b, o, rfl, R⟩ := (HL.out.below L).src (by omega)
      have hx := List.getElem?_eq_getElem hil
      have ha := HOK.out _ (List.getElem_mem hil)
      generalize l[i] = a at hx ha
      obtain ⟨c0, c1, c2, c3, c4, c5, c6, c7⟩ := hlst_at R i a hx
      clear R hx hil
      go_upto_region 10 with fail
      have B4 := ((Grw.refl wr).alloc (.cells #[.int .i64 a.kind, .int .i64 a.p, .int .u64 (a.b.ce : Int), .int .i64 a.b.cr, .int .u64 (a.b.pe : Int), .int .i64 a.b.pr, .int .u64 (a.b.ep : Int), .int .u64 (a.s : Int)] 35)).below
      have A4 := A.below B4
      have H4 := HaB.new wr a
      have L4 := L.trans (B4.mono L.size)
      clear A L B4 c0 c1 c2 c3 c4 c5 c6 c7
      generalize wr.alloc (.cells #[.int .i64 a.kind, .int .i64 a.p, .int .u64 (a.b.ce : Int), .int .i64 a.b.cr, .int .u64 (a.b.pe : Int), .int .i64 a.b.pr, .int .u64 (a.b.ep : Int), .int .u64 (a.s : Int)] 35) = w4 at *
      generalize wr.heap.size = q at *
      have c0 := H4.own.at_ 0 _ rfl
      have c1 := H4.own.at_ 1 _ rfl
      have c2 := H4.own.at_ 2 _ rfl
      have c3 := H4.own.at_ 3 _ rfl
      have c4 := H4.own.at_ 4 _ rfl
      have c5 := H4.own.at_ 5 _ rfl
      have c6 := H4.own.at_ 6 _ rfl
      have c7 := H4.own.at_ 7 _ rfl
      clear H4
      have key : ∀ w5 F, Eared w4 w5 g F → (EarAt w5 g F ∧ Below w.heap.size w w5) := fun w5 F h => ⟨h.at_, Eared.later L4 h hgw⟩
      have key := Lib.hid key
      by_cases hk3 : a.kind = 3
      · have hd3 : (a.kind == 3) = true := by simp [hk3]
        have HX := Lib.hid (show stepP E a = forgetE E a.s by unfold stepP; rw [if_pos hk3])
        have HF := eforget A4 a.s ha.s
        rw [← HX.out] at HF
        have hFok := Lib.hid (ok_stepP A4.ok a ha)
        clear hk3 A4 L4
        generalize stepP E a = F at *
        go_upto_region 13 with (go_at_call 13; refine HF.mono ?_; rintro e w5 ⟨rfl, A5⟩)
        obtain ⟨A5, L5⟩ := key.out _ _ A5
        clear HF c0 c1 c2 c3 c4 c5 c6 c7 HX
        have HE := eepoch A5
        have HALL : Hid (∀ k, k = 64 → fndK F (epochE F) k = true) := Lib.hid (fun k e => by rw [e]; exact fndK_all hFok.out)
        have HLE := Lib.hid (fun p (hp : p < 64) => of_le hFok.out p hp)
        generalize epochE F = B at *
        have HB0 := Lib.hid (show ((B : Int) == 0) = fndK F B 0 by unfold fndK; rw [Bool.eq_iff_iff]; simp)
        go_wp2_with fail
        refine HE.mono ?_
        rintro e w6 ⟨rfl, B6⟩
        have A6 := A5.below B6
        have L6 := L5.trans (B6.mono L5.size)
        clear HE A5 L5 B6
        go_wp2
        go_loopw [11, 12] (fun sf sp wr => ∃ k : Nat, k ≤ 64 ∧ sp = .int .i64 k ∧ sf = .bool (fndK F B k) ∧ EarAt wr g F ∧ Below w.heap.size w wr) (fun _ sp _ => 64 - (intOf sp).toNat)
        case atStart => exact ⟨0, Nat.zero_le _, rfl, by rw [HB0.out], A6, L6⟩
        case round =>
          obtain ⟨k, hk, rfl, rfl, A, L⟩ := hrel
          clear A6 L6
          by_cases hlt : k < 64
          · have HOF := eof A (k : Int) (by omega) (by omega)
            obtain ⟨v1, v2, v3⟩ := HLE.out k hlt
            have HFN : fndK F B (k + 1) = (fndK F B k || (ofO F k && isB (ofB F k) B)) := rfl
            generalize ofB F k = bt at *
            generalize ofO F k = o at *
            generalize fndK F B k = f at *
            have HFN := HFN
            go_upto_region 19 with (first | (go_at_call 14; refine HOF.mono ?_; rintro e w7 ⟨rfl, B7⟩) | (refine store_bt rfl (.tmp 13) (.tmp 58) rfl w7.heap.size bt rfl rfl (BtB.zero w7) ?_))
            (try simp only [Act.put])
            obtain ⟨RB, LB⟩ := btb_put w7 bt
            have AV := Lib.hid ((A.below B7).below LB)
            have LV := Lib.hid (L.trans ((B7.trans (LB.mono B7.size)).mono L.size))
            clear LB B7 HOF A L
            generalize ((w7.alloc (.cells #[.int .u64 0, .int .i64 0, .int .u64 0, .int .i64 0, .int .u64 0] 33)).setRow w7.heap.size #[.int .u64 (bt.ce : Int), .int .i64 bt.cr, .int .u64 (bt.pe : Int), .int .i64 bt.pr, .int .u64 (bt.ep : Int)]) = V at *
            generalize w7.heap.size = bb at *
            have d0 := RB.d0
            have d2 := RB.d2
            have d4 := RB.d4
            clear RB
            have z1 : decide (B < bt.ep) = false := by simp; omega
            have z2 : decide (B < bt.ce) = false := by simp; omega
            have z3 : decide (B < bt.pe) = false := by simp; omega
            cases o
            · cases f
              · have HZ := Lib.hid (HFN.trans (by rfl))
                clear HFN
                go_wp2
                go_roundw
                case rel => exact ⟨k + 1, by omega, by go_num, by rw [HZ.out]; rfl, AV.out, LV.out⟩
                case measure => simp [intOf]; omega
              · have HZ := Lib.hid (HFN.trans (by rfl))
                clear HFN
                go_wp2
                go_roundw
                case rel => exact ⟨k + 1, by omega, by go_num, by rw [HZ.out]; rfl, AV.out, LV.out⟩
                case measure => simp [intOf]; omega
            · cases f
              · by_cases e1 : bt.ep = B
                · have q1 : ((bt.ep : Int) == (B : Int)) = true := by simp; omega
                  have hx : isB bt B = true := by unfold isB; rw [decide_eq_true e1]; rfl
                  clear e1
                  have HZ := Lib.hid (HFN.trans (by rw [hx]))
                  clear HFN hx
                  go_wp2
                  go_roundw
                  case rel => exact ⟨k + 1, by omega, by go_num, by rw [HZ.out]; rfl, AV.out, LV.out⟩
                  case measure => simp [intOf]; omega
                · have q1 : ((bt.ep : Int) == (B : Int)) = false := by simp; omega
                  by_cases e2 : bt.ce = B
                  · have q2 : ((bt.ce : Int) == (B : Int)) = true := by simp; omega
                    have hx : isB bt B = true := by unfold isB; rw [decide_eq_true e2]; simp
                    clear e1 e2
                    have HZ := Lib.hid (HFN.trans (by rw [hx]))
                    clear HFN hx
                    go_wp2
                    go_roundw
                    case rel => exact ⟨k + 1, by omega, by go_num, by rw [HZ.out]; rfl, AV.out, LV.out⟩
                    case measure => simp [intOf]; omega
                  · have q2 : ((bt.ce : Int) == (B : Int)) = false := by simp; omega
                    by_cases e3 : bt.pe = B
                    · have q3 : ((bt.pe : Int) == (B : Int)) = true := by simp; omega
                      have hx : isB bt B = true := by unfold isB; rw [decide_eq_true e3]; simp
                      clear e1 e2 e3
                      have HZ := Lib.hid (HFN.trans (by rw [hx]))
                      clear HFN hx
                      go_wp2
                      go_roundw
                      case rel => exact ⟨k + 1, by omega, by go_num, by rw [HZ.out]; rfl, AV.out, LV.out⟩
                      case measure => simp [intOf]; omega
                    · have q3 : ((bt.pe : Int) == (B : Int)) = false := by simp; omega
                      have hx : isB bt B = false := by unfold isB; rw [decide_eq_false e1, decide_eq_false e2, decide_eq_false e3]; rfl
                      clear e1 e2 e3
                      have HZ := Lib.hid (HFN.trans (by rw [hx]))
                      clear HFN hx
                      go_wp2
                      go_roundw
                      case rel => exact ⟨k + 1, by omega, by go_num, by rw [HZ.out]; rfl, AV.out, LV.out⟩
                      case measure => simp [intOf]; omega
              · have HZ := Lib.hid (HFN.trans (by rfl))
                clear HFN
                go_wp2
                go_roundw
                case rel => exact ⟨k + 1, by omega, by go_num, by rw [HZ.out]; rfl, AV.out, LV.out⟩
                case measure => simp [intOf]; omega
          · have hfa := HALL.out k (by omega)
            generalize fndK F B k = f at *
            subst hfa
            have hk64 : k = 64 := by omega
            clear hk hlt HALL HLE HB0 hFok
            subst hk64
            have HA := Lib.hid A
            have HLL := Lib.hid L
            clear A L
            go_wp2
            go_roundw
            case rel => exact ⟨i + 1, F, by omega, by go_num, HA.out, HLL.out⟩
            case measure => simp [intOf]; omega
      · have hd3 : (a.kind == 3) = false := by simp [hk3]
        have HX := Lib.hid (show stepP E a = beatE E a.p a.b by unfold stepP; rw [if_neg hk3])
        have HF := ebeat A4 a.p ha.p0 ha.p1 a.b ha.b
        rw [← HX.out] at HF
        have hFok := Lib.hid (ok_stepP A4.ok a ha)
        clear hk3 A4 L4
        generalize stepP E a = F at *
        go_upto_region 13 with (go_at_call 12; refine HF.mono ?_; rintro e w5 ⟨rfl, A5⟩)
        obtain ⟨A5, L5⟩ := key.out _ _ A5
        clear HF c0 c1 c2 c3 c4 c5 c6 c7 HX
        have HE := eepoch A5
        have HALL : Hid (∀ k, k = 64 → fndK F (epochE F) k = true) := Lib.hid (fun k e => by rw [e]; exact fndK_all hFok.out)
        have HLE := Lib.hid (fun p (hp : p < 64) => of_le hFok.out p hp)
        generalize epochE F = B at *
        have HB0 := Lib.hid (show ((B : Int) == 0) = fndK F B 0 by unfold fndK; rw [Bool.eq_iff_iff]; simp)
        go_wp2_with fail
        refine HE.mono ?_
        rintro e w6 ⟨rfl, B6⟩
        have A6 := A5.below B6
        have L6 := L5.trans (B6.mono L5.size)
        clear HE A5 L5 B6
        go_wp2
        go_loopw [11, 12] (fun sf sp wr => ∃ k : Nat, k ≤ 64 ∧ sp = .int .i64 k ∧ sf = .bool (fndK F B k) ∧ EarAt wr g F ∧ Below w.heap.size w wr) (fun _ sp _ => 64 - (intOf sp).toNat)
        case atStart => exact ⟨0, Nat.zero_le _, rfl, by rw [HB0.out], A6, L6⟩
        case round =>
          obtain ⟨k, hk, rfl, rfl, A, L⟩ := hrel
          clear A6 L6
          by_cases hlt : k < 64
          · have HOF := eof A (k : Int) (by omega) (by omega)
            obtain ⟨v1, v2, v3⟩ := HLE.out k hlt
            have HFN : fndK F B (k + 1) = (fndK F B k || (ofO F k && isB (ofB F k) B)) := rfl
            generalize ofB F k = bt at *
            generalize ofO F k = o at *
            generalize fndK F B k = f at *
            have HFN := HFN
            go_upto_region 19 with (first | (go_at_call 14; refine HOF.mono ?_; rintro e w7 ⟨rfl, B7⟩) | (refine store_bt rfl (.tmp 13) (.tmp 58) rfl w7.heap.size bt rfl rfl (BtB.zero w7) ?_))
            (try simp only [Act.put])
            obtain ⟨RB, LB⟩ := btb_put w7 bt
            have AV := Lib.hid ((A.below B7).below LB)
            have LV := Lib.hid (L.trans ((B7.trans (LB.mono B7.size)).mono L.size))
            clear LB B7 HOF A L
            generalize ((w7.alloc (.cells #[.int .u64 0, .int .i64 0, .int .u64 0, .int .i64 0, .int .u64 0] 33)).setRow w7.heap.size #[.int .u64 (bt.ce : Int), .int .i64 bt.cr, .int .u64 (bt.pe : Int), .int .i64 bt.pr, .int .u64 (bt.ep : Int)]) = V at *
            generalize w7.heap.size = bb at *
            have d0 := RB.d0
            have d2 := RB.d2
            have d4 := RB.d4
            clear RB
            have z1 : decide (B < bt.ep) = false := by simp; omega
            have z2 : decide (B < bt.ce) = false := by simp; omega
            have z3 : decide (B < bt.pe) = false := by simp; omega
            cases o
            · cases f
              · have HZ := Lib.hid (HFN.trans (by rfl))
                clear HFN
                go_wp2
                go_roundw
                case rel => exact ⟨k + 1, by omega, by go_num, by rw [HZ.out]; rfl, AV.out, LV.out⟩
                case measure => simp [intOf]; omega
              · have HZ := Lib.hid (HFN.trans (by rfl))
                clear HFN
                go_wp2
                go_roundw
                case rel => exact ⟨k + 1, by omega, by go_num, by rw [HZ.out]; rfl, AV.out, LV.out⟩
                case measure => simp [intOf]; omega
            · cases f
              · by_cases e1 : bt.ep = B
                · have q1 : ((bt.ep : Int) == (B : Int)) = true := by simp; omega
                  have hx : isB bt B = true := by unfold isB; rw [decide_eq_true e1]; rfl
                  clear e1
                  have HZ := Lib.hid (HFN.trans (by rw [hx]))
                  clear HFN hx
                  go_wp2
                  go_roundw
                  case rel => exact ⟨k + 1, by omega, by go_num, by rw [HZ.out]; rfl, AV.out, LV.out⟩
                  case measure => simp [intOf]; omega
                · have q1 : ((bt.ep : Int) == (B : Int)) = false := by simp; omega
                  by_cases e2 : bt.ce = B
                  · have q2 : ((bt.ce : Int) == (B : Int)) = true := by simp; omega
                    have hx : isB bt B = true := by unfold isB; rw [decide_eq_true e2]; simp
                    clear e1 e2
                    have HZ := Lib.hid (HFN.trans (by rw [hx]))
                    clear HFN hx
                    go_wp2
                    go_roundw
                    case rel => exact ⟨k + 1, by omega, by go_num, by rw [HZ.out]; rfl, AV.out, LV.out⟩
                    case measure => simp [intOf]; omega
                  · have q2 : ((bt.ce : Int) == (B : Int)) = false := by simp; omega
                    by_cases e3 : bt.pe = B
                    · have q3 : ((bt.pe : Int) == (B : Int)) = true := by simp; omega
                      have hx : isB bt B = true := by unfold isB; rw [decide_eq_true e3]; simp
                      clear e1 e2 e3
                      have HZ := Lib.hid (HFN.trans (by rw [hx]))
                      clear HFN hx
                      go_wp2
                      go_roundw
                      case rel => exact ⟨k + 1, by omega, by go_num, by rw [HZ.out]; rfl, AV.out, LV.out⟩
                      case measure => simp [intOf]; omega
                    · have q3 : ((bt.pe : Int) == (B : Int)) = false := by simp; omega
                      have hx : isB bt B = false := by unfold isB; rw [decide_eq_false e1, decide_eq_false e2, decide_eq_false e3]; rfl
                      clear e1 e2 e3
                      have HZ := Lib.hid (HFN.trans (by rw [hx]))
                      clear HFN hx
                      go_wp2
                      go_roundw
                      case rel => exact ⟨k + 1, by omega, by go_num, by rw [HZ.out]; rfl, AV.out, LV.out⟩
                      case measure => simp [intOf]; omega
              · have HZ := Lib.hid (HFN.trans (by rfl))
                clear HFN
                go_wp2
                go_roundw
                case rel => exact ⟨k + 1, by omega, by go_num, by rw [HZ.out]; rfl, AV.out, LV.out⟩
                case measure => simp [intOf]; omega
          · have hfa := HALL.out k (by omega)
            generalize fndK F B k = f at *
            subst hfa
            have hk64 : k = 64 := by omega
            clear hk hlt HALL HLE HB0 hFok
            subst hk64
            have HA := Lib.hid A
            have HLL := Lib.hid L
            clear A L
            go_wp2
            go_roundw
            case rel => exact ⟨i + 1, F, by omega, by go_num, HA.out, HLL.out⟩
            case measure => simp [intOf]; omega
    · have HLL := Lib.hid L
      clear L A
      go_wp2
      go_ret
      exact ⟨rfl, HLL.out⟩
theorem walk_HeardEpoch {w : World} (me : Int) (wm : (Lit.int .i64 me).wf = true) (n : Int) (wn : (Lit.int .i64 n).wf = true) (ao : Option Addr) (len cap : Nat) (l : List HA) (hl : Lst encH 8 w ao len l ∧ len ≤ maxLen ∧ ∀ m ∈ l, m.ok) :
    Calls Try.prog 6 #[.int .i64 me, .int .i64 n, .slice ao len cap] w fun e w' => e = .returned (.bool true) ∧ Below w.heap.size w w' := by
  have b0 := Go.bounds_i64 wm
  have b1 := Go.bounds_i64 wn
  exact full_HeardEpoch me n (by omega) (by omega) (by omega) (by omega) ao len cap l w hl.1 hl.2.1 hl.2.2
end Go.Proofs.Ytcjbjcojmjfmaaa
