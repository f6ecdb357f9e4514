/- The document's ear: Reached, Reach. (Written by wip/gen_refear2.py.) -/
import Derived.Test.YtcjbjcojmjfmaaaRefEar
set_option linter.unusedVariables false
set_option linter.unusedSimpArgs false
namespace Go.Proofs.Ytcjbjcojmjfmaaa
open Go.RowKit Go.Sort

set_option maxHeartbeats 4000000 in
theorem rreached {w : World} {M : Rf} {ao : Option Addr} (h : RfAt w M ao) (cap : Nat) (p : Int) (p0 : -9223372036854775808 ≤ p) (p1 : p ≤ 9223372036854775807) :
    Calls Try.prog 31 #[.agg #[.int .i64 M.me, .int .i64 M.n, .int .i64 M.timeout, .int .i64 M.now, .slice ao M.all.length cap], .int .i64 p] w fun e w' => e = .returned (.bool (rreachB M p)) ∧ Below w.heap.size w w' := by
  have L1 := ((Grw.refl w).alloc (.cells #[.int .i64 M.me, .int .i64 M.n, .int .i64 M.timeout, .int .i64 M.now, .slice ao M.all.length cap] 31)).below
  have H1 := h.below L1
  have v2 : (w.alloc (.cells #[.int .i64 M.me, .int .i64 M.n, .int .i64 M.timeout, .int .i64 M.now, .slice ao M.all.length cap] 31)).cell? ⟨w.heap.size, 2, none⟩ = some (.int .i64 M.timeout) := by simp
  have v3 : (w.alloc (.cells #[.int .i64 M.me, .int .i64 M.n, .int .i64 M.timeout, .int .i64 M.now, .slice ao M.all.length cap] 31)).cell? ⟨w.heap.size, 3, none⟩ = some (.int .i64 M.now) := by simp
  have v4 : (w.alloc (.cells #[.int .i64 M.me, .int .i64 M.n, .int .i64 M.timeout, .int .i64 M.now, .slice ao M.all.length cap] 31)).cell? ⟨w.heap.size, 4, none⟩ = some (.slice ao M.all.length cap) := by simp
  have few := h.few
  have hok := Lib.hid h.ok
  have HL := Lib.hid L1
  have HH := Lib.hid H1
  have HD : Hid (rreachB M p = match rchT M.all p with | none => false | some t => decide (M.now - t ≤ M.timeout)) := Lib.hid rfl
  clear h L1 H1
  go_enter Try.func31, Try.ntmps31
  go_upto_region 1 with fail
  generalize (w.alloc (.cells #[.int .i64 M.me, .int .i64 M.n, .int .i64 M.timeout, .int .i64 M.now, .slice ao M.all.length cap] 31)) = W at *
  generalize hlen : M.all.length = len at *
  have HN := Lib.hid hlen
  clear hlen
  go_wp2
  go_loop [5] (fun si => ∃ (j : Nat) (z : Int), j ≤ len ∧ z + 1 = j ∧ si = .int .i64 z ∧ rchT M.all p = rchT (M.all.take j) p) (fun si => (intOf si + 1).toNat)
  case atStart => exact ⟨len, (len : Int) - 1, Nat.le_refl _, by omega, rfl, by rw [List.take_of_length_le (by rw [HN.out]; exact Nat.le_refl _)]⟩
  case round =>
    obtain ⟨j, z, hj, hz, rfl, hof⟩ := hrel
    have HOF := Lib.hid hof
    clear hof
    by_cases hz0 : 0 ≤ z
    · obtain ⟨m, rfl⟩ := Int.eq_ofNat_of_zero_le hz0
      obtain rfl : j = m + 1 := by omega
      have hml : m < M.all.length := by rw [HN.out]; omega
      obtain ⟨s, hs⟩ : ∃ s, M.all[m]? = some s := ⟨_, List.getElem?_eq_getElem hml⟩
      have hso := hok.out.all s (List.mem_of_getElem? hs)
      obtain ⟨b, o, rfl, R⟩ := HH.out.lst.src (by omega)
      have HRG := slst_at R m s hs
      have HT := rchT_snoc (M.all.take m) s p
      rw [← take_snoc' _ _ _ hs, ← HOF.out] at HT
      have g0 : W.cell? ⟨b, o + m * 9, none⟩ = some (.int .i64 s.p) := HRG 0 _ rfl
      have g1 : W.cell? ⟨b, o + m * 9 + 1, none⟩ = some (.int .i64 s.at_) := HRG 1 _ rfl
      have g3 : W.cell? ⟨b, o + m * 9 + 3, none⟩ = some (.bool s.gone) := HRG 3 _ rfl
      have a0 := hso.a0
      have a1 := hso.a1
      have n1 := hok.out.c1
      obtain ⟨sp, sa, sb, sg, bt⟩ := s
      simp only at g0 g1 g3 a0 a1
      unfold heardS at HT
      simp only at HT
      clear R hs HOF hml hz0 HRG hso
      by_cases hp : sp = p
      · have q0 : (sp == p) = true := by simp [hp]
        rw [decide_eq_true hp, Bool.true_and] at HT
        clear hp
        cases sg
        · have HX := Lib.hid (HT.trans (c := some sa) rfl)
          clear HT
          have hW : IntKind.i64.wrap (M.now - sa) = M.now - sa := IntWalk.i64_in _ (by omega)
          have hbd : 0 ≤ M.now - sa := by omega
          go_upto_region 5 with fail
          go_quiet (fail)
          go_wp2
          go_ret
          exact ⟨by rw [HD.out, HX.out]; rfl, HL.out.trans (((Grw.refl W).drewN _).below.mono HL.out.size)⟩
        · have HX := Lib.hid (HT.trans (c := rchT (M.all.take m) p) rfl)
          clear HT
          go_wp2
          go_round
          case rel => exact ⟨m, (m : Int) - 1, by omega, by omega, rfl, HX.out⟩
          case measure => simp [intOf] <;> omega
      · have q0 : (sp == p) = false := by simp [hp]
        rw [decide_eq_false hp, Bool.false_and] at HT
        have HX := Lib.hid (HT.trans (c := rchT (M.all.take m) p) rfl)
        clear hp HT
        go_wp2
        go_round
        case rel => exact ⟨m, (m : Int) - 1, by omega, by omega, rfl, HX.out⟩
        case measure => simp [intOf] <;> omega
    · obtain rfl : j = 0 := by omega
      have HX := Lib.hid (show rchT M.all p = none from HOF.out.trans rfl)
      clear HOF
      go_wp2
      go_ret
      exact ⟨by rw [HD.out, HX.out]; rfl, HL.out⟩

/-- Those of the first k. -/
def rsetK (f : Nat → Bool) (k : Nat) : Nat := num fun q => decide (q < k) && f q
theorem rsetK_lt (f : Nat → Bool) (k : Nat) : rsetK f k < 18446744073709551616 := num_lt _
theorem rsetK_zero (f : Nat → Bool) : rsetK f 0 = 0 := set_ext _ _ (num_lt _) (by decide) fun i hi => by unfold rsetK; rw [num_bit]; simp
theorem rsetK_all (f : Nat → Bool) : rsetK f 64 = num f := num_ext _ _ fun i hi => by simp [hi]
theorem rsetK_yes (f : Nat → Bool) (k : Nat) (hk : k < 64) (h : f k = true) : any (rsetK f k) (onl (k : Int)) = rsetK f (k + 1) := by
  refine set_ext _ _ (num_lt _) (num_lt _) fun i hi => ?_
  unfold any
  rw [num_bit, onl_bit _ _ hi]
  unfold rsetK
  rw [num_bit, num_bit]
  by_cases e : i = k
  · subst e; simp [hi, h]
  · have e1 : decide ((i : Int) = (k : Int)) = false := decide_eq_false (by omega)
    have e2 : decide (i < k + 1) = decide (i < k) := decide_eq_decide.2 (by omega)
    rw [e1, e2]; simp [hi]
theorem rsetK_no (f : Nat → Bool) (k : Nat) (h : f k = false) : rsetK f k = rsetK f (k + 1) := num_ext _ _ fun i hi => by
  by_cases e : i = k
  · subst e; simp [h]
  · have e2 : decide (i < k + 1) = decide (i < k) := decide_eq_decide.2 (by omega)
    rw [e2]
def rfB (M : Rf) (q : Nat) : Bool := decide ((q : Int) = M.me) || (othB M.me M.n q && rreachB M q)
theorem or_one (a k : Nat) (ha : a < 18446744073709551616) (hk : k < 64) : bits .or .u64 (a : Int) (IntKind.u64.wrap (2 ^ k)) = ((any a (onl (k : Int)) : Nat) : Int) := by
  have := onl_shl k
  rw [Nat.min_eq_left (by omega)] at this
  rw [this, any_eq a _ ha (onl_lt _)]

set_option maxHeartbeats 4000000 in
theorem rreach {w : World} {M : Rf} {ao : Option Addr} (h : RfAt w M ao) (cap : Nat) :
    Calls Try.prog 17 #[.agg #[.int .i64 M.me, .int .i64 M.n, .int .i64 M.timeout, .int .i64 M.now, .slice ao M.all.length cap]] w fun e w' => e = .returned (.int .u64 (rreachM M : Nat)) ∧ Below w.heap.size w w' := by
  have L1 := ((Grw.refl w).alloc (.cells #[.int .i64 M.me, .int .i64 M.n, .int .i64 M.timeout, .int .i64 M.now, .slice ao M.all.length cap] 31)).below
  have H1 := h.below L1
  have O1 := Own.new w 31 #[.int .i64 M.me, .int .i64 M.n, .int .i64 M.timeout, .int .i64 M.now, .slice ao M.all.length cap]
  have hok := Lib.hid h.ok
  have HL := Lib.hid L1
  have HH := Lib.hid H1
  have HO := Lib.hid O1
  clear h L1 H1 O1
  go_enter Try.func17, Try.ntmps17
  go_upto_region 1 with fail
  generalize (w.alloc (.cells #[.int .i64 M.me, .int .i64 M.n, .int .i64 M.timeout, .int .i64 M.now, .slice ao M.all.length cap] 31)) = W at *
  go_wp2
  go_loopw [3, 4] (fun st sp wr => ∃ k : Nat, k ≤ 64 ∧ sp = .int .i64 k ∧ st = .int .u64 (rsetK (rfB M) k : Nat) ∧ Below W.heap.size W wr) (fun _ sp _ => 64 - (intOf sp).toNat)
  case atStart => exact ⟨0, Nat.zero_le _, rfl, by rw [rsetK_zero]; rfl, Below.refl _ _⟩
  case round =>
    obtain ⟨k, hk, rfl, rfl, L⟩ := hrel
    by_cases hlt : k < 64
    · have O := HO.out.below L HO.out.lt
      have H := HH.out.below L
      have v0 := O.at_ 0 _ rfl
      have v1 := O.at_ 1 _ rfl
      have v2 := O.at_ 2 _ rfl
      have v3 := O.at_ 3 _ rfl
      have v4 := O.at_ 4 _ rfl
      have HY := Lib.hid (rsetK_yes (rfB M) k hlt)
      have HN := Lib.hid (rsetK_no (rfB M) k)
      have hll := rsetK_lt (rfB M) k
      have HOR := Lib.hid (or_one (rsetK (rfB M) k) k hll hlt)
      have HB : Hid (rfB M k = (decide ((k : Int) = M.me) || (othB M.me M.n k && rreachB M k))) := Lib.hid rfl
      have R1 := rother M hok.out ao cap (k : Int) (by omega) (by omega) wr
      have HLW := Lib.hid L
      generalize rsetK (rfB M) k = t at *
      by_cases hm : (k : Int) = M.me
      · have q0 : ((k : Int) == M.me) = true := by simp [hm]
        have HX := Lib.hid (HY.out (by rw [HB.out, decide_eq_true hm]; rfl))
        clear hm HY HN R1 L O H hll
        go_wp2
        go_roundw
        case rel => exact ⟨k + 1, by omega, by go_num, by rw [HOR.out, HX.out], HLW.out⟩
        case measure => simp [intOf] <;> omega
      · have q0 : ((k : Int) == M.me) = false := by simp [hm]
        have HB2 := Lib.hid (HB.out.trans (by rw [decide_eq_false hm, Bool.false_or]))
        have R2 : Hid (∀ w', RfAt w' M ao → Calls Try.prog 31 #[.agg #[.int .i64 M.me, .int .i64 M.n, .int .i64 M.timeout, .int .i64 M.now, .slice ao M.all.length cap], .int .i64 (k : Int)] w' fun e w'' => e = .returned (.bool (rreachB M (k : Int))) ∧ Below w'.heap.size w' w'') := Lib.hid (fun w' h => rreached h cap (k : Int) (by omega) (by omega))
        have HO2 := Lib.hid O
        have HH2 := Lib.hid H
        clear hm hll L O H HB
        generalize othB M.me M.n (k : Int) = ob at *
        generalize rreachB M (k : Int) = rb at *
        go_wp2_with fail
        refine R1.mono ?_
        rintro e w2 ⟨rfl, B2⟩
        have LW2 := Lib.hid (HLW.out.trans (B2.mono HLW.out.size))
        have O2 := HO2.out.below B2 HO2.out.lt
        have H2 := Lib.hid (HH2.out.below B2)
        clear v0 v1 v2 v3 v4 R1 B2 HO2 HH2
        cases ob
        · have HX := Lib.hid (HN.out (HB2.out.trans rfl))
          clear HY HN HB2 R2 O2
          go_wp2
          go_roundw
          case rel => exact ⟨k + 1, by omega, by go_num, by rw [HX.out], LW2.out⟩
          case measure => simp [intOf] <;> omega
        · have v0 := O2.at_ 0 _ rfl
          have v1 := O2.at_ 1 _ rfl
          have v2 := O2.at_ 2 _ rfl
          have v3 := O2.at_ 3 _ rfl
          have v4 := O2.at_ 4 _ rfl
          have R3 := R2.out w2 H2.out
          clear R2 O2
          go_wp2_with fail
          refine R3.mono ?_
          rintro e w3 ⟨rfl, B3⟩
          have LW3 := Lib.hid (LW2.out.trans (B3.mono LW2.out.size))
          clear v0 v1 v2 v3 v4 R3 B3
          cases rb
          · have HX := Lib.hid (HN.out (HB2.out.trans rfl))
            clear HY HN HB2
            go_wp2
            go_roundw
            case rel => exact ⟨k + 1, by omega, by go_num, by rw [HX.out], LW3.out⟩
            case measure => simp [intOf] <;> omega
          · have HX := Lib.hid (HY.out (HB2.out.trans rfl))
            clear HY HN HB2
            go_wp2
            go_roundw
            case rel => exact ⟨k + 1, by omega, by go_num, by rw [HOR.out, HX.out], LW3.out⟩
            case measure => simp [intOf] <;> omega
    · have HLW := Lib.hid (HL.out.trans (L.mono HL.out.size))
      clear L
      have HF := Lib.hid (show rsetK (rfB M) k = rreachM M by rw [show k = 64 by omega]; exact rsetK_all _)
      generalize rsetK (rfB M) k = t at *
      go_wp2
      go_ret
      exact ⟨by rw [← HF.out]; rfl, HLW.out⟩
end Go.Proofs.Ytcjbjcojmjfmaaa
