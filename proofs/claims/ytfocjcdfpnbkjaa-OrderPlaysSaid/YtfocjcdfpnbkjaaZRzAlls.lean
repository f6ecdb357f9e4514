/- The document's horizon: heard, All, Safe. (Written by gen_rz2.py.) -/
import Derived.Test.YtfocjcdfpnbkjaaZRzMaths
set_option linter.unusedVariables false
set_option maxRecDepth 100000
set_option linter.unusedSimpArgs false
namespace Go.Proofs.Ytfocjcdfpnbkjaa
open Go.RowKit Go.Sort

theorem load_rz_if {ops : Array Oper} {rest : List Oper} {o : Oper} {a : Act} {w : World} {Q : Exit → Act → World → Prop} (hw : Region.wanted o (yielded ops a.tmps) = true) (x : Operand) (ho : o.op = .load 37 x)
    (b clk oth : Nat) (s : Sl) (hx : a.eval x = .pointer (some ⟨b, 0, none⟩)) (hg : RzB w b clk oth s)
    (h : wpList Try.prog ops Q rest (a.put o.dst (.agg (rzC clk oth s).toArray)) w) : wpList Try.prog ops Q (o :: rest) a w := by
  unfold wpList
  rw [if_pos hw]
  exact .inl (wp_load_row 37 x ho b hx 37 _ _ _ hg Try.underlying37 rfl (by rw [List.size_toArray, rzC_length]; exact rz_size) h)
set_option maxHeartbeats 4000000 in
theorem rz_heard (clk oth : Nat) (s : Sl) (T : List Td) (p : Int) (w : World) (hl : Lst encD 4 w s.a s.n T) (hn : s.n ≤ 1000) (hk : ∀ t ∈ T, t.ok) (hu : UpD T p) :
    Calls Try.prog 139 #[.agg (rzC clk oth s).toArray, .int .i64 p] w fun e w' => e = .returned (.int .u64 (heardD T p : Nat)) ∧ Below w.heap.size w w' := by
  have HR := Lib.hid (RzB.new w clk oth s)
  have HG := Lib.hid ((Grw.refl w).alloc (.cells (rzC clk oth s).toArray 37)).below
  have HL := Lib.hid (Lst.below hl HG.out)
  have HK := Lib.hid hk
  have HU := Lib.hid hu
  obtain ⟨sa, sn, sc⟩ := s
  simp only at hn HL
  have HARG := rzC clk oth ⟨sa, sn, sc⟩
  clear hl hk hu HARG
  obtain ⟨C, hC⟩ : ∃ C, C = (rzC clk oth ⟨sa, sn, sc⟩).toArray := ⟨_, rfl⟩
  rw [← hC] at HR HG HL
  rw [← hC]
  have HC := Lib.hid hC
  clear hC
  go_enter Try.func139, Try.ntmps139
  go_upto_region 1 with fail
  generalize w.alloc (.cells C 37) = W at *
  obtain ⟨hb, hhb⟩ : ∃ hb, hb = w.heap.size := ⟨_, rfl⟩
  rw [← hhb] at HR
  try rw [← hhb]
  clear hhb
  obtain ⟨cT, hcT⟩ : ∃ cT, cT = cameD p T := ⟨_, rfl⟩
  have HCT := Lib.hid hcT
  clear hcT
  go_wp2
  go_loopw [5, 6] (fun bv si wr => ∃ k : Nat, k ≤ sn ∧ si = .int .i64 k ∧ bv = .int .u64 (hD p cT (T.take k) : Nat) ∧ Hid (Below W.heap.size W wr)) (fun _ si _ => sn - (intOf si).toNat)
  case atStart => exact ⟨0, Nat.zero_le _, rfl, rfl, Lib.hid (Below.refl _ _)⟩
  case round =>
    obtain ⟨k, hk, rfl, rfl, HB⟩ := hrel
    have HRB := Lib.hid (HR.out.below HB.out)
    have c65 := HRB.out.c65
    simp only at c65
    by_cases hlt : k < sn
    · obtain ⟨lb, lo, x, rfl, hx, hc⟩ := lst_atD HL.out hlt
      have d0 := cell_later HB.out (hc 0 _ rfl)
      have d1 := cell_later HB.out (hc 1 _ rfl)
      have d2 := cell_later HB.out (hc 2 _ rfl)
      have d3 := cell_later HB.out (hc 3 _ rfl)
      rw [Nat.add_zero] at d0
      have hok := (HK.out x (List.mem_of_getElem? hx)).k
      have HT := Lib.hid (take_snoc hx)
      have HX := Lib.hid hx
      obtain ⟨c0, hc0⟩ : ∃ c0, c0 = hD p cT (T.take k) := ⟨_, rfl⟩
      rw [← hc0]
      have HC0 := Lib.hid hc0
      obtain ⟨xk, xp, xq, xs⟩ := x
      simp only at d0 d1 d2 d3 hok
      have hBa := ((Grw.refl wr).alloc (.cells #[.int .i64 xk, .int .i64 xp, .int .u32 (xq : Int), .int .u64 (xs : Int)] 130)).below
      have HB2 := Lib.hid (HB.out.trans (hBa.mono HB.out.size))
      clear hc hx hc0
      by_cases hp : xp = p
      · subst hp
        rcases hok with rfl | rfl | rfl
        · have HQ : Hid (hD xp cT (T.take (k + 1)) = max c0 xs) := Lib.hid (by rw [HT.out, hD_snoc, if_pos ⟨rfl, .inl rfl⟩, HC0.out])
          by_cases hgt : c0 < xs
          · have hgt' : (c0 : Int) < (xs : Int) := by omega
            have HM : Hid (max c0 xs = xs) := Lib.hid (by omega)
            go_wp2
            go_roundw
            case rel => exact ⟨k + 1, by omega, by go_num, by rw [HQ.out, HM.out], HB2⟩
            case measure => simp [intOf]; omega
          · have hgt' : ¬ (c0 : Int) < (xs : Int) := by omega
            have HM : Hid (max c0 xs = c0) := Lib.hid (by omega)
            go_wp2
            go_roundw
            case rel => exact ⟨k + 1, by omega, by go_num, by rw [HQ.out, HM.out], HB2⟩
            case measure => simp [intOf]; omega
        · by_cases hgt : c0 < xs
          · have hgt' : (c0 : Int) < (xs : Int) := by omega
            have PC := rz_counts clk oth ⟨some ⟨lb, lo, none⟩, sn, sc⟩ T xp k _ (Lst.below (Lst.below HL.out HB.out) hBa) hn hlt HK.out
            rw [← HC.out] at PC
            have HW := Lib.hid (RzB.below HRB.out hBa)
            have HBA := Lib.hid hBa
            have HV := Own.new wr 130 #[.int .i64 1, .int .i64 xp, .int .u32 (xq : Int), .int .u64 (xs : Int)]
            have HVV := Lib.hid HV
            clear hBa HV
            go_wp2_with (first | (refine load_rz_if (by kernel_rfl) (.tmp 2) rfl hb clk oth ⟨some ⟨lb, lo, none⟩, sn, sc⟩ rfl HW.out ?_; rw [← HC.out]) | fail)
            with_reducible refine PC.mono ?_
            rintro e w4 ⟨bb, rfl, hbb, hB4⟩
            have HB4 := Lib.hid (HB2.out.trans (hB4.mono HB2.out.size))
            have v3 := (HVV.out.below hB4 HVV.out.lt).at_ 3 _ rfl
            have HCN := Lib.hid (hbb.trans (HU.out k _ HX.out rfl rfl))
            clear PC hbb hB4 HVV
            cases bb with
            | true =>
              have hcn : xq ≤ cT := by have := HCN.out.1 rfl; rw [HCT.out]; exact this
              have HQ : Hid (hD xp cT (T.take (k + 1)) = xs) := Lib.hid (by rw [HT.out, hD_snoc, if_pos ⟨rfl, .inr ⟨rfl, hcn⟩⟩, ← HC0.out]; show max c0 xs = xs; omega)
              go_wp2
              go_roundw
              case rel => exact ⟨k + 1, by omega, by go_num, by rw [HQ.out], HB4⟩
              case measure => simp [intOf]; omega
            | false =>
              have hcn : ¬ xq ≤ cT := fun e => by have := HCN.out.2 (by rw [HCT.out] at e; exact e); cases this
              have HQ : Hid (hD xp cT (T.take (k + 1)) = c0) := Lib.hid (by
                rw [HT.out, hD_snoc, if_neg (fun e => by
                  rcases e.2 with e | e
                  · exact absurd (show (1 : Int) = 0 from e) (by decide)
                  · exact hcn e.2), ← HC0.out])
              go_wp2
              go_roundw
              case rel => exact ⟨k + 1, by omega, by go_num, by rw [HQ.out], HB4⟩
              case measure => simp [intOf]; omega
          · have hgt' : ¬ (c0 : Int) < (xs : Int) := by omega
            have HQ : Hid (hD xp cT (T.take (k + 1)) = c0) := Lib.hid (by rw [HT.out, hD_snoc, ← HC0.out]; split <;> (try rfl); show max c0 xs = c0; omega)
            go_wp2
            go_roundw
            case rel => exact ⟨k + 1, by omega, by go_num, by rw [HQ.out], HB2⟩
            case measure => simp [intOf]; omega
        · have HQ : Hid (hD xp cT (T.take (k + 1)) = c0) := Lib.hid (by
            rw [HT.out, hD_snoc, if_neg (fun e => by
              rcases e.2 with e | e
              · exact absurd (show (2 : Int) = 0 from e) (by decide)
              · exact absurd (show (2 : Int) = 1 from e.1) (by decide)), ← HC0.out])
          go_wp2
          go_roundw
          case rel => exact ⟨k + 1, by omega, by go_num, by rw [HQ.out], HB2⟩
          case measure => simp [intOf]; omega
      · have HQ : Hid (hD p cT (T.take (k + 1)) = c0) := Lib.hid (by rw [HT.out, hD_snoc, if_neg (fun e => hp e.1), ← HC0.out])
        go_wp2
        go_roundw
        case rel => exact ⟨k + 1, by omega, by go_num, by rw [HQ.out], HB2⟩
        case measure => simp [intOf]; omega
    · obtain rfl : k = sn := by omega
      have HF : Hid (hD p cT (T.take k) = heardD T p) := Lib.hid (by rw [List.take_of_length_le (by rw [HL.out.size]; exact Nat.le_refl _), HCT.out]; rfl)
      rw [HF.out]
      obtain ⟨c0, hc0⟩ : ∃ c0, c0 = heardD T p := ⟨_, rfl⟩
      rw [← hc0]
      have HC0 := Lib.hid hc0
      clear hc0
      go_wp2
      go_ret
      exact ⟨by rw [← HC0.out]; rfl, HG.out.trans (HB.out.mono HG.out.size)⟩
end Go.Proofs.Ytfocjcdfpnbkjaa

/- The document's horizon: All, Safe. (Written by gen_rz3.py.) -/
set_option linter.unusedVariables false
set_option maxRecDepth 100000
set_option linter.unusedSimpArgs false
namespace Go.Proofs.Ytfocjcdfpnbkjaa
open Go.RowKit Go.Sort

set_option maxHeartbeats 4000000 in
theorem rz_all (clk oth : Nat) (s : Sl) (T : List Td) (w : World) (hl : Lst encD 4 w s.a s.n T) (hn : s.n ≤ 1000) (hk : ∀ t ∈ T, t.ok) (hu : ∀ p : Nat, p < 64 → UpD T (p : Int)) :
    Calls Try.prog 111 #[.agg (rzC clk oth s).toArray] w fun e w' => e = .returned (.int .u64 (allD oth clk T : Nat)) ∧ Below w.heap.size w w' := by
  have HR := Lib.hid (RzB.new w clk oth s)
  have HG := Lib.hid ((Grw.refl w).alloc (.cells (rzC clk oth s).toArray 37)).below
  have HL := Lib.hid (Lst.below hl HG.out)
  have HK := Lib.hid hk
  have HU := Lib.hid hu
  clear hl hk hu
  obtain ⟨C, hC⟩ : ∃ C, C = (rzC clk oth s).toArray := ⟨_, rfl⟩
  rw [← hC] at HR HG HL
  rw [← hC]
  have HC := Lib.hid hC
  clear hC
  go_enter Try.func111, Try.ntmps111
  go_upto_region 1 with fail
  generalize w.alloc (.cells C 37) = W at *
  obtain ⟨hb, hhb⟩ : ∃ hb, hb = w.heap.size := ⟨_, rfl⟩
  rw [← hhb] at HR
  try rw [← hhb]
  clear hhb
  have c0 := HR.out.c0
  obtain ⟨f, hf⟩ : ∃ f : Nat → Nat, f = fun (p : Nat) => heardD T (p : Int) := ⟨_, rfl⟩
  have HF := Lib.hid (fun p : Nat => congrFun hf p)
  have HA : Hid (∀ k, 64 ≤ k → k ≤ 64 → leastK oth f clk k = allD oth clk T) := Lib.hid fun k h1 h2 => by rw [leastN_at _ _ _ _ h1 h2, hf]; rfl
  clear hf
  go_wp2
  go_loopw [3, 4] (fun nv pv wr => ∃ k : Nat, k ≤ 64 ∧ pv = .int .i64 k ∧ nv = .int .u64 (leastK oth f clk k : Nat) ∧ Hid (Below W.heap.size W wr)) (fun _ pv _ => 64 - (intOf pv).toNat)
  case atStart => exact ⟨0, Nat.zero_le _, rfl, rfl, Lib.hid (Below.refl _ _)⟩
  case round =>
    clear c0
    obtain ⟨k, hk, rfl, rfl, HB⟩ := hrel
    have HRB := Lib.hid (HR.out.below HB.out)
    by_cases hlt : k < 64
    · have hk' : (k : Int) < 64 := by omega
      have cp := HRB.out.cp k hlt
      obtain ⟨m, hm⟩ : ∃ m, m = leastK oth f clk k := ⟨_, rfl⟩
      rw [← hm]
      have HM := Lib.hid hm
      clear hm
      cases hbit : oth.testBit k with
      | false =>
        rw [hbit] at cp
        have HQ : Hid (leastK oth f clk (k + 1) = m) := Lib.hid (by rw [leastK_no _ _ _ _ hbit, HM.out])
        go_wp2
        go_roundw
        case rel => exact ⟨k + 1, by omega, by go_num, by rw [HQ.out], HB⟩
        case measure => simp [intOf]; omega
      | true =>
        rw [hbit] at cp
        have HQ : Hid (leastK oth f clk (k + 1) = min m (heardD T (k : Int))) := Lib.hid (by rw [leastK_yes _ _ _ _ hbit, HM.out, HF.out k])
        have PC := rz_heard clk oth s T (k : Int) wr (Lst.below HL.out HB.out) hn HK.out (HU.out k hlt)
        obtain ⟨h, hh⟩ : ∃ h, h = heardD T (k : Int) := ⟨_, rfl⟩
        rw [← hh] at PC HQ
        have HH := Lib.hid hh
        clear hh
        rw [← HC.out] at PC
        go_wp2_with (first | (refine load_rz_if (by kernel_rfl) (.tmp 1) rfl hb clk oth s rfl HRB.out ?_; rw [← HC.out]) | fail)
        with_reducible refine PC.mono ?_
        rintro e w4 ⟨rfl, hB4⟩
        have HB4 := Lib.hid (HB.out.trans (hB4.mono HB.out.size))
        clear PC hB4
        by_cases hgt : h < m
        · have hgt' : (h : Int) < (m : Int) := by omega
          have HN : Hid (min m h = h) := Lib.hid (by omega)
          have HRB4 := Lib.hid (HR.out.below HB4.out)
          have PC := rz_heard clk oth s T (k : Int) w4 (Lst.below HL.out HB4.out) hn HK.out (HU.out k hlt)
          rw [← HH.out, ← HC.out] at PC
          go_wp2_with (first | (refine load_rz rfl (.tmp 1) rfl hb clk oth s rfl HRB4.out ?_; rw [← HC.out]) | fail)
          with_reducible refine PC.mono ?_
          rintro e w5 ⟨rfl, hB5⟩
          have HB5 := Lib.hid (HB4.out.trans (hB5.mono HB4.out.size))
          clear PC hB5
          go_wp2
          go_roundw
          case rel => exact ⟨k + 1, by omega, by go_num, by rw [HQ.out, HN.out], HB5⟩
          case measure => simp [intOf]; omega
        · have hgt' : ¬ (h : Int) < (m : Int) := by omega
          have HN : Hid (min m h = m) := Lib.hid (by omega)
          go_wp2
          go_roundw
          case rel => exact ⟨k + 1, by omega, by go_num, by rw [HQ.out, HN.out], HB4⟩
          case measure => simp [intOf]; omega
    · rw [HA.out k (by omega) hk]
      obtain ⟨m, hm⟩ : ∃ m, m = allD oth clk T := ⟨_, rfl⟩
      rw [← hm]
      have HM := Lib.hid hm
      clear hm
      go_wp2
      go_ret
      exact ⟨by rw [← HM.out]; rfl, HG.out.trans (HB.out.mono HG.out.size)⟩
set_option maxHeartbeats 4000000 in
theorem rz_safe (clk oth : Nat) (s : Sl) (T : List Td) (w : World) (hl : Lst encD 4 w s.a s.n T) (hn : s.n ≤ 1000) (hk : ∀ t ∈ T, t.ok) (hu : ∀ p : Nat, p < 64 → UpD T (p : Int)) :
    Calls Try.prog 112 #[.agg (rzC clk oth s).toArray] w fun e w' => e = .returned (.int .u64 (safeD oth clk T : Nat)) ∧ Below w.heap.size w w' := by
  have HR := Lib.hid (RzB.new w clk oth s)
  have HG := Lib.hid ((Grw.refl w).alloc (.cells (rzC clk oth s).toArray 37)).below
  have HL := Lib.hid (Lst.below hl HG.out)
  have HK := Lib.hid hk
  have PC := rz_all clk oth s T (w.alloc (.cells (rzC clk oth s).toArray 37)) HL.out hn hk hu
  clear hl hk hu
  obtain ⟨C, hC⟩ : ∃ C, C = (rzC clk oth s).toArray := ⟨_, rfl⟩
  rw [← hC] at HR HG HL PC
  rw [← hC]
  have HC := Lib.hid hC
  clear hC
  obtain ⟨sa, sn, sc⟩ := s
  simp only at hn HL
  go_enter Try.func112, Try.ntmps112
  go_upto_region 1 with fail
  generalize w.alloc (.cells C 37) = W at *
  obtain ⟨hb, hhb⟩ : ∃ hb, hb = w.heap.size := ⟨_, rfl⟩
  rw [← hhb] at HR
  try rw [← hhb]
  clear hhb
  go_wp2_with (first | (refine load_rz rfl (.tmp 1) rfl hb clk oth ⟨sa, sn, sc⟩ rfl HR.out ?_; rw [← HC.out]) | fail)
  with_reducible refine PC.mono ?_
  rintro e w1 ⟨rfl, hB1⟩
  have HB1 := Lib.hid hB1
  obtain ⟨al, hal⟩ : ∃ al, al = allD oth clk T := ⟨_, rfl⟩
  rw [← hal]
  obtain ⟨f, hf⟩ : ∃ f : Nat → Nat, f = fun (p : Nat) => rD (p : Int) T := ⟨_, rfl⟩
  have HF := Lib.hid (fun p : Nat => congrFun hf p)
  have HA : Hid (∀ k, 64 ≤ k → k ≤ 64 → leastK oth f al k = safeD oth clk T) := Lib.hid fun k h1 h2 => by rw [leastN_at _ _ _ _ h1 h2, hf, hal]; rfl
  clear hf hal PC hB1
  go_wp2
  go_loopw [3, 4] (fun nv pv wr => ∃ k : Nat, k ≤ 64 ∧ pv = .int .i64 k ∧ nv = .int .u64 (leastK oth f al k : Nat) ∧ wr = w1) (fun _ pv _ => 64 - (intOf pv).toNat)
  case atStart => exact ⟨0, Nat.zero_le _, rfl, rfl, rfl⟩
  case round =>
    obtain ⟨k, hk, rfl, rfl, rfl⟩ := hrel
    have HRB := Lib.hid (HR.out.below HB1.out)
    have c65 := HRB.out.c65
    simp only at c65
    by_cases hlt : k < 64
    · have hk' : (k : Int) < 64 := by omega
      obtain ⟨m, hm⟩ : ∃ m, m = leastK oth f al k := ⟨_, rfl⟩
      rw [← hm]
      have HM := Lib.hid hm
      clear hm
      go_wp2
      go_loopw [5, 6] (fun bv iv wr2 => ∃ i : Nat, i ≤ sn ∧ iv = .int .i64 i ∧ bv = .int .u64 (rD (k : Int) (T.take i) : Nat) ∧ wr2 = wr) (fun _ iv _ => sn - (intOf iv).toNat)
      case atStart => exact ⟨0, Nat.zero_le _, rfl, rfl, rfl⟩
      case round =>
        obtain ⟨i, hi, rfl, rfl, rfl⟩ := hrel
        obtain ⟨c0, hc0⟩ : ∃ c0, c0 = rD (k : Int) (T.take i) := ⟨_, rfl⟩
        rw [← hc0]
        have HC0 := Lib.hid hc0
        clear hc0
        by_cases hil : i < sn
        · obtain ⟨lb, lo, x, rfl, hx, hc⟩ := lst_atD HL.out hil
          have d0 := cell_later HB1.out (hc 0 _ rfl)
          have d1 := cell_later HB1.out (hc 1 _ rfl)
          have d3 := cell_later HB1.out (hc 3 _ rfl)
          rw [Nat.add_zero] at d0
          have hok := (HK.out x (List.mem_of_getElem? hx)).k
          have HT := Lib.hid (take_snoc hx)
          obtain ⟨xk, xp, xq, xs⟩ := x
          simp only at d0 d1 d3 hok
          clear hc hx
          by_cases hp : xp = (k : Int)
          · subst hp
            by_cases hk2 : xk = 2
            · subst hk2
              have HQ : Hid (rD (k : Int) (T.take (i + 1)) = max c0 xs) := Lib.hid (by rw [HT.out, rD_snoc, if_pos ⟨rfl, rfl⟩, HC0.out])
              by_cases hgt : c0 < xs
              · have hgt' : (c0 : Int) < (xs : Int) := by omega
                have HM2 : Hid (max c0 xs = xs) := Lib.hid (by omega)
                go_wp2
                go_roundw
                case rel => exact ⟨i + 1, by omega, by go_num, by rw [HQ.out, HM2.out], trivial⟩
                case measure => simp [intOf]; omega
              · have hgt' : ¬ (c0 : Int) < (xs : Int) := by omega
                have HM2 : Hid (max c0 xs = c0) := Lib.hid (by omega)
                go_wp2
                go_roundw
                case rel => exact ⟨i + 1, by omega, by go_num, by rw [HQ.out, HM2.out], trivial⟩
                case measure => simp [intOf]; omega
            · have HQ : Hid (rD (k : Int) (T.take (i + 1)) = c0) := Lib.hid (by rw [HT.out, rD_snoc, if_neg (fun e => hk2 e.2), ← HC0.out])
              have hd2 : decide (xk = 2) = false := decide_eq_false hk2
              clear hok
              go_wp2
              go_roundw
              case rel => exact ⟨i + 1, by omega, by go_num, by rw [HQ.out], trivial⟩
              case measure => simp [intOf]; omega
          · have HQ : Hid (rD (k : Int) (T.take (i + 1)) = c0) := Lib.hid (by rw [HT.out, rD_snoc, if_neg (fun e => hp e.1), ← HC0.out])
            clear hok
            go_wp2
            go_roundw
            case rel => exact ⟨i + 1, by omega, by go_num, by rw [HQ.out], trivial⟩
            case measure => simp [intOf]; omega
        · obtain rfl : i = sn := by omega
          have HE : Hid (c0 = rD (k : Int) T) := Lib.hid (by rw [HC0.out, List.take_of_length_le (by rw [HL.out.size]; exact Nat.le_refl _)])
          have cp := HRB.out.cp k hlt
          clear HC0
          cases hbit : oth.testBit k with
          | false =>
            rw [hbit] at cp
            have HQ : Hid (leastK oth f al (k + 1) = m) := Lib.hid (by rw [leastK_no _ _ _ _ hbit, HM.out])
            go_wp2
            go_roundw
            case rel => exact ⟨k + 1, by omega, by go_num, by rw [HQ.out], trivial⟩
            case measure => simp [intOf]; omega
          | true =>
            rw [hbit] at cp
            have HQ : Hid (leastK oth f al (k + 1) = min m c0) := Lib.hid (by rw [leastK_yes _ _ _ _ hbit, HM.out, HF.out k, HE.out])
            by_cases hgt : c0 < m
            · have hgt' : (c0 : Int) < (m : Int) := by omega
              have HN : Hid (min m c0 = c0) := Lib.hid (by omega)
              go_wp2
              go_roundw
              case rel => exact ⟨k + 1, by omega, by go_num, by rw [HQ.out, HN.out], trivial⟩
              case measure => simp [intOf]; omega
            · have hgt' : ¬ (c0 : Int) < (m : Int) := by omega
              have HN : Hid (min m c0 = m) := Lib.hid (by omega)
              go_wp2
              go_roundw
              case rel => exact ⟨k + 1, by omega, by go_num, by rw [HQ.out, HN.out], trivial⟩
              case measure => simp [intOf]; omega
    · rw [HA.out k (by omega) hk]
      obtain ⟨m, hm⟩ : ∃ m, m = safeD oth clk T := ⟨_, rfl⟩
      rw [← hm]
      have HM := Lib.hid hm
      clear hm
      go_wp2
      go_ret
      exact ⟨by rw [← HM.out]; rfl, HG.out.trans (HB1.out.mono HG.out.size)⟩
end Go.Proofs.Ytfocjcdfpnbkjaa
