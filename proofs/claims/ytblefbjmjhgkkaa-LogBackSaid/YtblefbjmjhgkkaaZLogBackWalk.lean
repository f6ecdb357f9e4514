/- LogBack: the walk. (Written by wip/gen_logback.py.) -/
import Derived.Test.YtblefbjmjhgkkaaZLogSizesWalk
import Derived.Test.YtblefbjmjhgkkaaZLogParsesWalk
import Derived.Test.YtblefbjmjhgkkaaZLgBack
set_option linter.unusedVariables false
set_option maxRecDepth 100000
set_option linter.unusedSimpArgs false
namespace Go.Proofs.Ytblefbjmjhgkkaa
open Go.RowKit Go.Sort

set_option maxHeartbeats 32000000 in
theorem walk_LogBack {w : World} (z : StM) (hz : StIn w z) (y : ItM) (hy : ItIn w y) (s : ByteArray) (hs0 : s.size ≤ maxLen) :
    Calls Try.prog 4 #[valSt z, valIt y, .string s] w fun e w' => e = .returned (.bool true) ∧ Below w.heap.size w w' := by
  have S0 := SzSt.new w z y
  have hfew := hy.few
  unfold maxLen at hfew hs0
  obtain ⟨⟨ep, ic, ⟨⟨rn, re, rr, rm⟩, L⟩⟩, a, n, c⟩ := z
  obtain ⟨⟨xk, xd, xi, xh, xa, xb, ⟨⟨qn, qe, qr, qm⟩, M⟩, ⟨vn, ve, vr, vm⟩, xn, xx, xt⟩, T, b, m, d⟩ := y
  simp only at hfew
  have HZ := Lib.hid hz
  have HY := Lib.hid hy
  clear hz hy
  obtain ⟨W0, hW0⟩ : ∃ W0, W0 = (w.alloc (.cells #[.int .u64 (ep : Int), .int .u32 (ic : Int), .int .u64 (rn : Int), .int .u64 (re : Int), .int .i64 rr, .int .u64 (rm : Int), .slice a n c] 33)).alloc (.cells #[.int .i64 xk, .string T, .int .u32 (xi : Int), .int .u64 (xh : Int), .bool xa, .bool xb, .int .u64 (qn : Int), .int .u64 (qe : Int), .int .i64 qr, .int .u64 (qm : Int), .slice b m d, .int .u64 (vn : Int), .int .u64 (ve : Int), .int .i64 vr, .int .u64 (vm : Int), .int .u64 (xn : Int), .int .i64 xx, .int .i64 xt] 43) := ⟨_, rfl⟩
  have S0 : SzSt w W0 ⟨⟨ep, ic, ⟨⟨rn, re, rr, rm⟩, L⟩⟩, a, n, c⟩ ⟨⟨xk, xd, xi, xh, xa, xb, ⟨⟨qn, qe, qr, qm⟩, M⟩, ⟨vn, ve, vr, vm⟩, xn, xx, xt⟩, T, b, m, d⟩ := by rw [hW0]; exact S0
  have PA := awake19 W0
  show Calls Try.prog 4 #[.agg #[.int .u64 (ep : Int), .int .u32 (ic : Int), .int .u64 (rn : Int), .int .u64 (re : Int), .int .i64 rr, .int .u64 (rm : Int), .slice a n c], .agg #[.int .i64 xk, .string T, .int .u32 (xi : Int), .int .u64 (xh : Int), .bool xa, .bool xb, .int .u64 (qn : Int), .int .u64 (qe : Int), .int .i64 qr, .int .u64 (qm : Int), .slice b m d, .int .u64 (vn : Int), .int .u64 (ve : Int), .int .i64 vr, .int .u64 (vm : Int), .int .u64 (xn : Int), .int .i64 xx, .int .i64 xt], .string s] w _
  go_enter Try.func4, Try.ntmps4
  go_upto_region 1 with fail
  rw [← hW0]
  clear hW0
  go_wp2_with fail
  refine PA.mono ?_
  rintro e w1 ⟨rfl, L1⟩
  have S1 := S0.later L1
  clear PA S0 L1
  have c6 : w1.cell? ⟨w.heap.size, 6, none⟩ = some (.slice a n c) := S1.s.at_ 6 _ rfl
  have d10 : w1.cell? ⟨w.heap.size + 1, 10, none⟩ = some (.slice b m d) := S1.x.at_ 10 _ rfl
  have d1 : w1.cell? ⟨w.heap.size + 1, 1, none⟩ = some (.string T) := S1.x.at_ 1 _ rfl
  by_cases hn : 300 < n
  · have hi0 : (300 : Int) < (n : Int) := by omega
    have HB := Lib.hid S1.below
    clear S1
    go_wp2
    go_ret
    exact ⟨rfl, HB.out⟩
  by_cases hm : 300 < m
  · have hi0 : ¬ (300 : Int) < (n : Int) := by omega
    have hi1 : (300 : Int) < (m : Int) := by omega
    have HB := Lib.hid S1.below
    clear S1
    go_wp2
    go_ret
    exact ⟨rfl, HB.out⟩
  by_cases hT : 5000 < T.size
  · have hi0 : ¬ (300 : Int) < (n : Int) := by omega
    have hi1 : ¬ (300 : Int) < (m : Int) := by omega
    have hi2 : (5000 : Int) < (T.size : Int) := by omega
    have HB := Lib.hid S1.below
    clear S1
    go_wp2
    go_ret
    exact ⟨rfl, HB.out⟩
  by_cases hl : 5000 < s.size
  · have hi0 : ¬ (300 : Int) < (n : Int) := by omega
    have hi1 : ¬ (300 : Int) < (m : Int) := by omega
    have hi2 : ¬ (5000 : Int) < (T.size : Int) := by omega
    have hi3 : (5000 : Int) < (s.size : Int) := by omega
    have HB := Lib.hid S1.below
    clear S1
    go_wp2
    go_ret
    exact ⟨rfl, HB.out⟩
  have hi0 : ¬ (300 : Int) < (n : Int) := by omega
  have hi1 : ¬ (300 : Int) < (m : Int) := by omega
  have hi2 : ¬ (5000 : Int) < (T.size : Int) := by omega
  have hi3 : ¬ (5000 : Int) < (s.size : Int) := by omega
  have hs : s.size ≤ 1099511627776 := by omega
  have hn : n ≤ 300 := by omega
  have hm : m ≤ 300 := by omega
  have hT : T.size ≤ 5000 := by omega
  have O1 := S1.s
  have P1 := lprintS w1 ⟨ep, ic, ⟨⟨rn, re, rr, rm⟩, L⟩⟩ a n c (S1.rc HZ.out) HZ.out.ep HZ.out.inc (by omega)
  have HP1b := Lib.hid (printedS ⟨ep, ic, ⟨⟨rn, re, rr, rm⟩, L⟩⟩ HZ.out.ep HZ.out.inc HZ.out.rc.ok)
  have HPX : Hid (∀ W, SzSt w W ⟨⟨ep, ic, ⟨⟨rn, re, rr, rm⟩, L⟩⟩, a, n, c⟩ ⟨⟨xk, xd, xi, xh, xa, xb, ⟨⟨qn, qe, qr, qm⟩, M⟩, ⟨vn, ve, vr, vm⟩, xn, xx, xt⟩, T, b, m, d⟩ → Calls Try.prog 16 #[.agg (encI ⟨xk, xd, xi, xh, xa, xb, ⟨⟨qn, qe, qr, qm⟩, M⟩, ⟨vn, ve, vr, vm⟩, xn, xx, xt⟩ T b m d).toArray] W fun e w' => e = .returned (.tuple #[.string (strOf (codeI ⟨xk, xd, xi, xh, xa, xb, ⟨⟨qn, qe, qr, qm⟩, M⟩, ⟨vn, ve, vr, vm⟩, xn, xx, xt⟩) (putI ⟨xk, xd, xi, xh, xa, xb, ⟨⟨qn, qe, qr, qm⟩, M⟩, ⟨vn, ve, vr, vm⟩, xn, xx, xt⟩)), .int .i64 ((codeI ⟨xk, xd, xi, xh, xa, xb, ⟨⟨qn, qe, qr, qm⟩, M⟩, ⟨vn, ve, vr, vm⟩, xn, xx, xt⟩ : Nat) : Int)]) ∧ Below W.heap.size W w') := Lib.hid fun W hW =>
    lprintI W ⟨xk, xd, xi, xh, xa, xb, ⟨⟨qn, qe, qr, qm⟩, M⟩, ⟨vn, ve, vr, vm⟩, xn, xx, xt⟩ T b m d HY.out.text (by show T.size ≤ _; omega) HY.out.ok (HY.out.rc.below hW.below) (by show m ≤ _; omega)
  have HPi := Lib.hid (printedI ⟨xk, xd, xi, xh, xa, xb, ⟨⟨qn, qe, qr, qm⟩, M⟩, ⟨vn, ve, vr, vm⟩, xn, xx, xt⟩ HY.out.ok)
  have HPt := Lib.hid (show T.data.toList = xd from HY.out.text)
  generalize strOf (errRec ⟨⟨rn, re, rr, rm⟩, L⟩) (putS ⟨ep, ic, ⟨⟨rn, re, rr, rm⟩, L⟩⟩) = t at *
  generalize errRec ⟨⟨rn, re, rr, rm⟩, L⟩ = er at *
  generalize strOf (codeI ⟨xk, xd, xi, xh, xa, xb, ⟨⟨qn, qe, qr, qm⟩, M⟩, ⟨vn, ve, vr, vm⟩, xn, xx, xt⟩) (putI ⟨xk, xd, xi, xh, xa, xb, ⟨⟨qn, qe, qr, qm⟩, M⟩, ⟨vn, ve, vr, vm⟩, xn, xx, xt⟩) = ti at *
  generalize codeI ⟨xk, xd, xi, xh, xa, xb, ⟨⟨qn, qe, qr, qm⟩, M⟩, ⟨vn, ve, vr, vm⟩, xn, xx, xt⟩ = ci at *
  clear hfew hs0 hl
  go_wp2_with (refine load_stable rfl (.tmp 3) rfl w.heap.size rfl O1 ?_)
  refine P1.mono ?_
  rintro e w2 ⟨rfl, L2⟩
  have S2 := S1.later L2
  clear P1 O1 S1 L2 c6 d10 d1
  go_upto_if 56 with fail
  go_cut [8] (fun _ wx => SzSt w wx ⟨⟨ep, ic, ⟨⟨rn, re, rr, rm⟩, L⟩⟩, a, n, c⟩ ⟨⟨xk, xd, xi, xh, xa, xb, ⟨⟨qn, qe, qr, qm⟩, M⟩, ⟨vn, ve, vr, vm⟩, xn, xx, xt⟩, T, b, m, d⟩)
  case first =>
    as_aux_lemma =>
      by_cases h0 : er = 0
      case neg =>
        have hb : ((er : Int) == 0) = false := by rw [beq_eq_false_iff_ne]; omega
        have HS2 := Lib.hid S2
        clear S2 HPX HP1b HPt HPi
        go_wp2_with fail
        go_meet
        exact HS2.out
      have hb : ((er : Int) == 0) = true := by rw [h0]; rfl
      obtain ⟨ht1, hres⟩ := HP1b.out h0
      have P3 := formS ht1 w2
      rw [hres] at P3
      simp only at P3
      go_wp2_with fail
      refine P3.mono ?_
      rintro e w3 ⟨a3, n3, c3, rfl, hst, hk3, L3⟩
      have S3 := S2.later L3
      have R3 := hst.rc
      obtain ⟨X4, L4⟩ := boxed19 w3 33 #[.int .u64 0, .int .u32 0, .int .u64 0, .int .u64 0, .int .i64 0, .int .u64 0, .slice none 0 0] (encS ⟨ep, ic, ⟨⟨rn, re, rr, rm⟩, L⟩⟩ a3 n3 c3).toArray
      have Z3 : Own (w3.alloc (.cells #[.int .u64 0, .int .u32 0, .int .u64 0, .int .u64 0, .int .i64 0, .int .u64 0, .slice none 0 0] 33)) w3.heap.size 33 (encS zeroS none 0 0).toArray := Own.new _ _ _
      have S4 := S3.later L4
      have R4 := R3.below L4
      clear P3 hst L3 S2 S3 R3 L4 HPX HP1b HPt HPi hres ht1
      go_upto_region 8 with (refine store_stable rfl (.tmp 9) (.tmp 60) rfl w3.heap.size rfl rfl Z3 ?_)
      clear Z3
      generalize (w3.alloc (.cells #[.int .u64 0, .int .u32 0, .int .u64 0, .int .u64 0, .int .i64 0, .int .u64 0, .slice none 0 0] 33)).setRow w3.heap.size (encS ⟨ep, ic, ⟨⟨rn, re, rr, rm⟩, L⟩⟩ a3 n3 c3).toArray = w4 at *
      generalize w3.heap.size = g9 at *
      have LD := (Grw.refl w4).drew.below
      have S5 := S4.later LD
      have R5 := R4.below LD
      have X5 := X4.below LD X4.lt
      clear S4 R4 X4 LD
      refine region_til [4, 6] (fun w' => Own w' g9 33 (encS ⟨ep, ic, ⟨⟨rn, re, rr, rm⟩, L⟩⟩ a3 n3 c3).toArray ∧ Own w' w.heap.size 33 (encS ⟨ep, ic, ⟨⟨rn, re, rr, rm⟩, L⟩⟩ a n c).toArray) (by kernel_rfl) ?_
      generalize w4.drew = wd at *
      have hTil : ∀ l, tilD [4, 6] (fun w' => Own w' g9 33 (encS ⟨ep, ic, ⟨⟨rn, re, rr, rm⟩, L⟩⟩ a3 n3 c3).toArray ∧ Own w' w.heap.size 33 (encS ⟨ep, ic, ⟨⟨rn, re, rr, rm⟩, L⟩⟩ a n c).toArray) l wd := fun _ => .inr ⟨X5, S5.s⟩
      refine til_pure (i := 0) (v := .int .i64 0) 62 rfl rfl (by kernel_rfl) (by kernel_rfl) (by kernel_rfl) (by kernel_rfl) (fun _ _ _ h => h) (.inl ⟨by kernel_rfl, fun w' _ => by (go_simp)⟩) (hTil _) ?_
      (try simp only [Act.put, List.setIfInBounds_toArray, List.set_cons_zero, List.set_cons_succ])
      refine til_pure (i := 1) (v := .bool false) 63 rfl rfl (by kernel_rfl) (by kernel_rfl) (by kernel_rfl) (by kernel_rfl) (fun _ _ _ h => h) (.inl ⟨by kernel_rfl, fun w' _ => by (go_simp)⟩) (hTil _) ?_
      (try simp only [Act.put, List.setIfInBounds_toArray, List.set_cons_zero, List.set_cons_succ])
      refine til_pure (i := 2) (v := .bool false) 64 rfl rfl (by kernel_rfl) (by kernel_rfl) (by kernel_rfl) (by kernel_rfl) (fun _ _ _ h => h) (.inl ⟨by kernel_rfl, fun w' _ => by (go_simp)⟩) (hTil _) ?_
      (try simp only [Act.put, List.setIfInBounds_toArray, List.set_cons_zero, List.set_cons_succ])
      refine til_load (i := 3) (c := 4) (v := .agg (encS ⟨ep, ic, ⟨⟨rn, re, rr, rm⟩, L⟩⟩ a3 n3 c3).toArray) 65 rfl rfl (by kernel_rfl) (by kernel_rfl) (by kernel_rfl) (by kernel_rfl) rfl (by kernel_rfl) (by decide) (by kernel_rfl) (fun _ _ _ h => h) (yieldsIf_load_mid (by kernel_rfl) 33 (.tmp 9) rfl g9 0 (by kernel_rfl) (encS ⟨ep, ic, ⟨⟨rn, re, rr, rm⟩, L⟩⟩ a3 n3 c3) _ (fun w' hS => own_range hS.1) Try.underlying33 rfl stable_size) (hTil _) ?_
      (try simp only [Act.put, List.setIfInBounds_toArray, List.set_cons_zero, List.set_cons_succ])
      refine til_load (i := 5) (c := 6) (v := .agg (encS ⟨ep, ic, ⟨⟨rn, re, rr, rm⟩, L⟩⟩ a n c).toArray) 67 rfl rfl (by kernel_rfl) (by kernel_rfl) (by kernel_rfl) (by kernel_rfl) rfl (by kernel_rfl) (by decide) (by kernel_rfl) (fun _ _ _ h => h) (yieldsIf_load_mid (by kernel_rfl) 33 (.tmp 3) rfl w.heap.size 0 (by kernel_rfl) (encS ⟨ep, ic, ⟨⟨rn, re, rr, rm⟩, L⟩⟩ a n c) _ (fun w' hS => own_range hS.2) Try.underlying33 rfl stable_size) (hTil _) ?_
      (try simp only [Act.put, List.setIfInBounds_toArray, List.set_cons_zero, List.set_cons_succ])
      clear hTil
      refine til_next (i := 4) (by kernel_rfl) rfl (by kernel_rfl) (fun K hK => ?_)
      go_simp
      refine (stable_any _ ⟨ep, ic, ⟨⟨rn, re, rr, rm⟩, L⟩⟩ a3 n3 c3).mono ?_
      rintro e w6 ⟨rfl, L6⟩
      have S6 := S5.later L6
      have R6 := R5.below L6
      have X6 := X5.below L6 X5.lt
      refine hK.out _ _ (.inr ⟨X6, S6.s⟩) ?_
      clear hK K S5 R5 X5 L6
      (try simp only [Act.put, List.setIfInBounds_toArray, List.set_cons_zero, List.set_cons_succ])
      have hTil : ∀ l, tilD [4, 6] (fun w' => Own w' g9 33 (encS ⟨ep, ic, ⟨⟨rn, re, rr, rm⟩, L⟩⟩ a3 n3 c3).toArray ∧ Own w' w.heap.size 33 (encS ⟨ep, ic, ⟨⟨rn, re, rr, rm⟩, L⟩⟩ a n c).toArray) l w6 := fun _ => .inr ⟨X6, S6.s⟩
      clear hTil
      refine til_next (i := 6) (by kernel_rfl) rfl (by kernel_rfl) (fun K hK => ?_)
      go_simp
      refine (stable_any _ ⟨ep, ic, ⟨⟨rn, re, rr, rm⟩, L⟩⟩ a n c).mono ?_
      rintro e w7 ⟨rfl, L7⟩
      have S7 := S6.later L7
      have R7 := R6.below L7
      have X7 := X6.below L7 X6.lt
      refine hK.out _ _ (.inr ⟨X7, S7.s⟩) ?_
      clear hK K S6 R6 X6 L7
      (try simp only [Act.put, List.setIfInBounds_toArray, List.set_cons_zero, List.set_cons_succ])
      have hTil : ∀ l, tilD [4, 6] (fun w' => Own w' g9 33 (encS ⟨ep, ic, ⟨⟨rn, re, rr, rm⟩, L⟩⟩ a3 n3 c3).toArray ∧ Own w' w.heap.size 33 (encS ⟨ep, ic, ⟨⟨rn, re, rr, rm⟩, L⟩⟩ a n c).toArray) l w7 := fun _ => .inr ⟨X7, S7.s⟩
      clear hTil
      refine til_next (i := 7) (by kernel_rfl) rfl (by kernel_rfl) (fun K hK => ?_)
      go_simp
      refine (stables_any _ ⟨ep, ic, ⟨⟨rn, re, rr, rm⟩, L⟩⟩ a3 n3 c3 a n c R7 (S7.rc HZ.out) (by omega) hn).mono ?_
      rintro e w8 ⟨rfl, L8⟩
      have S8 := S7.later L8
      have R8 := R7.below L8
      have X8 := X7.below L8 X7.lt
      refine hK.out _ _ (.inr ⟨X8, S8.s⟩) ?_
      clear hK K S7 R7 X7 L8
      (try simp only [Act.put, List.setIfInBounds_toArray, List.set_cons_zero, List.set_cons_succ])
      have hTil : ∀ l, tilD [4, 6] (fun w' => Own w' g9 33 (encS ⟨ep, ic, ⟨⟨rn, re, rr, rm⟩, L⟩⟩ a3 n3 c3).toArray ∧ Own w' w.heap.size 33 (encS ⟨ep, ic, ⟨⟨rn, re, rr, rm⟩, L⟩⟩ a n c).toArray) l w8 := fun _ => .inr ⟨X8, S8.s⟩
      refine til_pure (i := 8) (v := .bool false) 70 rfl rfl (by kernel_rfl) (by kernel_rfl) (by kernel_rfl) (by kernel_rfl) (fun _ _ _ h => h) (.inl ⟨by kernel_rfl, fun w' _ => by (go_simp)⟩) (hTil _) ?_
      (try simp only [Act.put, List.setIfInBounds_toArray, List.set_cons_zero, List.set_cons_succ])
      refine til_pure (i := 9) (v := .bool false) 71 rfl rfl (by kernel_rfl) (by kernel_rfl) (by kernel_rfl) (by kernel_rfl) (fun _ _ _ h => h) (.inl ⟨by kernel_rfl, fun w' _ => by (go_simp)⟩) (hTil _) ?_
      (try simp only [Act.put, List.setIfInBounds_toArray, List.set_cons_zero, List.set_cons_succ])
      clear hTil
      refine til_done (by kernel_rfl) ?_ _
      have HS8 := Lib.hid S8
      clear S8 R8 X8 hb
      go_wp2_with fail
      go_meet
      exact HS8.out
  case rest =>
    have S2 := hcut
    have O2 := S2.x
    have P2 := HPX.out wc S2
    go_wp2_with (refine load_item rfl (.tmp 4) rfl (w.heap.size + 1) rfl O2 ?_)
    refine P2.mono ?_
    rintro e w2 ⟨rfl, L2⟩
    have S3 := S2.later L2
    clear P2 O2 S2 L2 hcut HPX HP1b
    go_upto_if 78 with fail
    go_cut [12] (fun _ wx => SzSt w wx ⟨⟨ep, ic, ⟨⟨rn, re, rr, rm⟩, L⟩⟩, a, n, c⟩ ⟨⟨xk, xd, xi, xh, xa, xb, ⟨⟨qn, qe, qr, qm⟩, M⟩, ⟨vn, ve, vr, vm⟩, xn, xx, xt⟩, T, b, m, d⟩)
    case first =>
      as_aux_lemma =>
        by_cases h0 : ci = 0
        case neg =>
          have hb : ((ci : Int) == 0) = false := by rw [beq_eq_false_iff_ne]; omega
          have HS3 := Lib.hid S3
          clear S3 HPi HPt
          go_wp2_with fail
          go_meet
          exact HS3.out
        have hb : ((ci : Int) == 0) = true := by rw [h0]; rfl
        obtain ⟨hts, hres, hk, hc0, hstr, hok, htz⟩ := HPi.out h0
        have hck := clean_k ⟨xk, xd, xi, xh, xa, xb, ⟨⟨qn, qe, qr, qm⟩, M⟩, ⟨vn, ve, vr, vm⟩, xn, xx, xt⟩
        have hcd := clean_data ⟨xk, xd, xi, xh, xa, xb, ⟨⟨qn, qe, qr, qm⟩, M⟩, ⟨vn, ve, vr, vm⟩, xn, xx, xt⟩
        have hcv := clean_view ⟨xk, xd, xi, xh, xa, xb, ⟨⟨qn, qe, qr, qm⟩, M⟩, ⟨vn, ve, vr, vm⟩, xn, xx, xt⟩
        have hc2 := clean_two ⟨xk, xd, xi, xh, xa, xb, ⟨⟨qn, qe, qr, qm⟩, M⟩, ⟨vn, ve, vr, vm⟩, xn, xx, xt⟩
        simp only at hck hcd hcv hc2 hk
        generalize cleanI ⟨xk, xd, xi, xh, xa, xb, ⟨⟨qn, qe, qr, qm⟩, M⟩, ⟨vn, ve, vr, vm⟩, xn, xx, xt⟩ = C at *
        have HC2 := Lib.hid hc2
        have HCV := Lib.hid hcv
        have HCK := Lib.hid hck
        have HK := Lib.hid hk
        have HTX : Hid ((xk = 1 ∨ xk = 4) → textI C = T) := Lib.hid fun h => (by unfold textI; rw [hcd h, ← HPt.out])
        have P4 := formI hts w2
        rw [hres] at P4
        simp only at P4
        have HP5 : Hid (∀ W a3 n3 c3, RcIn W ⟨C.r, a3, n3, c3⟩ → n3 ≤ 255 → Calls Try.prog 16 #[.agg (encI C (textI C) a3 n3 c3).toArray] W fun e w' => e = .returned (.tuple #[.string ti, .int .i64 0]) ∧ Below W.heap.size W w') := Lib.hid fun W a3 n3 c3 hW hn => by
          have := lprintI W C (textI C) a3 n3 c3 rfl htz hok hW (by omega)
          rw [hc0] at this hstr
          rw [hstr] at this
          exact this
        clear hts hres hk hc0 hstr hok htz hck hcd hcv hc2 HPi h0
        go_wp2_with fail
        refine P4.mono ?_
        rintro e w4 ⟨a3, n3, c3, rfl, R4, hn3, L4⟩
        have S4 := S3.later L4
        obtain ⟨V5, L5⟩ := boxed19 w4 43 #[.int .i64 0, .string { data := #[] }, .int .u32 0, .int .u64 0, .bool false, .bool false, .int .u64 0, .int .u64 0, .int .i64 0, .int .u64 0, .slice none 0 0, .int .u64 0, .int .u64 0, .int .i64 0, .int .u64 0, .int .u64 0, .int .i64 0, .int .i64 0] (encI C (textI C) a3 n3 c3).toArray
        have Z4 : Own (w4.alloc (.cells #[.int .i64 0, .string { data := #[] }, .int .u32 0, .int .u64 0, .bool false, .bool false, .int .u64 0, .int .u64 0, .int .i64 0, .int .u64 0, .slice none 0 0, .int .u64 0, .int .u64 0, .int .i64 0, .int .u64 0, .int .u64 0, .int .i64 0, .int .i64 0] 43)) w4.heap.size 43 (encI zeroI { data := #[] } none 0 0).toArray := Own.new _ _ _
        have S5 := S4.later L5
        have R5 := R4.below L5
        clear P4 S3 L4 S4 R4 L5
        go_upto_region 13 with (refine store_item rfl (.tmp 13) (.tmp 82) rfl w4.heap.size rfl rfl Z4 ?_)
        clear Z4
        generalize (w4.alloc (.cells #[.int .i64 0, .string { data := #[] }, .int .u32 0, .int .u64 0, .bool false, .bool false, .int .u64 0, .int .u64 0, .int .i64 0, .int .u64 0, .slice none 0 0, .int .u64 0, .int .u64 0, .int .i64 0, .int .u64 0, .int .u64 0, .int .i64 0, .int .i64 0] 43)).setRow w4.heap.size (encI C (textI C) a3 n3 c3).toArray = w5 at *
        generalize w4.heap.size = g13 at *
        have P6 := HP5.out w5 a3 n3 c3 R5 hn3
        go_wp2_with (refine load_item rfl (.tmp 13) rfl g13 rfl V5 ?_)
        refine P6.mono ?_
        rintro e w6 ⟨rfl, L6⟩
        have S6 := S5.later L6
        have R6 := R5.below L6
        have V6 := V5.below L6 V5.lt
        clear P6 HP5 S5 R5 V5 L6
        obtain ⟨ck, cd, cinc, ch, ca, cb, ⟨⟨en, ee, er', em⟩, M'⟩, ⟨un, ue, ur, um⟩, cn, cx, ct⟩ := C
        have hck : ck = xk := HCK.out
        subst hck
        have x0 : w6.cell? ⟨w.heap.size + 1, 0, none⟩ = some (.int .i64 ck) := S6.x.at_ 0 _ rfl
        have x1 : w6.cell? ⟨w.heap.size + 1, 1, none⟩ = some (.string T) := S6.x.at_ 1 _ rfl
        have y0 : w6.cell? ⟨g13, 0, none⟩ = some (.int .i64 ck) := V6.at_ 0 _ rfl
        have hcase : ck = 1 ∨ ck = 2 ∨ ck = 3 ∨ ck = 4 := by have := HK.out; omega
        have HS6 := Lib.hid S6
        clear HK HCK
        rcases hcase with hxk | hxk | hxk | hxk
        · as_aux_lemma =>
            have b1 : (ck == 1) = true := by rw [hxk]; rfl
            have b2 : (ck == 2) = false := by rw [hxk]; rfl
            have b3 : (ck == 3) = false := by rw [hxk]; rfl
            have b4 : (ck == 4) = false := by rw [hxk]; rfl
            have y1 : w6.cell? ⟨g13, 1, none⟩ = some (.string T) := by
              have h1 : w6.cell? ⟨g13, 1, none⟩ = some (.string (textI ⟨ck, cd, cinc, ch, ca, cb, ⟨⟨en, ee, er', em⟩, M'⟩, ⟨un, ue, ur, um⟩, cn, cx, ct⟩)) := V6.at_ 1 _ rfl
              rw [HTX.out (by omega)] at h1
              exact h1
            clear hxk
            have q0 := fun n' os' => cell_form (show w.heap.size + 1 < w6.heap.size from S6.x.lt) x0 n' os'
            go_upto_region 16 with fail
            refine wp_region_quiet_below (by kernel_rfl) (by kernel_rfl) ?_
            repeat (first | go_big_quiet_skip | quiet_step (fail))
            refine wpQuiet_nil ?_
            intro _ hw'
            obtain ⟨⟨nq, osq⟩, hw''⟩ := hw'
            subst hw''
            have HS7 := Lib.hid (HS6.out.later (below_of_form w6 nq osq))
            clear q0 y1 x0 x1 y0 b1 b2 b3 b4 HS6 V6 R6 hb S6 HC2 HCV HTX
            generalize (grow (atD w6 nq) osq) = w7 at *
            go_wp2_with fail
            go_meet
            exact HS7.out
        · as_aux_lemma =>
            have b1 : (ck == 1) = false := by rw [hxk]; rfl
            have b2 : (ck == 2) = true := by rw [hxk]; rfl
            have b3 : (ck == 3) = false := by rw [hxk]; rfl
            have b4 : (ck == 4) = false := by rw [hxk]; rfl
            obtain ⟨g1, g2, g3, g4, g5⟩ := HC2.out hxk
            simp only at g1 g2 g3 g4 g5
            simp only [Rp.mk.injEq, Vw.mk.injEq] at g5
            obtain ⟨⟨g5, g6, g7, g8⟩, g9⟩ := g5
            subst g1 g2 g3 g4 g5 g6 g7 g8 g9
            have p2 := fun n' os' => cell_form (show w.heap.size + 1 < w6.heap.size from S6.x.lt) (show w6.cell? ⟨w.heap.size + 1, 2, none⟩ = some (.int .u32 (cinc : Int)) from S6.x.at_ 2 _ rfl) n' os'
            have r2 := fun n' os' => cell_form (show g13 < w6.heap.size from V6.lt) (show w6.cell? ⟨g13, 2, none⟩ = some (.int .u32 (cinc : Int)) from V6.at_ 2 _ rfl) n' os'
            have p3 := fun n' os' => cell_form (show w.heap.size + 1 < w6.heap.size from S6.x.lt) (show w6.cell? ⟨w.heap.size + 1, 3, none⟩ = some (.int .u64 (ch : Int)) from S6.x.at_ 3 _ rfl) n' os'
            have r3 := fun n' os' => cell_form (show g13 < w6.heap.size from V6.lt) (show w6.cell? ⟨g13, 3, none⟩ = some (.int .u64 (ch : Int)) from V6.at_ 3 _ rfl) n' os'
            have p4 := fun n' os' => cell_form (show w.heap.size + 1 < w6.heap.size from S6.x.lt) (show w6.cell? ⟨w.heap.size + 1, 4, none⟩ = some (.bool ca) from S6.x.at_ 4 _ rfl) n' os'
            have r4 := fun n' os' => cell_form (show g13 < w6.heap.size from V6.lt) (show w6.cell? ⟨g13, 4, none⟩ = some (.bool ca) from V6.at_ 4 _ rfl) n' os'
            have p5 := fun n' os' => cell_form (show w.heap.size + 1 < w6.heap.size from S6.x.lt) (show w6.cell? ⟨w.heap.size + 1, 5, none⟩ = some (.bool cb) from S6.x.at_ 5 _ rfl) n' os'
            have r5 := fun n' os' => cell_form (show g13 < w6.heap.size from V6.lt) (show w6.cell? ⟨g13, 5, none⟩ = some (.bool cb) from V6.at_ 5 _ rfl) n' os'
            have p6 := fun n' os' => cell_form (show w.heap.size + 1 < w6.heap.size from S6.x.lt) (show w6.cell? ⟨w.heap.size + 1, 6, none⟩ = some (.int .u64 (en : Int)) from S6.x.at_ 6 _ rfl) n' os'
            have r6 := fun n' os' => cell_form (show g13 < w6.heap.size from V6.lt) (show w6.cell? ⟨g13, 6, none⟩ = some (.int .u64 (en : Int)) from V6.at_ 6 _ rfl) n' os'
            have p7 := fun n' os' => cell_form (show w.heap.size + 1 < w6.heap.size from S6.x.lt) (show w6.cell? ⟨w.heap.size + 1, 7, none⟩ = some (.int .u64 (ee : Int)) from S6.x.at_ 7 _ rfl) n' os'
            have r7 := fun n' os' => cell_form (show g13 < w6.heap.size from V6.lt) (show w6.cell? ⟨g13, 7, none⟩ = some (.int .u64 (ee : Int)) from V6.at_ 7 _ rfl) n' os'
            have p8 := fun n' os' => cell_form (show w.heap.size + 1 < w6.heap.size from S6.x.lt) (show w6.cell? ⟨w.heap.size + 1, 8, none⟩ = some (.int .i64 er') from S6.x.at_ 8 _ rfl) n' os'
            have r8 := fun n' os' => cell_form (show g13 < w6.heap.size from V6.lt) (show w6.cell? ⟨g13, 8, none⟩ = some (.int .i64 er') from V6.at_ 8 _ rfl) n' os'
            have p9 := fun n' os' => cell_form (show w.heap.size + 1 < w6.heap.size from S6.x.lt) (show w6.cell? ⟨w.heap.size + 1, 9, none⟩ = some (.int .u64 (em : Int)) from S6.x.at_ 9 _ rfl) n' os'
            have r9 := fun n' os' => cell_form (show g13 < w6.heap.size from V6.lt) (show w6.cell? ⟨g13, 9, none⟩ = some (.int .u64 (em : Int)) from V6.at_ 9 _ rfl) n' os'
            have p10 := fun n' os' => cell_form (show w.heap.size + 1 < w6.heap.size from S6.x.lt) (show w6.cell? ⟨w.heap.size + 1, 10, none⟩ = some (.slice b m d) from S6.x.at_ 10 _ rfl) n' os'
            have r10 := fun n' os' => cell_form (show g13 < w6.heap.size from V6.lt) (show w6.cell? ⟨g13, 10, none⟩ = some (.slice a3 n3 c3) from V6.at_ 10 _ rfl) n' os'
            have K1 := fun n' os' => lrec en ee er' em a3 n3 c3 (grow (atD w6 n') os')
            have K2 := fun n' os' => lrec en ee er' em b m d (grow (atD w6 n') os')
            have HXR := (HY.out.rc.below S6.below).pend
            have K3 := fun n' os' => dsame_yes (grow (atD w6 n') os') en ee er' em M' a3 n3 c3 b m d (R6.pend.below (below_of_form w6 n' os')) (HXR.below (below_of_form w6 n' os')) (by omega) (by omega)
            clear hxk HXR
            have q0 := fun n' os' => cell_form (show w.heap.size + 1 < w6.heap.size from S6.x.lt) x0 n' os'
            have q0' := fun n' os' => cell_form (show g13 < w6.heap.size from V6.lt) y0 n' os'
            go_upto_region 16 with fail
            refine wp_region_quiet_below (by kernel_rfl) (by kernel_rfl) ?_
            repeat (first | go_big_quiet_skip | quiet_step (first | (go_at_call 18; (with_reducible exact calls_below (K1 _ _))) | (go_at_call 18; (with_reducible exact calls_below (K2 _ _))) | (go_at_call 17; (with_reducible exact calls_below (K3 _ _)))))
            refine wpQuiet_nil ?_
            intro _ hw'
            obtain ⟨⟨nq, osq⟩, hw''⟩ := hw'
            subst hw''
            have HS7 := Lib.hid (HS6.out.later (below_of_form w6 nq osq))
            clear q0 q0' K1 K2 K3 p2 p3 p4 p5 p6 p7 p8 p9 p10 r2 r3 r4 r5 r6 r7 r8 r9 r10 x0 x1 y0 b1 b2 b3 b4 HS6 V6 R6 hb S6 HC2 HCV HTX
            generalize (grow (atD w6 nq) osq) = w7 at *
            go_wp2_with fail
            go_meet
            exact HS7.out
        · as_aux_lemma =>
            have b1 : (ck == 1) = false := by rw [hxk]; rfl
            have b2 : (ck == 2) = false := by rw [hxk]; rfl
            have b3 : (ck == 3) = true := by rw [hxk]; rfl
            have b4 : (ck == 4) = false := by rw [hxk]; rfl
            have hv := HCV.out hxk
            simp only [Vw.mk.injEq] at hv
            obtain ⟨rfl, rfl, rfl, rfl⟩ := hv
            have x11 : w6.cell? ⟨w.heap.size + 1, 11, none⟩ = some (.int .u64 (un : Int)) := S6.x.at_ 11 _ rfl
            have x12 : w6.cell? ⟨w.heap.size + 1, 12, none⟩ = some (.int .u64 (ue : Int)) := S6.x.at_ 12 _ rfl
            have x13 : w6.cell? ⟨w.heap.size + 1, 13, none⟩ = some (.int .i64 ur) := S6.x.at_ 13 _ rfl
            have x14 : w6.cell? ⟨w.heap.size + 1, 14, none⟩ = some (.int .u64 (um : Int)) := S6.x.at_ 14 _ rfl
            have y11 : w6.cell? ⟨g13, 11, none⟩ = some (.int .u64 (un : Int)) := V6.at_ 11 _ rfl
            have y12 : w6.cell? ⟨g13, 12, none⟩ = some (.int .u64 (ue : Int)) := V6.at_ 12 _ rfl
            have y13 : w6.cell? ⟨g13, 13, none⟩ = some (.int .i64 ur) := V6.at_ 13 _ rfl
            have y14 : w6.cell? ⟨g13, 14, none⟩ = some (.int .u64 (um : Int)) := V6.at_ 14 _ rfl
            have hne := fun W => neq_vw ⟨un, ue, ur, um⟩ ⟨un, ue, ur, um⟩ W
            rw [decide_eq_true rfl] at hne
            unfold valV encV at hne
            clear hxk
            have q0 := fun n' os' => cell_form (show w.heap.size + 1 < w6.heap.size from S6.x.lt) x0 n' os'
            go_upto_region 16 with fail
            refine wp_region_quiet_below (by kernel_rfl) (by kernel_rfl) ?_
            repeat (first | go_big_quiet_skip | quiet_step (fail))
            refine wpQuiet_nil ?_
            intro _ hw'
            obtain ⟨⟨nq, osq⟩, hw''⟩ := hw'
            subst hw''
            have HS7 := Lib.hid (HS6.out.later (below_of_form w6 nq osq))
            clear q0 hne x11 x12 x13 x14 y11 y12 y13 y14 x0 x1 y0 b1 b2 b3 b4 HS6 V6 R6 hb S6 HC2 HCV HTX
            generalize (grow (atD w6 nq) osq) = w7 at *
            go_wp2_with fail
            go_meet
            exact HS7.out
        · as_aux_lemma =>
            have b1 : (ck == 1) = false := by rw [hxk]; rfl
            have b2 : (ck == 2) = false := by rw [hxk]; rfl
            have b3 : (ck == 3) = false := by rw [hxk]; rfl
            have b4 : (ck == 4) = true := by rw [hxk]; rfl
            have y1 : w6.cell? ⟨g13, 1, none⟩ = some (.string T) := by
              have h1 : w6.cell? ⟨g13, 1, none⟩ = some (.string (textI ⟨ck, cd, cinc, ch, ca, cb, ⟨⟨en, ee, er', em⟩, M'⟩, ⟨un, ue, ur, um⟩, cn, cx, ct⟩)) := V6.at_ 1 _ rfl
              rw [HTX.out (by omega)] at h1
              exact h1
            clear hxk
            have q0 := fun n' os' => cell_form (show w.heap.size + 1 < w6.heap.size from S6.x.lt) x0 n' os'
            go_upto_region 16 with fail
            refine wp_region_quiet_below (by kernel_rfl) (by kernel_rfl) ?_
            repeat (first | go_big_quiet_skip | quiet_step (fail))
            refine wpQuiet_nil ?_
            intro _ hw'
            obtain ⟨⟨nq, osq⟩, hw''⟩ := hw'
            subst hw''
            have HS7 := Lib.hid (HS6.out.later (below_of_form w6 nq osq))
            clear q0 y1 x0 x1 y0 b1 b2 b3 b4 HS6 V6 R6 hb S6 HC2 HCV HTX
            generalize (grow (atD w6 nq) osq) = w7 at *
            go_wp2_with fail
            go_meet
            exact HS7.out
    case rest =>
      have S2 := hcut
      have BB := S2.below
      clear hcut S2 HPi HPt HZ HY
      have P2 := formS hs wc
      have HRS := Lib.hid (fun h => readS (s := s) h)
      generalize resS s = rs at *
      obtain ⟨U, cs⟩ := rs
      simp only at P2 HRS
      go_wp2_with fail
      refine P2.mono ?_
      rintro e w2 ⟨a3, n3, c3, rfl, hst, hn3, L2⟩
      have B2 := BB.trans (L2.mono BB.size)
      obtain ⟨V3, L3⟩ := boxed19 w2 33 #[.int .u64 0, .int .u32 0, .int .u64 0, .int .u64 0, .int .i64 0, .int .u64 0, .slice none 0 0] (encS U a3 n3 c3).toArray
      have Z2 : Own (w2.alloc (.cells #[.int .u64 0, .int .u32 0, .int .u64 0, .int .u64 0, .int .i64 0, .int .u64 0, .slice none 0 0] 33)) w2.heap.size 33 (encS zeroS none 0 0).toArray := Own.new _ _ _
      have B3 := B2.trans (L3.mono B2.size)
      have R3 := hst.below L3
      clear P2 BB L2 B2 hst L3
      go_upto_region 19 with (refine store_stable rfl (.tmp 17) (.tmp 180) rfl w2.heap.size rfl rfl Z2 ?_)
      clear Z2
      generalize (w2.alloc (.cells #[.int .u64 0, .int .u32 0, .int .u64 0, .int .u64 0, .int .i64 0, .int .u64 0, .slice none 0 0] 33)).setRow w2.heap.size (encS U a3 n3 c3).toArray = w3 at *
      generalize w2.heap.size = g17 at *
      go_upto_if 183 with fail
      go_cut [18] (fun _ wx => Below w.heap.size w wx)
      case first =>
        as_aux_lemma =>
          by_cases h0 : cs = 0
          case neg =>
            have hb : ((cs : Int) == 0) = false := by rw [beq_eq_false_iff_ne]; omega
            have HB3 := Lib.hid B3
            clear B3 HRS R3 V3
            go_wp2_with fail
            go_meet
            exact HB3.out
          have hb : ((cs : Int) == 0) = true := by rw [h0]; rfl
          obtain ⟨hstr, her⟩ := HRS.out h0
          have P4 := lprintS w3 U a3 n3 c3 R3.rc R3.ep R3.inc (by omega)
          rw [her] at P4 hstr
          rw [hstr] at P4
          clear hstr her h0 HRS R3
          go_wp2_with (refine load_stable rfl (.tmp 17) rfl g17 rfl V3 ?_)
          refine P4.mono ?_
          rintro e w4 ⟨rfl, L4⟩
          have HB4 := Lib.hid (B3.trans (L4.mono B3.size))
          clear P4 L4 B3 V3 hb
          go_wp2_with fail
          go_meet
          exact HB4.out
      case rest =>
        have BB := hcut
        clear hcut HRS R3 V3 B3
        have P2 := formI hs wc
        have HRI := Lib.hid (fun h => readI (s := s) h)
        generalize resI s = ri at *
        obtain ⟨U', cs'⟩ := ri
        simp only at P2 HRI
        go_wp2_with fail
        refine P2.mono ?_
        rintro e w5 ⟨a5, n5, c5, rfl, hst, hn5, L5⟩
        have B5 := BB.trans (L5.mono BB.size)
        obtain ⟨V6, L6⟩ := boxed19 w5 43 #[.int .i64 0, .string { data := #[] }, .int .u32 0, .int .u64 0, .bool false, .bool false, .int .u64 0, .int .u64 0, .int .i64 0, .int .u64 0, .slice none 0 0, .int .u64 0, .int .u64 0, .int .i64 0, .int .u64 0, .int .u64 0, .int .i64 0, .int .i64 0] (encI U' (textI U') a5 n5 c5).toArray
        have Z5 : Own (w5.alloc (.cells #[.int .i64 0, .string { data := #[] }, .int .u32 0, .int .u64 0, .bool false, .bool false, .int .u64 0, .int .u64 0, .int .i64 0, .int .u64 0, .slice none 0 0, .int .u64 0, .int .u64 0, .int .i64 0, .int .u64 0, .int .u64 0, .int .i64 0, .int .i64 0] 43)) w5.heap.size 43 (encI zeroI { data := #[] } none 0 0).toArray := Own.new _ _ _
        have B6 := B5.trans (L6.mono B5.size)
        have R6 := hst.below L6
        clear P2 BB L5 B5 hst L6
        go_upto_region 24 with (refine store_item rfl (.tmp 21) (.tmp 199) rfl w5.heap.size rfl rfl Z5 ?_)
        clear Z5
        generalize (w5.alloc (.cells #[.int .i64 0, .string { data := #[] }, .int .u32 0, .int .u64 0, .bool false, .bool false, .int .u64 0, .int .u64 0, .int .i64 0, .int .u64 0, .slice none 0 0, .int .u64 0, .int .u64 0, .int .i64 0, .int .u64 0, .int .u64 0, .int .i64 0, .int .i64 0] 43)).setRow w5.heap.size (encI U' (textI U') a5 n5 c5).toArray = w6 at *
        generalize w5.heap.size = g21 at *
        by_cases h0 : cs' = 0
        case neg =>
          have hb : ((cs' : Int) == 0) = false := by rw [beq_eq_false_iff_ne]; omega
          have HB6 := Lib.hid B6
          clear B6 HRI R6 V6
          go_wp2
          go_ret
          exact ⟨rfl, HB6.out⟩
        have hb : ((cs' : Int) == 0) = true := by rw [h0]; rfl
        obtain ⟨hstr, her, hok, htz⟩ := HRI.out h0
        have P7 := lprintI w6 U' (textI U') a5 n5 c5 rfl htz hok R6 (by omega)
        rw [her] at P7 hstr
        rw [hstr] at P7
        clear hstr her h0 HRI R6 hok htz
        go_wp2_with (refine load_item rfl (.tmp 21) rfl g21 rfl V6 ?_)
        refine P7.mono ?_
        rintro e w7 ⟨rfl, L7⟩
        have HB7 := Lib.hid (B6.trans (L7.mono B6.size))
        clear P7 L7 B6 V6
        go_wp2
        go_ret
        exact ⟨rfl, HB7.out⟩
end Go.Proofs.Ytblefbjmjhgkkaa
