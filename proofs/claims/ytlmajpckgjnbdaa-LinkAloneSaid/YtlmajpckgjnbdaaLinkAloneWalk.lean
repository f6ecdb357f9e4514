/- The walk of 'LinkAlone'. -/
import Derived.Test.YtlmajpckgjnbdaaLinkAwake
set_option linter.unusedVariables false
set_option linter.unusedSimpArgs false
namespace Go.Proofs.Ytlmajpckgjnbdaa
open Go.RowKit Go.Sort

/-- A window with no other members that sent k. -/
def wA (me : Int) (z k : Nat) : Wn := ⟨me, 0, z, k, fun _ => 0⟩
theorem wA_new (me size : Int) : newN me (onl me) size = wA me (sizeN size) 0 := by unfold newN wA; rw [othersN_alone]
theorem wA_room (me : Int) (z k : Nat) (hz : 1 ≤ z) (r : Int) : roomN (wA me z k) r = decide (r < (z : Int)) := alone_room rfl hz r
theorem wA_low (me : Int) (z k : Nat) : lowN (wA me z k) = k := alone_low rfl
theorem wA_lag (me : Int) (z k : Nat) : lagN (wA me z k) = 0 := alone_lag rfl
theorem wA_next {w : World} {g : Nat} {me : Int} {z k : Nat} (h : LkAt w g (wA me z k)) (hz : 1 ≤ z) (hk : k ≤ 1000000) :
    Calls Try.prog 12 #[.pointer (some ⟨g, 0, none⟩), .int .i64 0] w fun e w' => e = .returned (.tuple #[.int .u32 ((k + 1 : Nat) : Int), .int .i64 0]) ∧ Linked w w' g (wA me z (k + 1)) := by
  have hr : roomN (wA me z k) 0 = true := by rw [wA_room _ _ _ hz]; simp; omega
  have := lnext h 0 (by decide) (by decide) hk
  rw [numN_yes hr, codeN_yes hr, nextN_yes hr] at this
  exact this
set_option maxHeartbeats 4000000 in
theorem full_LinkAlone (me size times reserve : Int) (a0 : -9223372036854775808 ≤ me) (a1 : me ≤ 9223372036854775807) (b0 : -9223372036854775808 ≤ size) (b1 : size ≤ 9223372036854775807)
    (c0 : -9223372036854775808 ≤ times) (c1 : times ≤ 9223372036854775807) (d0 : -9223372036854775808 ≤ reserve) (d1 : reserve ≤ 9223372036854775807) (w : World) :
    Calls Try.prog 5 #[.int .i64 me, .int .i64 size, .int .i64 times, .int .i64 reserve] w fun e w' => e = .returned (.bool true) ∧ Below w.heap.size w w' := by
  by_cases h1 : 500 < times
  · go_enter Try.func5, Try.ntmps5
    go_wp2_with (go_at_call 7; refine (lawake _).mono ?_; rintro e w1 ⟨rfl, L1⟩)
    go_ret
    exact ⟨rfl, L1⟩
  have hd1 : decide (500 < times) = false := by simp; omega
  obtain ⟨T, hT⟩ : ∃ T : Nat, T = times.toNat := ⟨_, rfl⟩
  have hmm : max 1 (min size 64) = ((sizeN size : Nat) : Int) := (sizeN_max size).symm
  have hz1 := sizeN_pos size
  have hz2 := sizeN_le size
  have HW0 := Lib.hid (wA_new me size)
  go_enter Try.func5, Try.ntmps5
  go_wp2_with fail
  refine (lawake _).mono ?_
  rintro e w1 ⟨rfl, L1⟩
  have B2 := ((Grw.refl w1).alloc (.cells #[.int .i64 me] 3)).below
  have HO := of_any (some ⟨w1.heap.size, 0, none⟩) 1 1 [me] _ (InI.one w1 me a0 a1) (by decide)
  rw [ofl_one] at HO
  have HN := lnew me size (onl me) (w1.alloc (.cells #[.int .i64 me] 3)) (onl_lt _) a0 a1 b0 b1
  rw [HW0.out] at HN
  have L2 := L1.trans (B2.mono L1.size)
  generalize sizeN size = z at *
  have HN := Lib.hid HN
  have HMM := Lib.hid hmm
  clear B2 L1 hmm
  go_wp2_with fail
  refine HO.mono ?_
  rintro e w' ⟨rfl, rfl⟩
  go_wp2_with fail
  refine HN.out.mono ?_
  rintro e w3 ⟨rfl, A3, B3⟩
  have L3 := L2.trans (B3.mono L2.size)
  have hgw : w.heap.size ≤ (w1.alloc (.cells #[.int .i64 me] 3)).heap.size + 1 := Nat.le_trans L2.size (Nat.le_succ _)
  clear HN HO L2 B3
  generalize (w1.alloc (.cells #[.int .i64 me] 3)).heap.size + 1 = g at *
  go_wp2
  go_loopw [10] (fun si wr => ∃ k : Nat, k ≤ T ∧ si = .int .i64 k ∧ LkAt wr g (wA me z k) ∧ Below w.heap.size w wr) (fun si _ => T - (intOf si).toNat)
  case atStart => exact ⟨0, Nat.zero_le _, rfl, A3, L3⟩
  case round =>
    obtain ⟨k, hk, rfl, A, L⟩ := hrel
    clear A3 L3
    by_cases hlt : (k : Int) < times
    · have HX := Lib.hid (wA_next A hz1 (by omega))
      obtain ⟨m, hm⟩ : ∃ m, m = k + 1 := ⟨_, rfl⟩
      rw [← hm] at HX
      have hmi : (k : Int) + 1 = (m : Int) := by omega
      have hm500 : m ≤ 500 := by omega
      have HM := Lib.hid hm
      have hW : IntKind.u32.wrap (m : Int) = (m : Int) := IntWalk.u32_in _ (by omega)
      clear A hm
      go_wp2_with fail
      refine HX.out.mono ?_
      rintro e w4 ⟨rfl, K⟩
      have L4 := Linked.later L K hgw
      have A4 := K.at_
      have H1 := llow A4
      rw [wA_low] at H1
      have H2 := llag A4
      rw [wA_lag] at H2
      have A4 := Lib.hid A4
      have L4 := Lib.hid L4
      have H2 := Lib.hid H2
      clear HX K L
      go_wp2_with fail
      refine H1.mono ?_
      rintro e w' ⟨rfl, rfl⟩
      go_wp2_with fail
      refine H2.out.mono ?_
      rintro e w5 ⟨rfl, B5⟩
      have A5 := Lib.hid (A4.out.below B5)
      have L5 := Lib.hid (L4.out.trans (B5.mono L4.out.size))
      clear H1 H2 A4 L4 B5
      go_wp2
      go_roundw
      case rel => exact ⟨m, by omega, by go_num, by rw [HM.out] at A5 ⊢; exact A5.out, L5.out⟩
      case measure => simp [intOf]; have := HM.out; omega
    · have H1 := lroom A reserve d0 d1
      rw [wA_room _ _ _ hz1] at H1
      have hmm := HMM.out
      have HA := Lib.hid A
      have HL := Lib.hid L
      clear A L
      go_wp2_with fail
      refine H1.mono ?_
      rintro e w4 ⟨rfl, n, rfl⟩
      have A4 := HA.out.drewN n
      have L4 := HL.out.trans ((below_drewN11 wr n).mono HL.out.size)
      have H2 := lcopy A4
      have HA := Lib.hid A4
      have HL := Lib.hid L4
      clear H1 A4 L4
      generalize wr.drewN n = V at *
      go_wp2_with fail
      refine H2.mono ?_
      rintro e w5 ⟨rfl, C5, B5⟩
      have A5 := HA.out.below B5
      have L5 := Lib.hid (HL.out.trans (B5.mono HL.out.size))
      have H3 := lsent A5
      have H4 := lsent C5
      clear H2 A5 C5 B5 HA HL
      go_wp2_with (first | (refine H3.mono ?_; rintro e w' ⟨rfl, rfl⟩) | (refine H4.mono ?_; rintro e w' ⟨rfl, rfl⟩))
      go_ret
      exact ⟨rfl, L5.out⟩
theorem walk_LinkAlone {w : World} (a : Int) (wa : (Lit.int .i64 a).wf = true) (b : Int) (wb : (Lit.int .i64 b).wf = true) (c : Int) (wc : (Lit.int .i64 c).wf = true) (d : Int) (wd : (Lit.int .i64 d).wf = true) :
    Calls Try.prog 5 #[.int .i64 a, .int .i64 b, .int .i64 c, .int .i64 d] w fun e w' => e = .returned (.bool true) ∧ Below w.heap.size w w' := by
  have b0 := Go.bounds_i64 wa
  have b1 := Go.bounds_i64 wb
  have b2 := Go.bounds_i64 wc
  have b3 := Go.bounds_i64 wd
  exact full_LinkAlone a b c d (by omega) (by omega) (by omega) (by omega) (by omega) (by omega) (by omega) (by omega) w
end Go.Proofs.Ytlmajpckgjnbdaa
