/- The walk of 'NumReads'. -/
import Derived.Test.YtneeplmdmdkjeaaActs
import Derived.Test.YtneeplmdmdkjeaaRefRead
import Derived.Test.YtneeplmdmdkjeaaNumGetsWalk
import Derived.Deep.RegionWith
set_option linter.unusedVariables false
set_option linter.unusedSimpArgs false
namespace Go.Proofs.Ytneeplmdmdkjeaa
open Go.RowKit

set_option maxRecDepth 100000 in
set_option maxHeartbeats 2000000 in
theorem walk_NumReads (w : World) (s : ByteArray) (ws : s.size ≤ maxLen) (ao : Option Addr) (len cap : Nat) (z : Nat → Bool × Int) (hz : InActs w ao len z) :
    Calls Try.prog 6 #[.string s, .slice ao len cap] w fun e w' => e = .returned (.bool true) ∧ Below w.heap.size w w' := by
  have hs' : (s.size : Int) ≤ 9223372036854775807 := by unfold maxLen at ws; omega
  by_cases hbig : (20000 : Int) < s.size
  · go_enter Try.func6, Try.ntmps6
    go_wp2_with fail
    refine (awake_any _).mono ?_
    rintro e w1 ⟨rfl, hb1⟩
    go_wp2
    go_ret
    exact ⟨rfl, hb1⟩
  by_cases hbig2 : (300 : Int) < len
  · go_enter Try.func6, Try.ntmps6
    go_wp2_with fail
    refine (awake_any _).mono ?_
    rintro e w1 ⟨rfl, hb1⟩
    go_wp2
    go_ret
    exact ⟨rfl, hb1⟩
  have hs1 : s.size ≤ 1099511627776 := by omega
  have d1 : decide ((20000 : Int) < s.size) = false := by simp; omega
  have d2 : decide ((300 : Int) < len) = false := by simp; omega
  go_enter Try.func6, Try.ntmps6
  go_wp2_with fail
  refine (awake_any _).mono ?_
  rintro e w1 ⟨rfl, hb1⟩
  go_wp2_with fail
  refine (new_any _ _).mono ?_
  rintro e w2 ⟨rfl, hw2⟩
  have hr2 : Rd w2 w1.heap.size s 0 := by rw [← hw2]; exact Rd.new w1 s (by omega)
  have hb2 : Below w.heap.size w w2 := by rw [← hw2]; exact hb1.alloc hb1.size _
  have hgap : w.heap.size ≤ w1.heap.size := hb1.size
  generalize w1.heap.size = b at hr2 hgap ⊢
  clear hw2
  go_wp2_with fail
  go_loopw [6, 7] (fun at_ i wr => ∃ k a : Nat, k ≤ len ∧ i = .int .i64 k ∧ at_ = .int .i64 a ∧ Rd wr b s a ∧ Below w.heap.size w wr) (fun _ i _ => len - (intOf i).toNat)
  case atStart => exact ⟨0, 0, Nat.zero_le _, rfl, rfl, hr2, hb2⟩
  case round =>
    obtain ⟨k, a, hk, rfl, rfl, hr, hnx⟩ := hrel
    by_cases hlt : k < len
    · rcases hz with h0 | ⟨bq, oq, rfl, hc⟩
      · omega
      obtain ⟨h1, h2, h3, h4⟩ := hc k hlt
      have g1 := cell_later hnx h1
      have g2 := cell_later hnx h2
      obtain ⟨zk, hzk⟩ : ∃ zk, zk = z k := ⟨_, rfl⟩
      rw [← hzk] at h1 h2 h3 h4 g1 g2
      obtain ⟨t, n⟩ := zk
      have ha := hr.in_
      clear h1 h2
      have HC := Lib.hid hc
      clear hc
      have hw0 := hb2.size
      have c1 := (HC.out k hlt).1
      have c2 := (HC.out k hlt).2.1
      rw [← hzk] at c1 c2
      cases t
      · by_cases hy : (a : Int) + wid n ≤ s.size
        · obtain ⟨m, hm⟩ := Int.eq_ofNat_of_zero_le (wid_bd n).1
          have hle : a + m ≤ s.size := by omega
          have HM := Lib.hid hm
          clear hm hy
          go_wp2_with fail
          refine (once_num _ b s a m n hr HM.out hle).mono ?_
          rintro e w3 ⟨rfl, hr3, hg3⟩
          have hb3 : Below w.heap.size w w3 := hnx.grown hg3 hnx.size (fun j hj => by cases hj; exact hgap)
          have k1 := cell_later hb3 c1
          have k2 := cell_later hb3 c2
          go_wp2_with fail
          refine (refNum_yes s a m n _ hs1 HM.out hle).mono ?_
          rintro e w4 ⟨rfl, rfl⟩
          go_wp2_with fail
          refine (at_any _ _ _ _ hr3).mono ?_
          rintro e w5 ⟨rfl, rfl⟩
          go_wp2_with fail
          refine (left_any _ _ _ _ hr3).mono ?_
          rintro e w6 ⟨rfl, q, rfl⟩
          go_wp2
          go_roundw
          case rel => exact ⟨k + 1, a + m, by omega, by go_num, by go_num, hr3.drewN q, below_drewN hb3 q⟩
          case measure => simp [intOf]; omega
        · have hno : (s.size : Int) - a < wid n := by omega
          have HN := Lib.hid hno
          clear hno hy
          go_wp2_with fail
          refine (once_num_no _ b s a n hr HN.out).mono ?_
          rintro e w3 ⟨rfl, hr3, hg3⟩
          have hb3 : Below w.heap.size w w3 := hnx.grown hg3 hnx.size (fun j hj => by cases hj; exact hgap)
          have k1 := cell_later hb3 c1
          have k2 := cell_later hb3 c2
          go_wp2_with fail
          refine (refNum_no s a n _ hs1 ha HN.out).mono ?_
          rintro e w4 ⟨rfl, rfl⟩
          go_wp2_with fail
          refine (at_any _ _ _ _ hr3).mono ?_
          rintro e w5 ⟨rfl, rfl⟩
          go_wp2_with fail
          refine (left_any _ _ _ _ hr3).mono ?_
          rintro e w6 ⟨rfl, q, rfl⟩
          go_wp2
          go_roundw
          case rel => exact ⟨k + 1, a, by omega, by go_num, by go_num, hr3.drewN q, below_drewN hb3 q⟩
          case measure => simp [intOf]; omega
      · by_cases hy : (a : Int) + pos n ≤ s.size
        · obtain ⟨m, hm⟩ := Int.eq_ofNat_of_zero_le (pos_bd n).1
          have hle : a + m ≤ s.size := by omega
          have HM := Lib.hid hm
          clear hm hy
          go_wp2_with fail
          refine (once_text _ b s a m n hr HM.out hle hs1).mono ?_
          rintro e w3 ⟨rfl, hr3, hg3⟩
          have hb3 : Below w.heap.size w w3 := hnx.grown hg3 hnx.size (fun j hj => by cases hj; exact hgap)
          have k1 := cell_later hb3 c1
          have k2 := cell_later hb3 c2
          go_wp2_with fail
          refine (refText_yes s a m n _ hs1 HM.out hle).mono ?_
          rintro e w4 ⟨rfl, rfl⟩
          go_wp2_with fail
          refine (at_any _ _ _ _ hr3).mono ?_
          rintro e w5 ⟨rfl, rfl⟩
          go_wp2_with fail
          refine (left_any _ _ _ _ hr3).mono ?_
          rintro e w6 ⟨rfl, q, rfl⟩
          go_wp2
          go_roundw
          case rel => exact ⟨k + 1, a + m, by omega, by go_num, by go_num, hr3.drewN q, below_drewN hb3 q⟩
          case measure => simp [intOf]; omega
        · have hno : (s.size : Int) - a < pos n := by omega
          have HN := Lib.hid hno
          clear hno hy
          go_wp2_with fail
          refine (once_text_no _ b s a n hr h4 HN.out).mono ?_
          rintro e w3 ⟨rfl, hr3, hg3⟩
          have hb3 : Below w.heap.size w w3 := hnx.grown hg3 hnx.size (fun j hj => by cases hj; exact hgap)
          have k1 := cell_later hb3 c1
          have k2 := cell_later hb3 c2
          go_wp2_with fail
          refine (refText_no s a n _ hs1 ha HN.out).mono ?_
          rintro e w4 ⟨rfl, rfl⟩
          go_wp2_with fail
          refine (at_any _ _ _ _ hr3).mono ?_
          rintro e w5 ⟨rfl, rfl⟩
          go_wp2_with fail
          refine (left_any _ _ _ _ hr3).mono ?_
          rintro e w6 ⟨rfl, q, rfl⟩
          go_wp2
          go_roundw
          case rel => exact ⟨k + 1, a, by omega, by go_num, by go_num, hr3.drewN q, below_drewN hb3 q⟩
          case measure => simp [intOf]; omega
    · go_wp2
      go_ret
      exact ⟨rfl, hnx⟩
end Go.Proofs.Ytneeplmdmdkjeaa
