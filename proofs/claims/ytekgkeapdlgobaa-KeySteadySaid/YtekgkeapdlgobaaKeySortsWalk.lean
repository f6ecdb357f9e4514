/- The walk of 'KeySorts'. -/
import Derived.Test.YtekgkeapdlgobaaKeyAwake
import Derived.Test.YtekgkeapdlgobaaRefSort
import Derived.Test.YtekgkeapdlgobaaFew
import Derived.Test.YtekgkeapdlgobaaStable
set_option linter.unusedVariables false
set_option linter.unusedSimpArgs false
namespace Go.Proofs.Ytekgkeapdlgobaa
open Go.RowKit Go.Sort

theorem sortAll_any (len : Nat) (ao : Option Addr) (cap : Nat) (l : List Msg) (w : World) (h : Lst encM 6 w ao len l) (hc : ao = none → cap = 0) (hn : len ≤ 1048576) :
    Calls Try.prog 22 #[.slice ao len cap] w (Sorted w len l) := sort_any len (stable_all len hn) ao cap l w h hc hn

set_option maxHeartbeats 4000000 in
theorem walk_KeySorts (w : World) (ao : Option Addr) (len cap : Nat) (l : List Msg) (hin : Lst encM 6 w ao len l ∧ (ao = none → cap = 0) ∧ ∀ m ∈ l, DepsIn w m) :
    Calls Try.prog 4 #[.slice ao len cap] w
      fun e w' => e = .returned (.bool true) ∧ Below w.heap.size w w' := by
  have HL := Lib.hid hin.1
  have HC := Lib.hid hin.2.1
  have HD := Lib.hid hin.2.2
  obtain ⟨i0, hi, hz0, hz1, hz2⟩ := info_parts infoM
  clear hin
  go_enter Try.func4, Try.ntmps4
  go_wp2_with fail
  refine (awake3_any _).mono ?_
  rintro e w1 ⟨rfl, hB⟩
  have HB1 := Lib.hid hB
  clear hB
  go_wp2_with fail
  refine (few_any ao len cap l w1 (HL.out.below HB1.out)).mono ?_
  rintro e w2 ⟨he, hB⟩
  have HB2 := Lib.hid (HB1.out.trans (hB.mono HB1.out.size))
  clear hB HB1
  rcases he with rfl | ⟨rfl, hlen, hdl⟩
  · go_wp2_with fail
    go_ret
    exact ⟨rfl, HB2.out⟩
  have HDL := Lib.hid hdl
  have HN := Lib.hid hlen
  have hlb : len ≤ 1048576 := by omega
  have HNB := Lib.hid hlb
  clear hdl hlen hlb
  go_wp2_with (at_builtin; refine append_own_any _ rfl (.tmp 9) (.tmp 10) 40 rfl w2.heap.size 50 i0 zeroM 6 72 Try.underlying40 hi hz0 hz1 hz2 rfl (by decide) _ _ _ rfl (World.ownsRow_made w2 #[] 0 (Nat.le_refl _) (Nat.zero_le _) (by simp)) ao len cap (flat encM l) rfl ?qn ?ql ?qc ?qo ?qm ?qb ?qh ?_)
  case qn =>
    intro h
    refine ⟨?_, HC.out h⟩
    rcases Nat.eq_zero_or_pos len with h0 | h0
    · exact h0
    · obtain ⟨b, o, e, _⟩ := HL.out.src h0
      rw [e] at h; cases h
  case ql => rw [flat_length encM 6 encM_length, HL.out.size]
  case qc =>
    intro ad had j u hj
    have hpos : 0 < len := by
      rcases Nat.eq_zero_or_pos len with h0 | h0
      · have : l = [] := List.eq_nil_of_length_eq_zero (by rw [HL.out.size, h0])
        subst this; cases hj
      · exact h0
    obtain ⟨b, o, e, hr⟩ := HL.out.src hpos
    rw [e] at had
    injection had with had
    subst had
    rw [add_lit']
    exact cell_later ((HB2.out.alloc HB2.out.size _)) (RowAt.flat encM_length hr j u hj)
  case qo => exact flat_one
  case qm => have := HN.out; unfold maxLen; omega
  case qb => have := HN.out; omega
  case qh => simp
  intro v1 w3 hv1 hg1
  have hv2 : w3.ownsRow w2.heap.size 50 6 v1 len (flat encM l) := by simpa using hv1
  have HB3 := Lib.hid ((HB2.out.alloc HB2.out.size _).grown hg1 (by have := HB2.out.size; simp; omega) (fun j hj => by
    have := HB2.out.size
    simp [Value.ownBlock] at hj
    omega))
  clear hv1 hg1 HB2
  obtain ⟨mo, mc, rfl⟩ := own_form' hv2
  have HM := Lib.hid (own_lst' encM_length HL.out.size hv2)
  have HMC := Lib.hid (show mo = none → mc = 0 from fun h => by
    rcases own_cases hv2 with ⟨h1, _⟩ | ⟨g, c, h1, _⟩
    · injection h1
    · injection h1 with h2; rw [h2] at h; cases h)
  clear hv2
  go_wp2_with fail
  refine (sortAll_any len mo mc l w3 HM.out HMC.out HNB.out).mono ?_
  rintro e w4 ⟨so, sc, M, rfl, _, hS, hM, hB⟩
  have HB4 := Lib.hid (HB3.out.trans (hB.mono HB3.out.size))
  have HM2 := Lib.hid (HM.out.below hB)
  have HS := Lib.hid (And.intro hS hM)
  clear hS hM hB HB3 HM
  go_wp2_with fail
  refine (refSort_any ao len cap l w4 (HL.out.below HB4.out) HNB.out).mono ?_
  rintro e w5 ⟨ro, rc, M', rfl, _, hS, hM, hB⟩
  have hMM : M' = M := IsSrt.one hS HS.out.1
  rw [hMM] at hM
  have HB5 := Lib.hid (HB4.out.trans (hB.mono HB4.out.size))
  have HM3 := Lib.hid (HM2.out.below hB)
  have HS2 := Lib.hid (And.intro (HS.out.2.below hB) hM)
  have HMEM := Lib.hid HS.out.1.fil
  clear hS hM hB HB4 HM2 HS hMM
  go_wp2_with fail
  refine (all_same so ro len sc rc M w5 HS2.out.1 HS2.out.2 (fun m hm => (HD.out m ((HMEM.out.mem m).1 hm)).below HB5.out) (fun m hm => Nat.le_trans (HDL.out m ((HMEM.out.mem m).1 hm)) (by decide)) HNB.out).mono ?_
  rintro e w6 ⟨rfl, hB⟩
  have HB6 := Lib.hid (HB5.out.trans (hB.mono HB5.out.size))
  have HM4 := Lib.hid (HM3.out.below hB)
  clear hB HB5 HM3 HS2
  go_wp2_with fail
  refine (all_same mo ao len mc cap l w6 HM4.out (HL.out.below HB6.out) (fun m hm => (HD.out m hm).below HB6.out) (fun m hm => Nat.le_trans (HDL.out m hm) (by decide)) HNB.out).mono ?_
  rintro e w7 ⟨rfl, hB⟩
  have HB7 := Lib.hid (HB6.out.trans (hB.mono HB6.out.size))
  clear hB HB6
  go_wp2_with fail
  go_ret
  exact ⟨rfl, HB7.out⟩
end Go.Proofs.Ytekgkeapdlgobaa
