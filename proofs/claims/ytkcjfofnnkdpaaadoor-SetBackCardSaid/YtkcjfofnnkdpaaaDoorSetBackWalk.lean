/- The walk of 'SetBack'. -/
import Derived.Test.YtkcjfofnnkdpaaaDoorSetAwake
import Derived.Test.YtkcjfofnnkdpaaaDoorSetLaws
import Derived.Deep.QuietTactic
import Derived.BigQuiet
import Derived.IntWalk
import Derived.WalkSmall
set_option linter.unusedVariables false
set_option linter.unusedSimpArgs false
namespace Go.Proofs.YtkcjfofnnkdpaaaDoor
open Go.RowKit

theorem lst_first (a : Nat) (ha : a < 18446744073709551616) (h : 0 < card a) : ((lst a)[0]?).map Int.ofNat = some (mn a) := by
  have h0 : a ≠ 0 := by rintro rfl; rw [card_zero] at h; omega
  obtain ⟨r, hr⟩ := lst_head a ha h0
  rw [hr]
  unfold mn
  rw [if_neg h0]
  rfl
theorem lst_at (a k : Nat) (h : k < card a) : ∃ q, (lst a)[k]? = some q ∧ q < 64 ∧ mem a (q : Int) = true := by
  have hl : k < (lst a).length := by rw [lst_length]; exact h
  refine ⟨(lst a)[k], List.getElem?_eq_getElem hl, ?_⟩
  obtain ⟨h1, h2⟩ := (lst_mem a _).1 (List.getElem_mem hl)
  exact ⟨h1, by rw [mem_nat _ _ h1, h2]⟩
theorem lst_step (a j p q : Nat) (hp : (lst a)[j]? = some p) (hq : (lst a)[j + 1]? = some q) : p < q := by
  obtain ⟨h1, rfl⟩ := List.getElem?_eq_some_iff.1 hp
  obtain ⟨h2, rfl⟩ := List.getElem?_eq_some_iff.1 hq
  exact List.pairwise_iff_getElem.1 (lst_rises a) j (j + 1) h1 h2 (by omega)

theorem Tab.drewN {w : World} (h : Tab w) (n : Nat) : Tab (w.drewN n) := ⟨h.size, h.at_⟩
theorem has_yes (a q : Nat) (w : World) (n : Nat) (ha : a < 18446744073709551616) (hq : q < 64) (hm : mem a (q : Int) = true) :
    Calls Tryd.prog 10 #[.int .u64 a, .int .i64 q] (w.drewN n) fun e w'' => e = .returned (.bool true) ∧ ∃ m, w'' = w.drewN m :=
  Calls.quiet_of_same ((has_any a q _ ha (by omega) (by omega)).mono fun _ _ ⟨he, hw⟩ => ⟨by rw [he, hm], hw.symm⟩)
theorem min_yes (a : Nat) (q : Int) (w : World) (n : Nat) (ha : a < 18446744073709551616) (hT : Tab w) (hm : mn a = q) :
    Calls Tryd.prog 22 #[.int .u64 a] (w.drewN n) fun e w'' => e = .returned (.int .i64 q) ∧ ∃ m, w'' = w.drewN m :=
  Calls.quiet_of_same ((min_any a _ ha (fun _ => hT.drewN n)).mono fun _ _ ⟨he, hw⟩ => ⟨by rw [he, hm], hw.symm⟩)

set_option maxHeartbeats 1000000 in
theorem walk_SetBack (a : Int) (wa : (Lit.int .u64 a).wf = true) (w : World) (hT : Tab w) :
    Calls Tryd.prog 5 #[.int .u64 a] w fun e w' => e = .returned (.bool true) ∧ Below w.heap.size w w' := by
  obtain ⟨a0, a1⟩ := wf_u64 wa
  obtain ⟨x, rfl⟩ := Int.eq_ofNat_of_zero_le a0
  have hx : x < 18446744073709551616 := by omega
  have HT := Lib.hid hT
  have HO := Lib.hid (ofl_lst x hx)
  have hcl := card_le x
  have hcl2 : card x ≤ 1099511627776 := Nat.le_trans (card_le x) (by decide)
  have HF := Lib.hid (lst_first x hx)
  clear hT wa a0 a1
  go_enter Tryd.func5, Tryd.ntmps5
  go_wp2_with fail
  refine (awake2_any _).mono ?_
  rintro e w1 ⟨rfl, hB⟩
  go_wp2_with fail
  refine (list_any _ _ hx).mono ?_
  rintro e w2 ⟨rfl, hin, h2⟩
  replace hB := hB.trans (h2.mono hB.size)
  have hz := h2.size
  clear h2
  go_wp2_with fail
  refine (of_any _ _ _ _ _ hin hcl2).mono ?_
  rintro e w3 ⟨rfl, rfl⟩
  rw [HO.out]
  go_wp2_with fail
  refine (size_any _ _ hx).mono ?_
  rintro e w3 ⟨rfl, rfl⟩
  have HS := Lib.hid hin.src
  clear hin
  go_wp2
  go_loopw [5] (fun i wr => ∃ k : Nat, k ≤ card x ∧ i = .int .i64 k ∧ Below w2.heap.size w2 wr) (fun i _ => card x - (intOf i).toNat)
  case atStart => exact ⟨0, Nat.zero_le _, rfl, Below.refl _ _⟩
  case round =>
    obtain ⟨k, hk, rfl, hnx⟩ := hrel
    by_cases hlt : k < card x
    · have hTr : Tab wr := HT.out.below (hB.trans (hnx.mono hB.size)) (Nat.le_refl _)
      have HTR := Lib.hid hTr
      clear hTr
      obtain ⟨q, hq, hq64, hm⟩ := lst_at x k hlt
      have HH := Lib.hid hm
      clear hm
      have hc : wr.cell? ⟨w1.heap.size, k, none⟩ = some (.int .i64 (q : Int)) := by
        obtain ⟨ad, e, hc⟩ := HS.out k (q : Int) (by rw [ints, List.getElem?_map, hq]; rfl)
        cases e
        rw [show (⟨w1.heap.size, 0, none⟩ : Addr).add k = ⟨w1.heap.size, k, none⟩ by cases k <;> simp [Addr.add]] at hc
        exact cell_later hnx hc
      by_cases hk0 : k = 0
      · subst hk0
        have hmn : mn x = (q : Int) := by
          have := HF.out hlt
          rw [hq] at this
          simpa using this.symm
        have HMN := Lib.hid hmn
        clear hq hmn
        go_wp2
        go_quiet ((first
          | (go_at_call 10; exact has_yes x q wr _ hx hq64 HH.out)
          | (go_at_call 22; exact min_yes x q wr _ hx HTR.out HMN.out)))
        go_wp2
        go_roundw
        case rel => exact ⟨1, by omega, by go_num, below_drewN hnx _⟩
        case measure => simp [intOf]; omega
      · obtain ⟨j, hj⟩ : ∃ j, k = j + 1 := ⟨k - 1, by omega⟩
        obtain ⟨p, hp, hp64, _⟩ := lst_at x j (by omega)
        have hpq := lst_step x j p q hp (by rw [← hj]; exact hq)
        have hd : wr.cell? ⟨w1.heap.size, j, none⟩ = some (.int .i64 (p : Int)) := by
          obtain ⟨ad, e, hd⟩ := HS.out j (p : Int) (by rw [ints, List.getElem?_map, hp]; rfl)
          cases e
          rw [show (⟨w1.heap.size, 0, none⟩ : Addr).add j = ⟨w1.heap.size, j, none⟩ by cases j <;> simp [Addr.add]] at hd
          exact cell_later hnx hd
        have d1 : decide ((q : Int) ≤ (p : Int)) = false := decide_eq_false (by omega)
        have d0 : decide (q ≤ p) = false := decide_eq_false (by omega)
        have d7 : (k == 0) = false := by simp; omega
        have d8 : decide (0 < k) = true := decide_eq_true (by omega)
        have d2 : IntKind.i64.wrap ((k : Int) - 1) = (j : Int) := by rw [Go.IntWalk.i64_in _ (by omega)]; omega
        have d3 : ((k : Int) == 0) = false := by rw [beq_eq_false_iff_ne]; omega
        have d4 : decide (0 < (k : Int)) = true := decide_eq_true (by omega)
        have d5 : j < card x := by omega
        have d6 : 0 < k := by omega
        have HJ := Lib.hid hj
        clear hj
        clear hq hp hpq hk0
        go_wp2
        go_quiet ((first
          | (go_at_call 10; exact has_yes x q wr _ hx hq64 HH.out)
          | (go_at_call 22; exact min_yes x q wr _ hx HTR.out HMN.out)))
        go_wp2
        go_roundw
        case rel => exact ⟨k + 1, by omega, by go_num, below_drewN hnx _⟩
        case measure => simp [intOf]; omega
    · go_wp2
      go_ret
      exact ⟨rfl, hB.trans (hnx.mono hB.size)⟩
end Go.Proofs.YtkcjfofnnkdpaaaDoor
