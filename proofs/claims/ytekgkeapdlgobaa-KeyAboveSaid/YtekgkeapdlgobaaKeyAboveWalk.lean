/- The walk of 'KeyAbove'. -/
import Derived.Test.YtekgkeapdlgobaaKeyAwake
set_option linter.unusedVariables false
set_option linter.unusedSimpArgs false
namespace Go.Proofs.Ytekgkeapdlgobaa
open Go.RowKit Go.Sort

/-- One of the first k is n - 1 at least, or n is 1. -/
def belowB (n : Int) (l : List Int) (k : Nat) : Bool := decide (n = 1) || (l.take k).any fun x => decide (n - 1 ≤ x)
theorem belowB_zero (n : Int) (l : List Int) : belowB n l 0 = (n == 1) := by unfold belowB; by_cases h : n = 1 <;> simp [h]
theorem belowB_next (n : Int) (l : List Int) (k : Nat) (x : Int) (h : l[k]? = some x) : belowB n l (k + 1) = (belowB n l k || decide (n - 1 ≤ x)) := by
  obtain ⟨hlt, rfl⟩ := List.getElem?_eq_some_iff.1 h
  unfold belowB
  rw [List.take_succ_eq_append_getElem hlt, List.any_append, Bool.or_assoc]
  simp only [List.any_cons, List.any_nil, Bool.or_false]
theorem belowB_end (l : List Int) (hb : Bd64 l) : belowB (up1 (maxl 0 l)) l l.length = true := by
  unfold belowB
  rw [List.take_length]
  have hge := maxl_ge 0 l
  rcases maxl_mem 0 l with e | e
  · rw [e]; rfl
  · have : (l.any fun x => decide (up1 (maxl 0 l) - 1 ≤ x)) = true := List.any_eq_true.2 ⟨_, e, by
      unfold up1; split <;> simp <;> omega⟩
    rw [this, Bool.or_true]
theorem up1_bd (n : Int) (h0 : 0 ≤ n) (h1 : n ≤ 18446744073709551615) : 1 ≤ up1 n ∧ up1 n ≤ 18446744073709551615 ∧ ∀ x, x ≤ n → up1 n ≤ x → x = 18446744073709551615 := by
  unfold up1
  split <;> refine ⟨by omega, by omega, fun x h2 h3 => by omega⟩

set_option maxHeartbeats 2000000 in
theorem walk_KeyAbove (ao : Option Addr) (len cap : Nat) (l : List Int) (w : World) (hin : Lst encU 1 w ao len l ∧ Bd64 l) :
    Calls Try.prog 6 #[.slice ao len cap] w fun e w' => e = .returned (.bool true) ∧ Below w.heap.size w w' := by
  by_cases hbig : (5000 : Int) < len
  · clear hin
    go_enter Try.func6, Try.ntmps6
    go_wp2_with fail
    refine (awake3_any _).mono ?_
    rintro e w1 ⟨rfl, hB⟩
    go_wp2
    go_ret
    exact ⟨rfl, hB⟩
  have hl : len ≤ 5000 := by omega
  obtain ⟨n, hn⟩ : ∃ n, n = up1 (maxl 0 l) := ⟨_, rfl⟩
  have hm := maxl_bd l hin.2
  obtain ⟨n1, n2, n3⟩ := up1_bd _ hm.1 hm.2
  have hge := (maxl_ge 0 l).2
  have hend := belowB_end l hin.2
  rw [← hn] at n1 n2 n3 hend
  have HX : Hid (∀ x ∈ l, n ≤ x → x = 18446744073709551615) := Lib.hid fun x hx h => n3 x (hge x hx) h
  have HEND := Lib.hid hend
  have HIN := Lib.hid hin
  have HN := Lib.hid hn
  clear hm n3 hge hend hin hn
  go_enter Try.func6, Try.ntmps6
  go_wp2_with fail
  refine (awake3_any _).mono ?_
  rintro e w1 ⟨rfl, hB⟩
  have HB := Lib.hid hB
  clear hB
  go_wp2_with fail
  refine (above_any ao len cap l _ (HIN.out.1.below HB.out) HIN.out.2 (by omega)).mono ?_
  rintro e w2 ⟨rfl, rfl⟩
  rw [← HN.out]
  have h1 : 0 ≤ n - 1 := by omega
  go_wp2_with fail
  go_loop [4, 5] (fun s4 si => ∃ k : Nat, k ≤ len ∧ si = .int .i64 k ∧ s4 = .bool (belowB n l k)) (fun _ si => len - (intOf si).toNat)
  case atStart => exact ⟨0, Nat.zero_le _, rfl, by rw [belowB_zero]⟩
  case round =>
    obtain ⟨k, hk, rfl, rfl⟩ := hrel
    by_cases hlt : k < len
    · obtain ⟨b, o, rfl, hr⟩ := HIN.out.1.src (by omega)
      have hlt' : k < l.length := by rw [HIN.out.1.size]; exact hlt
      obtain ⟨x, hx⟩ : ∃ x, l[k]? = some x := ⟨_, List.getElem?_eq_getElem hlt'⟩
      have e0 : w.cell? ⟨b, o + k, none⟩ = some (.int .u64 x) := by have := hr k x hx 0 _ rfl; simpa using this
      have c0 := cell_later HB.out e0
      have HNX := Lib.hid (belowB_next n l k x hx)
      have hx0 := HIN.out.2 x (List.mem_of_getElem? hx)
      have hxn := HX.out x (List.mem_of_getElem? hx)
      have hq : n ≤ x → (x != 18446744073709551615) = false := fun h => by rw [hxn h]; rfl
      obtain ⟨x0, x1⟩ := hx0
      clear e0 hr hx hlt' hxn
      cases hbk : belowB n l k with
      | true =>
        rw [hbk] at HNX
        clear hbk
        by_cases hnx : n ≤ x
        · have hq2 := hq hnx
          clear hq
          go_wp2_with fail
          go_round
          case rel => exact ⟨k + 1, by omega, by go_num, by rw [HNX.out]; simp⟩
          case measure => simp [intOf]; omega
        · clear hq
          go_wp2_with fail
          go_round
          case rel => exact ⟨k + 1, by omega, by go_num, by rw [HNX.out]; simp⟩
          case measure => simp [intOf]; omega
      | false =>
        rw [hbk] at HNX
        clear hbk
        by_cases hnx : n ≤ x
        · have hq2 := hq hnx
          have hd : decide (n - 1 ≤ x) = true := decide_eq_true (by omega)
          have hd2 : n - 1 ≤ x := by omega
          have HNX2 := Lib.hid (HNX.out.trans (by rw [hd]; rfl : (false || decide (n - 1 ≤ x)) = true))
          clear hq
          go_wp2_with fail
          go_round
          case rel => exact ⟨k + 1, by omega, by go_num, by rw [HNX2.out]⟩
          case measure => simp [intOf]; omega
        · clear hq
          by_cases hd2 : n - 1 ≤ x
          · have HNX2 := Lib.hid (HNX.out.trans (by rw [decide_eq_true hd2]; rfl : (false || decide (n - 1 ≤ x)) = true))
            go_wp2_with fail
            go_round
            case rel => exact ⟨k + 1, by omega, by go_num, by rw [HNX2.out]⟩
            case measure => simp [intOf]; omega
          · have HNX2 := Lib.hid (HNX.out.trans (by rw [decide_eq_false hd2]; rfl : (false || decide (n - 1 ≤ x)) = false))
            go_wp2_with fail
            go_round
            case rel => exact ⟨k + 1, by omega, by go_num, by rw [HNX2.out]⟩
            case measure => simp [intOf]; omega
    · have hk2 : belowB n l k = true := by rw [show k = l.length by rw [HIN.out.1.size]; omega]; exact HEND.out
      go_wp2_with fail
      go_ret
      exact ⟨rfl, HB.out⟩
end Go.Proofs.Ytekgkeapdlgobaa
