/- The contracts of the document's own Of and Same. -/
import Derived.Test.YtkcjfofnnkdpaaaDoorRefList
import Derived.Deep.QuietTactic
import Derived.BigQuiet
import Derived.WalkSmall
set_option linter.unusedVariables false
set_option linter.unusedSimpArgs false
namespace Go.Proofs.YtkcjfofnnkdpaaaDoor
open Go.RowKit

/-- Is p in the list? -/
def inl (l : List Int) (p : Nat) : Bool := l.contains (p : Int)
theorem ofl_inl (l : List Int) : num (inl l) = ofl l := rfl
theorem contains_snoc (l : List Int) (z : Int) (i : Nat) : (l ++ [z]).contains (i : Int) = (l.contains (i : Int) || decide ((i : Int) = z)) := by
  rw [Bool.eq_iff_iff]; simp

set_option maxHeartbeats 2000000 in
set_option maxRecDepth 100000 in
theorem refOf_any (ao : Option Addr) (len c : Nat) (l : List Int) (w : World) (hin : InI w ao len l) (hl : len ≤ 1099511627776) :
    Calls Tryd.prog 31 #[.slice ao len c] w fun e w' => e = .returned (.int .u64 (ofl l : Nat)) ∧ Below w.heap.size w w' := by
  obtain ⟨hlen, hsrc, hbd⟩ := hin
  have HL := Lib.hid hlen
  have HS := Lib.hid hsrc
  have HB := Lib.hid hbd
  clear hlen hsrc hbd
  go_enter Tryd.func31, Tryd.ntmps31
  go_wp2_with fail
  go_loopw [4] (fun i wr => ∃ k : Nat, k ≤ len ∧ i = .int .i64 k ∧ Row wr w.heap.size (fun p => (l.take k).contains (p : Int)) ∧ Below w.heap.size w wr)
    (fun i _ => len - (intOf i).toNat)
  case atStart =>
    refine ⟨0, Nat.zero_le _, rfl, ?_, (Below.refl _ _).alloc (Nat.le_refl _) _⟩
    refine Row.ext (f := fun _ => false) ?_ (fun i _ => by simp)
    exact ⟨Go.heap_alloc_new w _⟩
  case round =>
    obtain ⟨k, hk, rfl, h1, hnx⟩ := hrel
    by_cases hlt : k < len
    · have hkl : k < l.length := by rw [HL.out]; exact hlt
      obtain ⟨ad, rfl, hc0⟩ := HS.out k l[k] (List.getElem?_eq_getElem hkl)
      have hc := cell_later hnx hc0
      obtain ⟨b0, b1⟩ := HB.out l[k] (List.getElem_mem hkl)
      have HT := Lib.hid (show l.take (k + 1) = l.take k ++ [l[k]] from List.take_succ_eq_append_getElem hkl)
      generalize l[k] = z at *
      clear hkl hc0
      by_cases hneg : z < 0
      · have d1 : decide (0 ≤ z) = false := decide_eq_false (by omega)
        go_wp2
        go_roundw
        case rel =>
          refine ⟨k + 1, by omega, by go_num, h1.ext (fun i hi => ?_), hnx⟩
          rw [HT.out, contains_snoc, decide_eq_false (show ¬ (i : Int) = z by omega), Bool.or_false]
        case measure => simp [intOf]; omega
      by_cases hbig : 64 ≤ z
      · have d1 : decide (0 ≤ z) = true := decide_eq_true (by omega)
        have d2 : decide (z < 64) = false := decide_eq_false (by omega)
        go_wp2
        go_roundw
        case rel =>
          refine ⟨k + 1, by omega, by go_num, h1.ext (fun i hi => ?_), hnx⟩
          rw [HT.out, contains_snoc, decide_eq_false (show ¬ (i : Int) = z by omega), Bool.or_false]
        case measure => simp [intOf]; omega
      · obtain ⟨j, rfl⟩ := Int.eq_ofNat_of_zero_le (show 0 ≤ z by omega)
        have hj : j < 64 := by omega
        have c1 := h1.cell j hj
        have f1 := h1.free j
        have d2 : decide ((j : Int) < 64) = true := decide_eq_true (by omega)
        clear hneg hbig
        go_wp2
        go_roundw
        case rel =>
          refine ⟨k + 1, by omega, by go_num, ?_, hnx.setCell (Nat.le_refl _) _⟩
          refine (h1.set j true hj).ext (fun i hi => ?_)
          rw [HT.out, contains_snoc]
          by_cases e : i = j
          · subst e; simp
          · rw [if_neg e, decide_eq_false (show ¬ (i : Int) = j by omega), Bool.or_false]
        case measure => simp [intOf]; omega
    · have hk2 : k = len := by omega
      have h1' : Row wr w.heap.size (inl l) := h1.ext (fun i hi => by rw [List.take_of_length_le (by rw [HL.out]; omega)]; rfl)
      have HO := Lib.hid (ofl_inl l)
      clear hk2 h1
      go_wp2_with (refine wpList_load_row rfl 45 (.tmp 3) rfl w.heap.size rfl 45 (truths (inl l)) (0, 0) _ h1'.is Tryd.underlying45 rfl (Tryd.info45 _) ?_)
      refine (refSet_any _ _).mono ?_
      rintro e w3 ⟨rfl, hb3⟩
      go_wp2
      go_ret
      exact ⟨by rw [← HO.out]; rfl, hnx.trans (hb3.mono hnx.size)⟩

set_option maxHeartbeats 1000000 in
theorem same_any (ao bo : Option Addr) (len c c' : Nat) (l : List Int) (w : World) (ha : InI w ao len l) (hb : InI w bo len l) (hl : len ≤ 1099511627776) :
    Calls Tryd.prog 24 #[.slice ao len c, .slice bo len c'] w fun e w' => e = .returned (.bool true) ∧ Below w.heap.size w w' := by
  have HL := Lib.hid ha.size
  have HA := Lib.hid ha.src
  have HB := Lib.hid hb.src
  clear ha hb
  go_enter Tryd.func24, Tryd.ntmps24
  go_wp2
  go_loopw [5] (fun i wr => ∃ k : Nat, k ≤ len ∧ i = .int .i64 k ∧ Below w.heap.size w wr) (fun i _ => len - (intOf i).toNat)
  case atStart => exact ⟨0, Nat.zero_le _, rfl, Below.refl _ _⟩
  case round =>
    obtain ⟨k, hk, rfl, hnx⟩ := hrel
    by_cases hlt : k < len
    · have hkl : k < l.length := by rw [HL.out]; exact hlt
      obtain ⟨ad, rfl, hc0⟩ := HA.out k l[k] (List.getElem?_eq_getElem hkl)
      obtain ⟨bd, rfl, hd0⟩ := HB.out k l[k] (List.getElem?_eq_getElem hkl)
      have hc := cell_later hnx hc0
      have hd := cell_later hnx hd0
      generalize l[k] = z at *
      clear hkl hc0 hd0
      go_wp2
      go_quiet (fail)
      go_wp2
      go_roundw
      case rel => exact ⟨k + 1, by omega, by go_num, below_drewN hnx _⟩
      case measure => simp [intOf]; omega
    · go_wp2
      go_ret
      exact ⟨rfl, hnx⟩
end Go.Proofs.YtkcjfofnnkdpaaaDoor
