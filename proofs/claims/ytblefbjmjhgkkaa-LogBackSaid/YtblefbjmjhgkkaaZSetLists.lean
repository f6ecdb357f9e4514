/- The contract of the program's own List: the members, rising, in new memory. -/
import Derived.Test.YtblefbjmjhgkkaaZPops
set_option linter.unusedVariables false
set_option maxRecDepth 100000
set_option linter.unusedSimpArgs false
namespace Go.Proofs.Ytblefbjmjhgkkaa
open Go.RowKit

theorem Try.info64 : (Try.prog.info? 3).map (fun i => (i.zero, i.size, i.bytes)) = some (some (.int .i64 0), 1, 8) := by kernel_rfl

/-- The first members, up to k. -/
def flt (a k : Nat) : List Nat := (List.range k).filter a.testBit
theorem flt_all (a : Nat) : flt a 64 = lst a := rfl
theorem flt_le (a k : Nat) (h : k ≤ 64) : (flt a k).length ≤ card a := by
  rw [← lst_length]
  unfold flt lst
  rw [show (64 : Nat) = k + (64 - k) by omega, List.range_add, List.filter_append, List.length_append]
  omega
theorem flt_yes (a k : Nat) (h : a.testBit k = true) : flt a (k + 1) = flt a k ++ [k] := by
  unfold flt; rw [List.range_succ, List.filter_append]; simp [h]
theorem flt_no (a k : Nat) (h : a.testBit k = false) : flt a (k + 1) = flt a k := by
  unfold flt; rw [List.range_succ, List.filter_append]; simp [h]
/-- Numbers as the cells that hold them. -/
def cellsI (l : List Nat) : List Value := l.map fun (p : Nat) => Value.int .i64 (p : Int)

/-- A row of the call's own reads as its numbers. -/
theorem InI.own {w : World} {base g n cap : Nat} {L : List Nat} (h : w.ownsRow base 3 1 (.slice (some ⟨g, 0, none⟩) n cap) n (cellsI L)) (hL : ∀ p ∈ L, p < 64) : InI w (some ⟨g, 0, none⟩) n (ints L) := by
  have hn : n = L.length := by have := h.1; simp [cellsI] at this; omega
  refine ⟨by simp [ints, hn], fun j v hj => ⟨_, rfl, ?_⟩, fun v hv => ?_⟩
  · have hlt : j < L.length := by
      have := (List.getElem?_eq_some_iff.1 hj).1
      simpa [ints] using this
    rw [show (⟨g, 0, none⟩ : Addr).add j = ⟨g, j, none⟩ by cases j <;> simp [Addr.add], h.cellAt j (by omega)]
    rw [ints, List.getElem?_map, List.getElem?_eq_getElem hlt] at hj
    rw [cellsI, List.getElem?_map, List.getElem?_eq_getElem hlt]
    cases hj
    rfl
  · obtain ⟨p, hp, rfl⟩ := List.mem_map.1 hv
    have := hL p hp
    simp only [Int.ofNat_eq_natCast]
    omega
theorem flt_lt (a k : Nat) (h : k ≤ 64) : ∀ p ∈ flt a k, p < 64 := fun p hp => by
  unfold flt at hp
  have := (List.mem_filter.1 hp).1
  have : p < k := by simpa using this
  omega

end Go.Proofs.Ytblefbjmjhgkkaa
