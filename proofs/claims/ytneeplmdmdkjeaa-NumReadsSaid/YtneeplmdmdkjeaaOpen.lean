/- What a walk is told of a slice of bytes that came in. -/
import Derived.Test.YtneeplmdmdkjeaaLaws
import Derived.ShutString
import Derived.ChangeOld
set_option linter.unusedVariables false
set_option linter.unusedSimpArgs false
namespace Go.Proofs.Ytneeplmdmdkjeaa
open Go.ChangeShapes Go.WideShapes Go.ChangeAt Go.RowKit

/-- A slice that came in, whose elements are the bytes l. -/
structure In8 (w : World) (ao : Option Addr) (len cap : Nat) (l : List UInt8) : Prop where
  size : l.length = len
  src : Src w ao l
  nil : ao = none → len = 0 ∧ cap = 0
  old : ∀ a, ao = some a → 0 < len → a.block < w.heap.size

theorem row8_open {H : Type} {enc : TypeId × Value → H} {W : World} {B : Nat} {hd : Bool} {a : Option Addr} {len cap : Nat} {d : DataW H} {p : List MemPlace}
    (h : DataW.Trod enc Try.prog W B (fun _ => true) hd 22 (.slice a len cap) d p) : ∃ l : List UInt8, In8 W a len cap l := by
  obtain ⟨fuel, hf⟩ := h
  rcases open_ints Try.underlying22 Try.underlying5 (by kernel_rfl) hf with ⟨hcs, _⟩ | ⟨x, l, c, zs, hcs, _, hl, hm, hz, _, hcell, hwz⟩
  · simp [Value.cells] at hcs
    obtain ⟨rfl, rfl, rfl⟩ := hcs
    exact ⟨[], rfl, .inl ⟨rfl, rfl⟩, fun _ => ⟨rfl, rfl⟩, fun a h _ => by cases h⟩
  · simp [Value.cells] at hcs
    obtain ⟨rfl, rfl, rfl⟩ := hcs
    have hz' : zs.length = cap := by simpa using hz
    have hc : ∀ i, i < len → W.cell? (x.add i) = some (.int .u8 (zs.getD i 0)) := fun i hi => hcell i (by omega)
    refine ⟨(zs.take len).map (fun z => UInt8.ofNat z.toNat), ?_, .inr ⟨x, rfl, fun j v hj => ?_⟩, fun h => (by cases h), fun a h h0 => ?_⟩
    · simp; omega
    · have hlt : j < (cells8 ((zs.take len).map (fun z => UInt8.ofNat z.toNat))).length := (List.getElem?_eq_some_iff.1 hj).1
      have hj2 : j < len := by simp [cells8] at hlt; omega
      rw [hc j hj2, ← hj]
      have hb := Go.bounds_u8 (hwz (zs.getD j 0) (by rw [List.getD_eq_getElem?_getD, List.getElem?_eq_getElem (by omega)]; simp))
      simp only [cells8, List.map_map, List.getElem?_map, List.getElem?_take, hj2, if_true]
      rw [List.getD_eq_getElem?_getD] at hb ⊢
      rw [List.getElem?_eq_getElem (by omega : j < zs.length)] at hb ⊢
      simp [cell8] at hb ⊢
      omega
    · cases h
      have := hc 0 h0
      exact World.block_lt_of_cell? _ _ (by simpa [Addr.add] using this)
end Go.Proofs.Ytneeplmdmdkjeaa
