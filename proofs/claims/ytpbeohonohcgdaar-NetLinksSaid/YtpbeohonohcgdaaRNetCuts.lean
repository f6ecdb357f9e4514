/- What came in, opened: a slice of sets' numbers. -/
import Derived.Test.YtpbeohonohcgdaaRNetLinksWalk
set_option linter.unusedVariables false
set_option linter.unusedSimpArgs false
namespace Go.Proofs.YtpbeohonohcgdaaR
open Go.ChangeShapes Go.WideShapes Go.ChangeAt Go.RowKit Go.Joins Go.Deep

section
variable {H : Type} {enc : TypeId × Value → H} {W : World} {B : Nat} {hd : Bool}
theorem open_cuts {a : Option Addr} {len cap : Nat} {d : DataW H} {p : List MemPlace} (h : DataW.Trod enc Try.prog W B (fun _ => true) hd 38 (.slice a len cap) d p) :
    ∃ l : List Nat, Lst encW 1 W a len l ∧ ∀ s ∈ l, s < 18446744073709551616 := by
  obtain ⟨fuel, hf⟩ := h
  rcases open_ints Try.underlying38 Try.underlying29 (by kernel_rfl) hf with ⟨hcs, _⟩ | ⟨x, l, c, zs, hcs, _, hl, hm, hz, _, hcell, hwz⟩
  · simp [Value.cells] at hcs
    obtain ⟨rfl, rfl, rfl⟩ := hcs
    exact ⟨[], ⟨rfl, fun h => by omega⟩, fun v hv => by cases hv⟩
  · simp [Value.cells] at hcs
    obtain ⟨rfl, rfl, rfl⟩ := hcs
    have hz' : zs.length = cap := by simpa using hz
    have hb : ∀ v ∈ zs, 0 ≤ v ∧ v < 18446744073709551616 := fun v hv => by
      have := Go.bounds_u64 (hwz v hv)
      omega
    refine ⟨(zs.take len).map Int.toNat, ⟨by simp; omega, fun h0 => ?_⟩, fun v hv => ?_⟩
    · obtain ⟨b, o, sp⟩ := x
      have hsp : sp = none := by simpa [Addr.add] using World.cell?_spot (hcell 0 (by omega))
      subst hsp
      refine ⟨b, o, rfl, fun i n hn c v hv => ?_⟩
      rw [List.getElem?_map] at hn
      cases hz2 : (zs.take len)[i]? with
      | none => rw [hz2] at hn; cases hn
      | some z =>
        rw [hz2] at hn
        have hn' : z.toNat = n := by simpa using hn
        subst hn'
        have hi : i < len := by
          have := (List.getElem?_eq_some_iff.1 hz2).1
          rw [List.length_take] at this
          omega
        rw [List.getElem?_take, if_pos hi] at hz2
        have h1 := hcell i (by omega)
        rw [nadd_lit, List.getD_eq_getElem?_getD, hz2] at h1
        have hz3 := hb z (List.mem_of_getElem? hz2)
        match c, hv with
        | 0, hv =>
          have : v = .int .u64 (z.toNat : Int) := by simpa [encW] using hv.symm
          rw [this, Nat.mul_one, Nat.add_zero, Int.toNat_of_nonneg hz3.1]; exact h1
        | c + 1, hv => simp [encW] at hv
    · obtain ⟨z, hz2, rfl⟩ := List.mem_map.1 hv
      have := hb z (List.mem_of_mem_take hz2)
      omega
end
end Go.Proofs.YtpbeohonohcgdaaR
