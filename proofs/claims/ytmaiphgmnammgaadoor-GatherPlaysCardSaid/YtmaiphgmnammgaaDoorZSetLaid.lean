/- What a walk of stage 2 is told of the world in which the call begins: the library's table; a slice of numbers that came in. -/
import Derived.Test.YtmaiphgmnammgaaDoorZPops
import Derived.Test.YtmaiphgmnammgaaDoorRows
import Derived.ProofKit
import Derived.OpenShut
import Derived.ShutString
import Derived.ChangeOld
import Derived.Below
import Derived.LaidMore
import Derived.Lib.LaidTab
import Derived.Lay
import Derived.Stop.Joined
set_option linter.unusedVariables false
set_option linter.unusedSimpArgs false
namespace Go.Proofs.YtmaiphgmnammgaaDoor
open Go.ChangeShapes Go.WideShapes Go.ChangeAt Go.RowKit

theorem own : ownKnob Tryd.prog.godebug = none := by kernel_rfl
theorem laidOut : laidOutB Tryd.prog = true := by kernel_rfl
/-- What the rows list. -/
def laidT : List (String × DataW Unit) := [("math/bits.deBruijn64tab", Rows.laid_math_bits_deBruijn64tab)]
theorem laidT_tab : laidT = [("math/bits.deBruijn64tab", Lib.tabData .u8 (Lib.deBruijn64tab.map Int.ofNat))] := by rfl

theorem getD_cast (l : List Nat) (j : Nat) : (l.map Int.ofNat).getD j 0 = ((l.getD j 0 : Nat) : Int) := by
  simp only [List.getD, List.getElem?_map]
  cases l[j]? <;> rfl

/-- From the rows' condition to the walks' fact. -/
theorem tab_of_laid {W : World} (h : laidMetH Tryd.prog laidT W) : Tab W := by
  rw [MakeChecks.laidMetH_plain _ _ _ (by kernel_rfl), laidT_tab] at h
  have ht := Lib.tabIs_of_head (g := 0) (t := 90) (e := 5) (n := 64) (by kernel_rfl) (by kernel_rfl) Tryd.underlying90 Tryd.underlying5 (by kernel_rfl) (by kernel_rfl) h
  have hc : ∀ j, j < 64 → W.cell? ⟨0, j, none⟩ = some (.int .u8 (Lib.deBruijn64tab.getD j 0 : Nat)) := fun j hj => by
    have := ht.cell (g := 0) (by kernel_rfl) j (by simpa [Lib.deBruijn64tab] using hj)
    rw [getD_cast] at this
    exact this
  exact ⟨World.block_lt_of_cell? _ _ (hc 0 (by decide)), hc⟩

/-- A slice of numbers that came in. -/
theorem open_ints64 {H : Type} {enc : TypeId × Value → H} {W : World} {B : Nat} {hd : Bool} {a : Option Addr} {len cap : Nat} {d : DataW H} {p : List MemPlace}
    (h : DataW.Trod enc Tryd.prog W B (fun _ => true) hd 76 (.slice a len cap) d p) : ∃ l : List Int, InI W a len l := by
  obtain ⟨fuel, hf⟩ := h
  rcases open_ints Tryd.underlying76 Tryd.underlying3 (by kernel_rfl) hf with ⟨hcs, _⟩ | ⟨x, l, c, zs, hcs, _, hl, hm, hz, _, hcell, hwz⟩
  · simp [Value.cells] at hcs
    obtain ⟨rfl, rfl, rfl⟩ := hcs
    exact ⟨[], rfl, fun j v hj => by simp at hj, fun v hv => by simp at hv⟩
  · simp [Value.cells] at hcs
    obtain ⟨rfl, rfl, rfl⟩ := hcs
    have hz' : zs.length = cap := by simpa using hz
    refine ⟨zs.take len, by simp; omega, fun j v hj => ⟨x, rfl, ?_⟩, fun v hv => ?_⟩
    · have hlt : j < (zs.take len).length := (List.getElem?_eq_some_iff.1 hj).1
      have hj2 : j < len := by simp at hlt; omega
      rw [hcell j (by omega)]
      rw [List.getElem?_take, if_pos hj2] at hj
      rw [List.getD_eq_getElem?_getD, hj]
      rfl
    · have hv2 : v ∈ zs := List.mem_of_mem_take hv
      have hb := Go.bounds_i64 (hwz v hv2)
      omega
end Go.Proofs.YtmaiphgmnammgaaDoor
