/- Plans: Lacks. -/
import Derived.Test.YtmaiphgmnammgaaDoorZPlKeep
set_option linter.unusedVariables false
set_option maxRecDepth 100000
set_option linter.unusedSimpArgs false
namespace Go.Proofs.YtmaiphgmnammgaaDoor
open Go.RowKit Go.Sort Go.Shelf Go.Maps

/-- A gap. -/
structure Gp where
  q : Int
  h : Int
  fr : Int
  tz : Int
def encGp (x : Gp) : List Value := [.int .i64 x.q, .int .i64 x.h, .int .u32 x.fr, .int .u32 x.tz]
theorem encGp_length (x : Gp) : (encGp x).length = 4 := rfl
theorem flatGp_one {l : List Gp} : ∀ u ∈ flat encGp l, u.oneCell' = true := by
  intro u hu
  unfold flat at hu
  obtain ⟨c, hc, huc⟩ := List.mem_flatten.1 hu
  obtain ⟨m, _, rfl⟩ := List.mem_map.1 hc
  simp only [encGp, List.mem_cons, List.not_mem_nil, or_false] at huc
  rcases huc with rfl | rfl | rfl | rfl <;> rfl
/-- What lacks whoever has so many. -/
def gapK (f : Nat → Wh) (cnt : List Int) : Nat → List Gp
  | 0 => []
  | k + 1 => gapK f cnt k ++ (if cnt.getD k 0 < (f k).n then [⟨(k : Int), (f k).h, cnt.getD k 0 + 1, (f k).n⟩] else [])
theorem gapK_len (f : Nat → Wh) (cnt : List Int) : ∀ k, (gapK f cnt k).length ≤ k
  | 0 => Nat.le_refl _
  | k + 1 => by
    have := gapK_len f cnt k
    unfold gapK
    rw [List.length_append]
    split
    · simp only [List.length_singleton]; omega
    · simp only [List.length_nil]; omega
section
variable {w : World} {g : Nat} {P : Pn}
end
end Go.Proofs.YtmaiphgmnammgaaDoor
