/- A plan in memory: its block of 131 cells; the ends in theirs. -/
import Derived.Test.YtmaiphgmnammgaaDoorZPlMath
import Derived.Test.YtmaiphgmnammgaaDoorZPops
import Derived.Test.YtmaiphgmnammgaaDoorZSMaps
import Derived.BigRegion
set_option linter.unusedVariables false
set_option linter.unusedSimpArgs false
namespace Go.Proofs.YtmaiphgmnammgaaDoor
open Go.RowKit Go.Sort

def encWh (u : Wh) : List Value := [.int .u32 u.n, .int .i64 u.h]
theorem encWh_length (u : Wh) : (encWh u).length = 2 := rfl
def rowW (f : Nat → Wh) : List Value := flat encWh ((List.range 64).map f)
theorem rowW_length (f : Nat → Wh) : (rowW f).length = 128 := by
  unfold rowW; rw [flat_length encWh 2 encWh_length]; simp
theorem rowW_at (f : Nat → Wh) (p : Nat) (hp : p < 64) (c : Nat) (hc : c < 2) : (rowW f)[p * 2 + c]? = (encWh (f p))[c]? := by
  unfold rowW
  exact flat_at encWh 2 encWh_length _ p _ (by rw [List.getElem?_map, List.getElem?_range hp]; rfl) c hc
theorem rowW_set (f : Nat → Wh) (p : Nat) (hp : p < 64) (u : Wh) : (rowW f).take (p * 2) ++ encWh u ++ (rowW f).drop (p * 2 + 2) = rowW (updW f p u) := by
  apply List.ext_getElem?
  intro i
  have hl := rowW_length f
  have hl2 := rowW_length (updW f p u)
  have hd : i / 2 * 2 + i % 2 = i := by omega
  have h2 : i % 2 < 2 := Nat.mod_lt _ (by decide)
  have ht : ((rowW f).take (p * 2)).length = p * 2 := by rw [List.length_take, hl]; omega
  by_cases hi : i < 128
  · have h64 : i / 2 < 64 := by omega
    have e2 := rowW_at (updW f p u) (i / 2) h64 (i % 2) h2
    have e1 := rowW_at f (i / 2) h64 (i % 2) h2
    rw [hd] at e1 e2
    rw [e2]
    by_cases e : i / 2 = p
    · subst e
      rw [updW_same, List.append_assoc, List.getElem?_append_right (by rw [ht]; omega), ht, List.getElem?_append_left (by rw [encWh_length]; omega)]
      congr 1; omega
    · rw [updW_other _ _ _ _ e, ← e1]
      by_cases hlt : i < p * 2
      · rw [List.append_assoc, List.getElem?_append_left (by rw [ht]; exact hlt), List.getElem?_take, if_pos hlt]
      · rw [List.getElem?_append_right (by rw [List.length_append, ht, encWh_length]; omega), List.length_append, ht, encWh_length, List.getElem?_drop]
        congr 1; omega
  · rw [List.getElem?_eq_none (l := rowW (updW f p u)) (by rw [hl2]; omega), List.getElem?_eq_none (by simp only [List.length_append, ht, encWh_length, List.length_drop, hl]; omega)]
def Pn.cells (P : Pn) : List Value := .int .u64 (P.cs : Int) :: (rowW P.f ++ [.int .u64 P.bd.n, .int .i64 P.bd.p])
theorem Pn.cells_length (P : Pn) : P.cells.length = 131 := by unfold Pn.cells; simp [rowW_length]
section
variable {w : World} {g : Nat} {P : Pn}
end
/-- The ends in their block. -/
def vI64 (v : Int) : Value := .int .u64 v
section
variable {w : World} {b : Nat} {e : Nat → Int}
end
theorem ends_one (e : Nat → Int) : (rowF vI64 e).toArray.all (·.oneCell') = true := by simp [rowF, vI64, Value.oneCell']
theorem grown_cells15 (g : Nat) : ∀ (vs : List Value) (o : Nat) (w : World), w.grownBy (w.setCells g o vs) (some g)
  | [], o, w => World.grownBy.refl w _
  | v :: r, o, w => by
    have h1 : w.grownBy (w.setCell ⟨g, o, none⟩ v) (some g) := ⟨rfl, rfl, rfl, by simp [World.setCell], fun k hk hn => heap_setCell_other w _ _ v (by show k ≠ g; intro e; exact hn (by rw [e]))⟩
    have h2 := grown_cells15 g r (o + 1) (w.setCell ⟨g, o, none⟩ v)
    exact ⟨h2.os.trans h1.os, h2.tape.trans h1.tape, h2.output.trans h1.output, Nat.le_trans h1.size h2.size, fun i hi hn => (h2.block i (Nat.lt_of_lt_of_le hi h1.size) hn).trans (h1.block i hi hn)⟩
end Go.Proofs.YtmaiphgmnammgaaDoor
