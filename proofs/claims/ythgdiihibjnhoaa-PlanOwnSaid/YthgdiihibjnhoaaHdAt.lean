/- A hold in memory: its block of 128 cells, its rows, their Deps; process, Low, of, Count, New. -/
import Derived.Test.YthgdiihibjnhoaaHdKit
import Derived.Deep.RegionWith
import Derived.BigQuiet
import Derived.StillTailTactics
set_option linter.unusedVariables false
set_option linter.unusedSimpArgs false
namespace Go.Proofs.Ythgdiihibjnhoaa
open Go.RowKit Go.Sort

def updF {α : Type} (f : Nat → α) (p : Nat) (x : α) : Nat → α := fun q => if q = p then x else f q
theorem updF_same {α : Type} (f : Nat → α) (p : Nat) (x : α) : updF f p x p = x := if_pos rfl
theorem updF_other {α : Type} (f : Nat → α) (p q : Nat) (x : α) (h : q ≠ p) : updF f p x q = f q := if_neg h
def rowF {α : Type} (v : α → Value) (f : Nat → α) : List Value := (List.range 64).map fun p => v (f p)
theorem rowF_length {α : Type} (v : α → Value) (f : Nat → α) : (rowF v f).length = 64 := by simp [rowF]
theorem rowF_at {α : Type} (v : α → Value) (f : Nat → α) (p : Nat) (hp : p < 64) : (rowF v f)[p]? = some (v (f p)) := by
  unfold rowF; rw [List.getElem?_map, List.getElem?_range hp]; rfl
theorem rowF_set {α : Type} (v : α → Value) (f : Nat → α) (p : Nat) (x : α) (hp : p < 64) : (rowF v f).set p (v x) = rowF v (updF f p x) := by
  apply List.ext_getElem?
  intro i
  rw [List.getElem?_set]
  by_cases hi : i < 64
  · rw [rowF_at _ _ i hi, rowF_at _ _ i hi]
    by_cases e : p = i
    · subst e; rw [if_pos rfl, if_pos (by rw [rowF_length]; exact hp), updF_same]
    · rw [if_neg e, updF_other _ _ _ _ (fun h => e h.symm)]
  · rw [if_neg (by omega), List.getElem?_eq_none (by rw [rowF_length]; omega), List.getElem?_eq_none (by rw [rowF_length]; omega)]
def vU (n : Nat) : Value := .int .u32 (n : Int)
/-- The cells of a hold. -/
def hC (lo : Nat → Nat) (sl : Nat → Sl) : List Value := rowF vU lo ++ rowF Sl.v sl
theorem hC_length (lo : Nat → Nat) (sl : Nat → Sl) : (hC lo sl).length = 128 := by unfold hC; rw [List.length_append, rowF_length, rowF_length]
theorem hC_lo (lo : Nat → Nat) (sl : Nat → Sl) (p : Nat) (hp : p < 64) : (hC lo sl)[p]? = some (.int .u32 (lo p : Int)) := by
  unfold hC; rw [List.getElem?_append_left (by rw [rowF_length]; exact hp), rowF_at _ _ _ hp]; rfl
theorem hC_sl (lo : Nat → Nat) (sl : Nat → Sl) (p : Nat) (hp : p < 64) : (hC lo sl)[64 + p]? = some (sl p).v := by
  unfold hC; rw [List.getElem?_append_right (by rw [rowF_length]; omega), rowF_length, Nat.add_sub_cancel_left, rowF_at _ _ _ hp]
theorem hC_set_lo (lo : Nat → Nat) (sl : Nat → Sl) (p n : Nat) (hp : p < 64) : (hC lo sl).toArray.setIfInBounds p (.int .u32 (n : Int)) = (hC (updF lo p n) sl).toArray := by
  rw [List.setIfInBounds_toArray]; congr 1
  unfold hC
  rw [List.set_append_left _ _ (by rw [rowF_length]; exact hp)]
  congr 1
  exact rowF_set vU lo p n hp
theorem hC_set_sl (lo : Nat → Nat) (sl : Nat → Sl) (p : Nat) (s : Sl) (hp : p < 64) : (hC lo sl).toArray.setIfInBounds (64 + p) s.v = (hC lo (updF sl p s)).toArray := by
  rw [List.setIfInBounds_toArray]; congr 1
  unfold hC
  rw [List.set_append_right _ _ (by rw [rowF_length]; omega), rowF_length, Nat.add_sub_cancel_left, rowF_set _ _ _ _ hp]
theorem hC_one (lo : Nat → Nat) (sl : Nat → Sl) : (hC lo sl).toArray.all (·.oneCell') = true := by
  simp [hC, rowF, vU, Sl.v, Value.oneCell']

/-- A message whose Deps lie in blocks of F. -/
structure DpT (w : World) (F : Nat → Prop) (x : Mg) : Prop where
  deps : DpIn w x
  few : x.dl ≤ 1048576
  typ : ∀ ad, x.a = some ad → F ad.block ∧ ∃ cur, w.heap[ad.block]? = some (.cells cur 27 (0, 0))
theorem DpIn.moved {w w' : World} {x : Mg} (h : DpIn w x) (hb : ∀ ad, x.a = some ad → w'.heap[ad.block]? = w.heap[ad.block]?) : DpIn w' x := by
  refine ⟨h.size, fun h0 => ?_⟩
  obtain ⟨b, o, e, R⟩ := h.src h0
  exact ⟨b, o, e, fun i y hy c v hv => (World.cell?_of_block (a := ⟨b, o + i * 1 + c, none⟩) (by exact hb ⟨b, o, none⟩ e)).trans (R i y hy c v hv)⟩
theorem DpT.kept {w w' : World} {F : Nat → Prop} {x : Mg} (h : DpT w F x) (hb : ∀ ad, x.a = some ad → w'.heap[ad.block]? = w.heap[ad.block]?) : DpT w' F x :=
  ⟨h.deps.moved hb, h.few, fun ad e => ⟨(h.typ ad e).1, by obtain ⟨cur, hc⟩ := (h.typ ad e).2; exact ⟨cur, (hb ad e).trans hc⟩⟩⟩
theorem DpT.lt {w : World} {F : Nat → Prop} {x : Mg} (h : DpT w F x) (ad : Addr) (e : x.a = some ad) : ad.block < w.heap.size := by
  obtain ⟨cur, hc⟩ := (h.typ ad e).2
  exact (Array.getElem?_eq_some_iff.1 hc).1
theorem DpT.below {w w' : World} {F : Nat → Prop} {x : Mg} (h : DpT w F x) (hb : Below w.heap.size w w') : DpT w' F x := h.kept fun ad e => hb.block _ (h.lt ad e)
theorem DpT.more {w : World} {F E : Nat → Prop} {x : Mg} (h : DpT w F x) (hE : ∀ k, k < w.heap.size → F k → E k) : DpT w E x :=
  ⟨h.deps, h.few, fun ad e => ⟨hE _ (h.lt ad e) (h.typ ad e).1, (h.typ ad e).2⟩⟩
/-- Its Deps don't lie in a block of messages. -/
theorem DpT.ne {w : World} {F : Nat → Prop} {x : Mg} (h : DpT w F x) (ad : Addr) (e : x.a = some ad) {b : Nat} {cur : Array Value} (hb : w.heap[b]? = some (.cells cur 35 (0, 0))) : ad.block ≠ b := by
  rintro rfl
  obtain ⟨c, hc⟩ := (h.typ ad e).2
  rw [hc] at hb
  injection hb with hb
  injection hb with _ hb _
  exact absurd hb (by decide)
section
variable {w : World} {F : Nat → Prop} {g N : Nat} {lo : Nat → Nat} {sl : Nat → Sl} {X : Nat → List Mg}
end

/-- Of a process; z of what is none. -/
def onP {α : Type} (z : α) (f : Nat → α) (p : Int) : α := if 0 ≤ p ∧ p < 64 then f p.toNat else z
theorem onP_yes {α : Type} (z : α) (f : Nat → α) (k : Nat) (hk : k < 64) : onP z f (k : Int) = f k := by
  unfold onP; rw [if_pos (by omega), Int.toNat_natCast]
theorem onP_no {α : Type} (z : α) (f : Nat → α) (p : Int) (hp : ¬ (0 ≤ p ∧ p < 64)) : onP z f p = z := if_neg hp
theorem proc_cases (p : Int) : (∃ k : Nat, p = (k : Int) ∧ k < 64) ∨ ¬ (0 ≤ p ∧ p < 64) := by
  by_cases h : 0 ≤ p ∧ p < 64
  · obtain ⟨k, rfl⟩ := Int.eq_ofNat_of_zero_le h.1
    exact .inl ⟨k, rfl, by omega⟩
  · exact .inr h
section
variable {w : World} {F : Nat → Prop} {g N : Nat} {lo : Nat → Nat} {sl : Nat → Sl} {X : Nat → List Mg}
/-- The count. -/
def cntF (lo : Nat → Nat) (X : Nat → List Mg) : Nat → Nat := fun p => lo p + (X p).length
end
end Go.Proofs.Ythgdiihibjnhoaa
