/- A map of messages by their numbers: what stands in it as a function of the number. -/
import Derived.Test.YthgdiihibjnhoaaSMsg
import Derived.Maps.RangeWalk
set_option linter.unusedVariables false
set_option linter.unusedSimpArgs false
namespace Go.Proofs.Ythgdiihibjnhoaa
open Go.RowKit Go.Sort Go.Maps

theorem key32 : Keyed Try.prog 27 := int_keyed Try.underlying27
theorem wf_u32' (k : Nat) (h : k < 4294967296) : (Lit.int .u32 (k : Int)).wf = true := by
  have h1 : IntKind.u32.min = 0 := by decide
  have h2 : IntKind.u32.max = 4294967295 := by decide
  simp [Lit.wf, h1, h2]
  omega
theorem keyOf32 (k : Nat) (h : k < 4294967296) : keyOf Try.prog 27 (.int .u32 (k : Int)) = some (.int .u32 (k : Int)) := keyOf_int_mk Try.underlying27 (wf_u32' k h)
theorem isKey32 (k : Nat) (h : k < 4294967296) : WideAt.IsKeyLit (.int .u32 (k : Int)) := key32.key (keyOf32 k h)

/-- A message's value. -/
def valG (m : Mg) : Value := .agg (encG m).toArray
/-- The message of nought. -/
def zeroG : Mg := ⟨0, 0, 0, 0, none, 0, 0, [], { data := #[] }⟩
theorem zeroMsg (w : World) : (zeroValue 35).run Try.prog w = .ok (valG zeroG) w := by kernel_rfl
/-- How a message in a map reads: as itself. -/
noncomputable def rdG (v : Value) : Option (DataW Value × List MemPlace) :=
  open Classical in if ∃ m : Mg, v = valG m then some (.held v, []) else none
theorem rdG_mk (m : Mg) : rdG (valG m) = some (.held (valG m), []) := by unfold rdG; rw [if_pos ⟨m, rfl⟩]
theorem rdG_inv {v : Value} {y : DataW Value × List MemPlace} (h : rdG v = some y) : (∃ m : Mg, v = valG m) ∧ y = (.held v, []) := by
  unfold rdG at h
  split at h
  · rename_i hm; injection h with h; exact ⟨hm, h.symm⟩
  · cases h

/-- Block b is a map of n messages, of which at k stands H k. -/
structure MapAt (w : World) (b : Nat) (H : Nat → Option Mg) (n : Nat) : Prop where
  ex : ∃ D : DataW Value, w.ownsMap Try.prog 27 rdG b n D ∧ size D = n ∧
    (∀ k : Nat, k < 4294967296 → H k = none → has D (.int .u32 (k : Int)) = false) ∧ (∀ k : Nat, k < 4294967296 → ∀ m, H k = some m → ∀ z, D.atKey (.int .u32 (k : Int)) z = .held (valG m))

theorem owns_tight {w : World} {b n : Nat} {D : DataW Value} (h : w.ownsMap Try.prog 27 rdG b n D) : w.ownsMap Try.prog 27 rdG b (size D) D := by
  obtain ⟨es, clock, hb, F, hs, rfl⟩ := h
  refine ⟨es, clock, hb, F, ?_, rfl⟩
  simp [Maps.size, length_sorted]
theorem MapAt.made (w : World) : MapAt (w.alloc (.map #[] 0)) w.heap.size (fun _ => none) 0 :=
  ⟨_, World.ownsMap_made w _ _ _, rfl, fun k _ _ => rfl, fun k _ m h => by cases h⟩
theorem MapAt.lt {w : World} {b n : Nat} {H : Nat → Option Mg} (h : MapAt w b H n) : b < w.heap.size := by
  obtain ⟨D, ho, _⟩ := h
  exact ho.lt
theorem MapAt.grown {w w' : World} {b n : Nat} {H : Nat → Option Mg} {row : Option Nat} (h : MapAt w b H n) (hg : w.grownBy w' row) (hne : some b ≠ row) : MapAt w' b H n := by
  obtain ⟨D, ho, r⟩ := h
  exact ⟨D, ho.kept hg hne, r⟩
theorem MapAt.below {w w' : World} {b n B : Nat} {H : Nat → Option Mg} (h : MapAt w b H n) (hb : Below B w w') (hB : b < B) : MapAt w' b H n := by
  obtain ⟨D, ⟨es, clock, h1, r1⟩, r⟩ := h
  exact ⟨D, ⟨es, clock, (hb.block b hB).trans h1, r1⟩, r⟩
theorem MapAt.drew {w : World} {b n : Nat} {H : Nat → Option Mg} (h : MapAt w b H n) : MapAt w.drew b H n := ⟨h.ex⟩
theorem MapAt.alloc {w : World} {b n : Nat} {H : Nat → Option Mg} (h : MapAt w b H n) (o : Obj) : MapAt (w.alloc o) b H n := h.grown (World.grownBy_alloc w o none) (by simp)
theorem MapAt.setCell {w : World} {b n : Nat} {H : Nat → Option Mg} (h : MapAt w b H n) {a : Addr} (ha : b ≠ a.block) (u : Value) : MapAt (w.setCell a u) b H n := by
  obtain ⟨D, ho, r⟩ := h
  exact ⟨D, ho.setCell ha u, r⟩
theorem MapAt.congr {w : World} {b n : Nat} {H H' : Nat → Option Mg} (h : MapAt w b H n) (he : ∀ k, k < 4294967296 → H k = H' k) : MapAt w b H' n := by
  obtain ⟨D, ho, h1, h2, h3⟩ := h
  exact ⟨D, ho, h1, fun k hk e => h2 k hk ((he k hk).trans e), fun k hk m e => h3 k hk m ((he k hk).trans e)⟩

def setF (H : Nat → Option Mg) (k : Nat) (x : Option Mg) : Nat → Option Mg := fun j => if j = k then x else H j
theorem setF_same (H : Nat → Option Mg) (k : Nat) (x : Option Mg) : setF H k x k = x := if_pos rfl
theorem setF_other (H : Nat → Option Mg) (k : Nat) (x : Option Mg) {j : Nat} (h : j ≠ k) : setF H k x j = H j := if_neg h
theorem lit_ne {j k : Nat} (h : j ≠ k) : Lit.int .u32 (j : Int) ≠ Lit.int .u32 (k : Int) := by
  intro e
  injection e with _ e
  omega

end Go.Proofs.Ythgdiihibjnhoaa
