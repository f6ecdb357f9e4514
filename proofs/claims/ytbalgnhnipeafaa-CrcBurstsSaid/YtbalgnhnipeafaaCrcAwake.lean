/- 'awake' answers true: the answers that the document fixes. -/
import Derived.Test.YtbalgnhnipeafaaCrcOpenRef
set_option linter.unusedVariables false
set_option linter.unusedSimpArgs false
namespace Go.Proofs.Ytbalgnhnipeafaa
open Go.RowKit

theorem Parts.new (w : World) (ps : List ByteArray) (t : TypeId) (h : ∀ s ∈ ps, s.size ≤ 1099511627776) : Parts (w.alloc (.cells (ps.map Value.string).toArray t)) (some ⟨w.heap.size, 0, none⟩) ps.length ps where
  size := rfl
  src := fun _ => ⟨_, _, rfl, fun i x hx => by
    rw [Nat.zero_add]; simp [hx]⟩
  few := h
theorem okB_seal (s : ByteArray) : okB (sealz s) = true := by
  unfold okB
  rw [sealz_nats]
  exact decide_eq_true (seal_ok _)
theorem openS_seal (s : ByteArray) : openS (sealz s) = s := by
  unfold openS
  rw [okB_seal, if_pos rfl]
  apply nats_inj
  rw [nats_front, sealz_nats, ← nats_length, sealz_nats, seal_take]

def ab : ByteArray := { data := #[97, 98] }
theorem awake_sum : crc (allN [{ data := #[49, 50, 51, 52] }, { data := #[53, 54, 55, 56, 57] }]) = 3421780262 := by decide +kernel
theorem awake_none : crc (allN []) = 0 := by decide +kernel

set_option maxHeartbeats 2000000 in
theorem awake_any (w : World) : Calls Try.prog 8 #[] w fun e w' => e = .returned (.bool true) ∧ Grw w w' := by
  have h1 : ∀ W, Calls Try.prog 13 #[.string { data := #[97, 98] }] W fun e w' => e = .returned (.string (sealz ab)) ∧ Grw W w' := fun W => seal_any ab W (by decide)
  have h2 : ∀ W, Calls Try.prog 9 #[.string (sealz ab)] W fun e w' => e = .returned (.tuple #[.string { data := #[97, 98] }, .bool true]) ∧ Grw W w' := fun W => by
    have := open_any (sealz ab) W (by rw [sealz_size]; decide)
    rw [openS_seal, okB_seal] at this
    exact this
  have h3 : ∀ W, Calls Try.prog 9 #[.string { data := #[97, 98, 99] }] W fun e w' => e = .returned (.tuple #[.string { data := #[] }, .bool false]) ∧ Grw W w' := fun W => by
    have := open_any { data := #[97, 98, 99] } W (by decide)
    rw [ok_short _ (by decide), show openS { data := #[97, 98, 99] } = { data := #[] } by unfold openS; rw [ok_short _ (by decide)]; rfl] at this
    exact this
  have h4 : ∀ W : World, Calls Try.prog 11 #[.slice (some ⟨W.heap.size, 0, none⟩) 2 2] (W.alloc (.cells #[.string { data := #[49, 50, 51, 52] }, .string { data := #[53, 54, 55, 56, 57] }] 9)) fun e w' => e = .returned (.int .u32 3421780262) ∧ (W.alloc (.cells #[.string { data := #[49, 50, 51, 52] }, .string { data := #[53, 54, 55, 56, 57] }] 9)) = w' := fun W => by
    have := sum_parts _ 2 2 [{ data := #[49, 50, 51, 52] }, { data := #[53, 54, 55, 56, 57] }] _ (Parts.new W [{ data := #[49, 50, 51, 52] }, { data := #[53, 54, 55, 56, 57] }] 9 (by decide)) (by decide)
    rw [awake_sum] at this
    exact this
  have h5 : ∀ W, Calls Try.prog 11 #[.slice none 0 0] W fun e w' => e = .returned (.int .u32 0) ∧ W = w' := fun W => by
    have := sum_parts none 0 0 [] W ⟨rfl, fun h => by omega, fun s h => by cases h⟩ (by decide)
    rw [awake_none] at this
    exact this
  generalize sealz ab = x at *
  go_enter Try.func8, Try.ntmps8
  go_wp2_with fail
  refine (h1 _).mono ?_
  rintro e w1 ⟨rfl, G1⟩
  go_wp2_with fail
  refine (h2 _).mono ?_
  rintro e w2 ⟨rfl, G2⟩
  go_wp2_with fail
  refine (h3 _).mono ?_
  rintro e w3 ⟨rfl, G3⟩
  go_wp2_with fail
  refine (h4 _).mono ?_
  rintro e w4 ⟨rfl, rfl⟩
  go_wp2_with fail
  refine (h5 _).mono ?_
  rintro e w4 ⟨rfl, rfl⟩
  go_wp2
  go_ret
  exact ⟨rfl, (((G1.trans G2).trans G3).alloc _)⟩
end Go.Proofs.Ytbalgnhnipeafaa
