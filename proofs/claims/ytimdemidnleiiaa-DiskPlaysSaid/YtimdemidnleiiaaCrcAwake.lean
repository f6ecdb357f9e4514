/- 'awake' answers true: the answers that the document fixes. -/
import Derived.Test.YtimdemidnleiiaaCrcOpenRef
set_option linter.unusedVariables false
set_option linter.unusedSimpArgs false
namespace Go.Proofs.Ytimdemidnleiiaa
open Go.RowKit

theorem Parts.new (w : World) (ps : List ByteArray) (t : TypeId) (h : ∀ s ∈ ps, s.size ≤ 1099511627776) : Parts (w.alloc (.cells (ps.map Value.string).toArray t)) (some ⟨w.heap.size, 0, none⟩) ps.length ps where
  size := rfl
  src := fun _ => ⟨_, _, rfl, fun i x hx => by
    rw [Nat.zero_add]; simp [hx]⟩
  few := h
theorem okB_seal (s : ByteArray) : okB (sealz s) = true := by
  unfold okB
  rw [sealz_nats]
  exact decide_eq_true (seal_ok _)
theorem openS_seal (s : ByteArray) : openS (sealz s) = s := by
  unfold openS
  rw [okB_seal, if_pos rfl]
  apply nats_inj
  rw [nats_front, sealz_nats, ← nats_length, sealz_nats, seal_take]

def ab : ByteArray := { data := #[97, 98] }
theorem awake_sum : crc (allN [{ data := #[49, 50, 51, 52] }, { data := #[53, 54, 55, 56, 57] }]) = 3421780262 := by decide +kernel
theorem awake_none : crc (allN []) = 0 := by decide +kernel

end Go.Proofs.Ytimdemidnleiiaa
