/- What was sealed, with one byte turned (a copy of stage 4's, under names of its own). -/
import Derived.Test.YtbciamoaohdbjaaCrcAwake
import Derived.BigRegion
set_option linter.unusedVariables false
set_option linter.unusedSimpArgs false
namespace Go.Proofs.Ytbciamoaohdbjaa
open Go.RowKit

theorem bd_i64 {a : Int} (h : (Lit.int .i64 a).wf = true) : -9223372036854775808 ≤ a ∧ a ≤ 9223372036854775807 := by
  have := Go.bounds_i64 h
  omega
theorem bd_u8 {a : Int} (h : (Lit.int .u8 a).wf = true) : 0 ≤ a ∧ a ≤ 255 := by
  have := Go.bounds_u8 h
  omega
/-- A text of one byte. -/
def byteB (c : Nat) : ByteArray := ⟨#[UInt8.ofNat c]⟩
theorem byteB_nats {c : Nat} (h : c < 256) : nats (byteB c) = [c] := by
  unfold nats byteB
  simp only [List.map_cons, List.map_nil, UInt8.toNat_ofNat']
  rw [Nat.mod_eq_of_lt (by omega)]
theorem conv_byte (W : World) (c : Nat) (hc : c < 256) (g : Nat) (hg : W.heap.size = g) :
    (convert 38 9 (.slice (some ⟨g, 0, none⟩) 1 1)).run Try.prog (W.alloc (.cells #[.int .u8 (c : Int)] 5)) = .ok (.string (byteB c)) (W.alloc (.cells #[.int .u8 (c : Int)] 5)) := by
  subst hg
  have h := run_convert_bytes_back (P := Try.prog) (W.alloc (.cells #[.int .u8 (c : Int)] 5)) 38 9 5 ⟨W.heap.size, 0, none⟩ 1
    [UInt8.ofNat c] Try.underlying38 Try.underlying5 Try.underlying9 (fun j hj => by
      match j, hj with
      | 0, _ => simp [Addr.add]; omega
      | j + 1, h => simp at h)
  exact h
/-- A text with one byte another one. -/
def turnedB (z : ByteArray) (q c : Nat) : ByteArray := z.extract 0 q ++ byteB c ++ z.extract (q + 1) z.size
theorem turnedB_size {z : ByteArray} {q c : Nat} (h : q < z.size) : (turnedB z q c).size = z.size := by
  unfold turnedB
  rw [ByteArray.size_append, ByteArray.size_append, ByteArray.size_extract, ByteArray.size_extract, show (byteB c).size = 1 from rfl]
  omega
/-- What was sealed, with one byte turned, isn't. -/
theorem sealed_turned (s : ByteArray) (q m : Nat) (hq : q < (sealz s).size) (hm : 0 < m) (hm' : m < 256) : okB (turnedB (sealz s) q ((sealz s)[q].toNat ^^^ m)) = false := by
  have hb : (nats (sealz s))[q]? = some (sealz s)[q].toNat := nats_at hq
  have hx : (sealz s)[q].toNat ^^^ m < 256 := xor_byte (sealz s)[q].toNat_lt hm'
  have hl : (nats (sealz s)).length = (sealz s).size := nats_length _
  have e : nats (turnedB (sealz s) q ((sealz s)[q].toNat ^^^ m)) = (nats (sealz s)).set q ((sealz s)[q].toNat ^^^ m) := by
    unfold turnedB
    rw [nats_append, nats_append, byteB_nats hx, nats_extract, nats_extract, List.drop_zero, Nat.sub_zero, List.set_eq_take_append_cons_drop, if_pos (by omega),
      List.take_of_length_le (l := (nats (sealz s)).drop (q + 1)) (by rw [List.length_drop, hl]; exact Nat.le_refl _)]
    simp
  unfold okB
  rw [e, sealz_nats]
  rw [sealz_nats] at hb
  refine decide_eq_false (turned_not (nats_bytes s) q _ m hb hm hm' ?_)
  intro b h
  rcases List.mem_or_eq_of_mem_set h with h1 | h1
  · exact seal_bytes (nats_bytes s) b h1
  · rw [h1]; exact hx
end Go.Proofs.Ytbciamoaohdbjaa
