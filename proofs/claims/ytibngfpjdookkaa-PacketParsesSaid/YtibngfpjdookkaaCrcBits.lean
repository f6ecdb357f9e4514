/- Turning of numbers of 32 and 8 bits, as the language has it: over the plain numbers. -/
import Derived.Test.YtibngfpjdookkaaCrcMath
set_option linter.unusedVariables false
set_option linter.unusedSimpArgs false
namespace Go.Proofs.Ytibngfpjdookkaa

theorem xor_u32 (a b : Nat) (ha : a < 4294967296) (hb : b < 4294967296) : bits .xor .u32 (a : Int) (b : Int) = ((a ^^^ b : Nat) : Int) := by
  have hx : a ^^^ b < 2 ^ 32 := Nat.xor_lt_two_pow (by omega) (by omega)
  have h1 : (BitVec.ofInt 32 (a : Int)).toNat = a := by
    rw [BitVec.ofInt_natCast, BitVec.toNat_ofNat]; exact Nat.mod_eq_of_lt (by omega)
  have h2 : (BitVec.ofInt 32 (b : Int)).toNat = b := by
    rw [BitVec.ofInt_natCast, BitVec.toNat_ofNat]; exact Nat.mod_eq_of_lt (by omega)
  show IntKind.u32.wrap ((BitVec.ofInt 32 (a : Int) ^^^ BitVec.ofInt 32 (b : Int)).toNat : Int) = _
  rw [BitVec.toNat_xor, h1, h2, IntKind.wrap_u32']
  omega
theorem xor_u8 (a b : Nat) (ha : a < 256) (hb : b < 256) : bits .xor .u8 (a : Int) (b : Int) = ((a ^^^ b : Nat) : Int) := by
  have hx : a ^^^ b < 2 ^ 8 := Nat.xor_lt_two_pow (by omega) (by omega)
  have h1 : (BitVec.ofInt 8 (a : Int)).toNat = a := by
    rw [BitVec.ofInt_natCast, BitVec.toNat_ofNat]; exact Nat.mod_eq_of_lt (by omega)
  have h2 : (BitVec.ofInt 8 (b : Int)).toNat = b := by
    rw [BitVec.ofInt_natCast, BitVec.toNat_ofNat]; exact Nat.mod_eq_of_lt (by omega)
  show IntKind.u8.wrap ((BitVec.ofInt 8 (a : Int) ^^^ BitVec.ofInt 8 (b : Int)).toNat : Int) = _
  rw [BitVec.toNat_xor, h1, h2, IntKind.wrap_u8']
  omega
theorem and1_u32 (a : Nat) (ha : a < 4294967296) : bits .and .u32 (a : Int) 1 = ((a % 2 : Nat) : Int) := by
  have h1 : (BitVec.ofInt 32 (a : Int)).toNat = a := by
    rw [BitVec.ofInt_natCast, BitVec.toNat_ofNat]; exact Nat.mod_eq_of_lt (by omega)
  show IntKind.u32.wrap ((BitVec.ofInt 32 (a : Int) &&& BitVec.ofInt 32 1).toNat : Int) = _
  rw [BitVec.toNat_and, h1, show (BitVec.ofInt 32 1).toNat = 1 by decide, Nat.and_one_is_mod, IntKind.wrap_u32']
  omega
theorem bit_of (a i : Nat) : a.testBit i = decide (a / 2 ^ i % 2 = 1) := Nat.testBit_eq_decide_div_mod_eq
/-- A step of the sum, where the number is odd, and where it is even. -/
theorem half_odd {c : Nat} (hc : c < 4294967296) (h : c % 2 = 1) : bits .xor .u32 ((c / 2 : Nat) : Int) 3988292384 = ((half c : Nat) : Int) := by
  unfold half
  rw [if_pos h]
  exact xor_u32 (c / 2) 3988292384 (by omega) (by decide)
theorem half_even {c : Nat} (h : ¬ c % 2 = 1) : half c = c / 2 := by unfold half; rw [if_neg h]
theorem xor_ones {c : Nat} (hc : c < 4294967296) : bits .xor .u32 (c : Int) 4294967295 = ((4294967295 - c : Nat) : Int) := by
  rw [ones_sub hc]
  exact xor_u32 c 4294967295 hc (by decide)

/-! ### The bytes of a text -/
def nats (s : ByteArray) : List Nat := s.data.toList.map UInt8.toNat
theorem nats_length (s : ByteArray) : (nats s).length = s.size := by unfold nats; rw [List.length_map, Array.length_toList]; rfl
theorem nats_bytes (s : ByteArray) : Bytes (nats s) := by
  intro b hb
  obtain ⟨x, _, rfl⟩ := List.mem_map.1 hb
  exact x.toNat_lt
theorem nats_append (a b : ByteArray) : nats (a ++ b) = nats a ++ nats b := by
  unfold nats
  rw [ByteArray.data_append, Array.toList_append, List.map_append]
theorem nats_inj {a b : ByteArray} (h : nats a = nats b) : a = b := by
  unfold nats at h
  have h1 : a.data.toList = b.data.toList := List.map_inj_right (fun x y e => UInt8.toNat_inj.1 e) |>.1 h
  exact ByteArray.ext (Array.ext' h1)
theorem nats_at {s : ByteArray} {k : Nat} (h : k < s.size) : (nats s)[k]? = some (s.data[k]'h).toNat := by
  unfold nats
  have : k < s.data.toList.length := by rw [Array.length_toList]; exact h
  rw [List.getElem?_map, List.getElem?_eq_getElem this]
  rfl
theorem run_next {l : List Nat} {k b c : Nat} (h : l[k]? = some b) : run c (l.take (k + 1)) = step (run c (l.take k)) b := by
  obtain ⟨hk, e⟩ := List.getElem?_eq_some_iff.1 h
  rw [List.take_succ_eq_append_getElem hk, e, run_snoc]
/-- The steps of one byte, one by one. -/
theorem step_at (c b : Nat) : step c b = halfN 8 (c ^^^ b) := rfl
end Go.Proofs.Ytibngfpjdookkaa
