/- What stands ahead of a frame's body; printing. -/
import Derived.Test.YtibngfpjdookkaaFault
import Derived.Test.YtibngfpjdookkaaLaws
set_option linter.unusedVariables false
set_option linter.unusedSimpArgs false
namespace Go.Proofs.Ytibngfpjdookkaa
open Go.RowKit Go.Sort

theorem pb_two (n : Nat) : pb 2 n = [UInt8.ofNat (n / 256 % 256), UInt8.ofNat (n % 256)] := by
  simp [pb]
/-- Five bytes, and a number of two behind them. -/
theorem headz_list (k f t n : Nat) : headz k f t n = ⟨([197, 1, UInt8.ofNat k, UInt8.ofNat f, UInt8.ofNat t] ++ pb 2 n).toArray⟩ := by
  rw [pb_two]; rfl
theorem cell_byte {x : Nat} (h : x < 256) : Value.int .u8 (x : Int) = cell8 (UInt8.ofNat x) := by
  unfold cell8
  rw [UInt8.toNat_ofNat', Nat.mod_eq_of_lt h]
/-- Five known bytes in new memory. -/
theorem five_src (W : World) (k f t g : Nat) (hk : k < 256) (hf : f < 256) (ht : t < 256) (hg : W.heap.size = g) :
    Src (W.alloc (.cells #[.int .u8 197, .int .u8 1, .int .u8 (k : Int), .int .u8 (f : Int), .int .u8 (t : Int)] 5)) (some ⟨g, 0, none⟩) [197, 1, UInt8.ofNat k, UInt8.ofNat f, UInt8.ofNat t] := by
  subst hg
  refine .inr ⟨_, rfl, fun j v hj => ?_⟩
  rw [cell_byte hk, cell_byte hf, cell_byte ht]
  match j, hj with
  | 0, hj => simp [cells8] at hj; subst hj; simp [Addr.add]; rfl
  | 1, hj => simp [cells8] at hj; subst hj; simp [Addr.add]; rfl
  | 2, hj => simp [cells8] at hj; subst hj; simp [Addr.add]
  | 3, hj => simp [cells8] at hj; subst hj; simp [Addr.add]
  | 4, hj => simp [cells8] at hj; subst hj; simp [Addr.add]
  | j + 5, hj => simp [cells8] at hj

set_option maxHeartbeats 2000000 in
theorem head_any (k f t : Nat) (b : ByteArray) (w : World) (hk : k ≤ 11) (hf : f ≤ 63) (ht : t ≤ 63) (hb : b.size ≤ 1099511627776) :
    Calls Try.prog 63 #[.agg #[.int .i64 (k : Int), .int .i64 (f : Int), .int .i64 (t : Int), .string b]] w fun e w' => e = .returned (.string (headz k f t b.size)) ∧ Below w.heap.size w w' := by
  have ek : (k : Int) % 256 = k := by omega
  have ef : (f : Int) % 256 = f := by omega
  have et : (t : Int) % 256 = t := by omega
  have HF := fun W g hg => five_src W k f t g (by omega) (by omega) (by omega) hg
  have HH := Lib.hid (headz_list k f t b.size)
  have HW := Lib.hid (show wid 2 = ((2 : Nat) : Int) by decide)
  have HB := Lib.hid hb
  generalize headz k f t b.size = z at *
  go_enter Try.func63, Try.ntmps63
  go_wp2_with fail
  refine (put_len (w.heap.size + 2) _ [197, 1, UInt8.ofNat k, UInt8.ofNat f, UInt8.ofNat t] 5 5 b.size 2 2 _ (by simp) (HF _ _ (by simp)) rfl (by omega) (by have := HB.out; omega) HW.out (by decide)).mono ?_
  rintro e w1 ⟨rfl, hown, hb1⟩
  have hcv := conv_own _ _ _ _ _ _ hown
  rw [← HH.out] at hcv
  go_wp2
  go_ret
  exact ⟨rfl, (((Grw.refl w).alloc _).alloc _).below.trans (hb1.mono (by omega))⟩
end Go.Proofs.Ytibngfpjdookkaa
