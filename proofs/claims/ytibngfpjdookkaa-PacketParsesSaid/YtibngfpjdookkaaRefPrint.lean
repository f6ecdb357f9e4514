/- Printing a frame: the document's. -/
import Derived.Test.YtibngfpjdookkaaPrint
import Derived.Test.YtibngfpjdookkaaRefPut
set_option linter.unusedVariables false
set_option linter.unusedSimpArgs false
namespace Go.Proofs.Ytibngfpjdookkaa
open Go.RowKit Go.Sort

theorem refPrint_kind (k f t : Int) (b : ByteArray) (w : World) (h : k < 1 ∨ 11 < k) :
    Calls Try.prog 8 #[.int .i64 k, .int .i64 f, .int .i64 t, .string b] w fun e w' => e = .returned (.tuple #[.string { data := #[] }, .int .i64 10]) ∧ w = w' := by
  rcases h with h | h
  · go_enter Try.func8, Try.ntmps8
    go_wp2
    go_ret2
    exact ⟨rfl, rfl⟩
  · have h1 : ¬ k < 1 := by omega
    go_enter Try.func8, Try.ntmps8
    go_wp2
    go_ret2
    exact ⟨rfl, rfl⟩
theorem refPrint_range (k f t : Int) (b : ByteArray) (w : World) (h : ¬ (k < 1 ∨ 11 < k)) (h1 : f < 0 ∨ 64 ≤ f ∨ t < 0 ∨ 64 ≤ t) :
    Calls Try.prog 8 #[.int .i64 k, .int .i64 f, .int .i64 t, .string b] w fun e w' => e = .returned (.tuple #[.string { data := #[] }, .int .i64 1]) ∧ w = w' := by
  have a1 : ¬ k < 1 := by omega
  have a2 : ¬ 11 < k := by omega
  by_cases b1 : f < 0
  · go_enter Try.func8, Try.ntmps8
    go_wp2
    go_ret2
    exact ⟨rfl, rfl⟩
  by_cases b2 : 63 < f
  · clear h h1
    go_enter Try.func8, Try.ntmps8
    go_wp2
    go_ret2
    exact ⟨rfl, rfl⟩
  by_cases b3 : t < 0
  · clear h h1
    go_enter Try.func8, Try.ntmps8
    go_wp2
    go_ret2
    exact ⟨rfl, rfl⟩
  have b4 : 63 < t := by omega
  clear h h1
  go_enter Try.func8, Try.ntmps8
  go_wp2
  go_ret2
  exact ⟨rfl, rfl⟩
theorem refPrint_long (k f t : Int) (b : ByteArray) (w : World) (h : ¬ (k < 1 ∨ 11 < k)) (h1 : ¬ (f < 0 ∨ 64 ≤ f ∨ t < 0 ∨ 64 ≤ t)) (h2 : 32768 < (b.size : Int)) :
    Calls Try.prog 8 #[.int .i64 k, .int .i64 f, .int .i64 t, .string b] w fun e w' => e = .returned (.tuple #[.string { data := #[] }, .int .i64 3]) ∧ w = w' := by
  have a1 : ¬ k < 1 := by omega
  have a2 : ¬ 11 < k := by omega
  have b1 : ¬ f < 0 := by omega
  have b2 : ¬ 63 < f := by omega
  have b3 : ¬ t < 0 := by omega
  have b4 : ¬ 63 < t := by omega
  clear h h1
  go_enter Try.func8, Try.ntmps8
  go_wp2
  go_ret2
  exact ⟨rfl, rfl⟩
theorem refPrint_no (k f t : Int) (b : ByteArray) (w : World) (c : Int) (hc : fcode k f t b.size = c) (h : c ≠ 0) :
    Calls Try.prog 8 #[.int .i64 k, .int .i64 f, .int .i64 t, .string b] w fun e w' => e = .returned (.tuple #[.string { data := #[] }, .int .i64 c]) ∧ w = w' := by
  by_cases hk : k < 1 ∨ 11 < k
  · rw [fcode_kind hk] at hc
    subst hc
    exact refPrint_kind k f t b w hk
  by_cases hr : f < 0 ∨ 64 ≤ f ∨ t < 0 ∨ 64 ≤ t
  · rw [fcode_range hk hr] at hc
    subst hc
    exact refPrint_range k f t b w hk hr
  by_cases hn : 32768 < (b.size : Int)
  · rw [fcode_long hk hr hn] at hc
    subst hc
    exact refPrint_long k f t b w hk hr hn
  rw [fcode_ok hk hr hn] at hc
  exact absurd hc.symm h

/-- The first five bytes. -/
def fivez (k f t : Nat) : ByteArray := ⟨#[197, 1, UInt8.ofNat k, UInt8.ofNat f, UInt8.ofNat t]⟩
theorem conv_five (W : World) (k f t g : Nat) (hk : k < 256) (hf : f < 256) (ht : t < 256) (hg : W.heap.size = g) :
    (convert 51 9 (.slice (some ⟨g, 0, none⟩) 5 5)).run Try.prog (W.alloc (.cells #[.int .u8 197, .int .u8 1, .int .u8 (k : Int), .int .u8 (f : Int), .int .u8 (t : Int)] 5)) =
      .ok (.string (fivez k f t)) (W.alloc (.cells #[.int .u8 197, .int .u8 1, .int .u8 (k : Int), .int .u8 (f : Int), .int .u8 (t : Int)] 5)) :=
  conv_src _ _ [197, 1, UInt8.ofNat k, UInt8.ofNat f, UInt8.ofNat t] 5 (five_src W k f t g hk hf ht hg)

set_option maxHeartbeats 2000000 in
set_option maxRecDepth 100000 in
theorem refPrint_yes (k f t : Nat) (b : ByteArray) (w : World) (hc : fcode k f t b.size = 0) :
    Calls Try.prog 8 #[.int .i64 (k : Int), .int .i64 (f : Int), .int .i64 (t : Int), .string b] w fun e w' => e = .returned (.tuple #[.string (printz k f t b), .int .i64 0]) ∧ Below w.heap.size w w' := by
  have hm := fcode_may hc
  have hb : b.size ≤ 32768 := by omega
  have hs := fun W => seal_ref (body k f t b) W (by rw [body_size]; omega)
  have HZ := Lib.hid (show printz k f t b = sealz (body k f t b) from rfl)
  have hbd : body k f t b = headz k f t b.size ++ b := rfl
  rw [hbd] at hs HZ
  have hz7 : (headz k f t b.size).size = 7 := rfl
  have hsz : (headz k f t b.size ++ b).size ≤ b.size + 7 := by rw [ByteArray.size_append, headz_size]; omega
  have hlim : ¬ 9223372036854775807 < 7 + b.size := by omega
  have ek : (k : Int) % 256 = k := by omega
  have ef : (f : Int) % 256 = f := by omega
  have et : (t : Int) % 256 = t := by omega
  have a1 : ¬ (k : Int) < 1 := by omega
  have a2 : ¬ 11 < (k : Int) := by omega
  have b1 : ¬ (f : Int) < 0 := by omega
  have b2 : ¬ 63 < (f : Int) := by omega
  have b3 : ¬ (t : Int) < 0 := by omega
  have b4 : ¬ 63 < (t : Int) := by omega
  have cv := conv_five w k f t w.heap.size (by omega) (by omega) (by omega) rfl
  have HP := fun W => refPut_any (fivez k f t) (headz k f t b.size) b.size 2 2 W (show 5 ≤ 1099511627776 by decide) (by omega) (by decide) (by decide) (by rw [pb_two]; rfl)
  clear hbd hc hm
  generalize fivez k f t = z5 at *
  generalize headz k f t b.size = z at *
  generalize sealz (z ++ b) = y at *
  go_enter Try.func8, Try.ntmps8
  go_wp2_with fail
  refine (HP _).mono ?_
  rintro e w1 ⟨rfl, hB1⟩
  go_wp2_with fail
  refine (hs _).mono ?_
  rintro e w2 ⟨rfl, G2⟩
  go_wp2
  go_ret2
  have hA := ((Grw.refl w).alloc (.cells #[.int .u8 197, .int .u8 1, .int .u8 (k : Int), .int .u8 (f : Int), .int .u8 (t : Int)] 5)).below
  exact ⟨by rw [HZ.out]; rfl, (hA.trans (hB1.mono hA.size)).trans (G2.below.mono (Nat.le_trans hA.size hB1.size))⟩
end Go.Proofs.Ytibngfpjdookkaa
