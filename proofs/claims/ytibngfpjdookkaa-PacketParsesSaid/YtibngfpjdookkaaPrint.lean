/- Printing a frame: the program's. -/
import Derived.Test.YtibngfpjdookkaaHead
set_option linter.unusedVariables false
set_option linter.unusedSimpArgs false
namespace Go.Proofs.Ytibngfpjdookkaa
open Go.RowKit Go.Sort

/-- A frame as a value. -/
def fval (k f t : Int) (b : ByteArray) : Value := .agg #[.int .i64 k, .int .i64 f, .int .i64 t, .string b]
/-- A frame in a block of its own. -/
structure Box4 (w : World) (g : Nat) (k f t : Int) (b : ByteArray) : Prop where
  c0 : w.cell? ⟨g, 0, none⟩ = some (.int .i64 k)
  c1 : w.cell? ⟨g, 1, none⟩ = some (.int .i64 f)
  c2 : w.cell? ⟨g, 2, none⟩ = some (.int .i64 t)
  c3 : w.cell? ⟨g, 3, none⟩ = some (.string b)
theorem Box4.new (w : World) (k f t : Int) (b : ByteArray) (ty : TypeId) : Box4 (w.alloc (.cells #[.int .i64 k, .int .i64 f, .int .i64 t, .string b] ty)) w.heap.size k f t b :=
  ⟨by simp, by simp, by simp, by simp⟩
theorem Box4.below {w w' : World} {g : Nat} {k f t : Int} {b : ByteArray} (h : Box4 w g k f t b) (hb : Below w.heap.size w w') : Box4 w' g k f t b :=
  ⟨(hb.cell (p := ⟨g, 0, none⟩) (World.block_lt_of_cell? _ _ h.c0)).trans h.c0, (hb.cell (p := ⟨g, 1, none⟩) (World.block_lt_of_cell? _ _ h.c1)).trans h.c1,
   (hb.cell (p := ⟨g, 2, none⟩) (World.block_lt_of_cell? _ _ h.c2)).trans h.c2, (hb.cell (p := ⟨g, 3, none⟩) (World.block_lt_of_cell? _ _ h.c3)).trans h.c3⟩
theorem Box4.form {w : World} {g : Nat} {k f t : Int} {b : ByteArray} (h : Box4 w g k f t b) (n : Nat) (os : Array Obj) : Box4 (grow (atD w n) os) g k f t b := h.below (below_of_form w n os)

set_option maxHeartbeats 2000000 in
theorem print_no (k f t : Int) (b : ByteArray) (w : World) (hb : b.size ≤ 1099511627776) (c : Int) (hc : fcode k f t b.size = c) (h : c ≠ 0) :
    Calls Try.prog 35 #[.agg #[.int .i64 k, .int .i64 f, .int .i64 t, .string b]] w fun e w' => e = .returned (.tuple #[.string { data := #[] }, .int .i64 c]) ∧ Below w.heap.size w w' := by
  have HB := Lib.hid hb
  have hf := fun W => fault_any k f t b b.size W
  rw [hc] at hf
  go_enter Try.func35, Try.ntmps35
  go_wp2_with fail
  refine (hf _).mono ?_
  rintro e w1 ⟨rfl, G1⟩
  go_wp2
  go_ret2
  exact ⟨rfl, (((Grw.refl w).alloc _).trans G1).below⟩

set_option maxHeartbeats 2000000 in
theorem print_yes (k f t : Nat) (b : ByteArray) (w : World) (hb : b.size ≤ 1099511627776) (hc : fcode k f t b.size = 0) :
    Calls Try.prog 35 #[.agg #[.int .i64 (k : Int), .int .i64 (f : Int), .int .i64 (t : Int), .string b]] w fun e w' => e = .returned (.tuple #[.string (printz k f t b), .int .i64 0]) ∧ Below w.heap.size w w' := by
  have mixed : Try.prog.follows .mixedOrders = true := by kernel_rfl
  have HB := Lib.hid hb
  have hm := fcode_may hc
  have hf := fun W => fault_any k f t b b.size W
  rw [hc] at hf
  have hh := fun W => head_any k f t b W (by omega) (by omega) (by omega) hb
  have hs := fun W => seal_any (body k f t b) W (by rw [body_size]; omega)
  have HZ := Lib.hid (show printz k f t b = sealz (body k f t b) from rfl)
  have hbd : body k f t b = headz k f t b.size ++ b := rfl
  have hsz : (headz k f t b.size ++ b).size ≤ b.size + 7 := by rw [ByteArray.size_append, headz_size]; omega
  rw [hbd] at hs HZ
  have hz7 : (headz k f t b.size).size = 7 := rfl
  have hlim : ¬ 9223372036854775807 < 7 + b.size := by omega
  clear hbd hc
  generalize headz k f t b.size = z at *
  generalize sealz (z ++ b) = y at *
  go_enter Try.func35, Try.ntmps35
  go_wp2_with fail
  refine (hf _).mono ?_
  rintro e w1 ⟨rfl, G1⟩
  have B1 : Box4 w1 w.heap.size k f t b := (Box4.new w k f t b 56).below G1.below
  have HG := Lib.hid (((Grw.refl w).alloc _).trans G1).below
  have d0 := fun n os => (B1.form n os).c0
  have d1 := fun n os => (B1.form n os).c1
  have d2 := fun n os => (B1.form n os).c2
  have d3 := fun n os => (B1.form n os).c3
  clear B1 G1
  go_wp2
  refine wp_region_quiet_below (by assumption) (by kernel_rfl) ?_
  repeat (quiet_step (first | (go_at_call 63; exact calls_below (hh _)) | (go_at_call 62; exact calls_grw (hs _))))
  refine wpQuiet_nil ?_
  intro _ hw'
  obtain ⟨⟨nq, osq⟩, hw''⟩ := hw'
  subst hw''
  go_wp2
  go_ret2
  exact ⟨by rw [HZ.out]; rfl, HG.out.trans ((below_of_form w1 nq osq).mono HG.out.size)⟩
end Go.Proofs.Ytibngfpjdookkaa
