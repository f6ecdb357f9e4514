/- 'awake' answers true: the answers that the document fixes. -/
import Derived.Test.YtibngfpjdookkaaPkTruth
import Derived.Deep.DeepCutAuto
set_option linter.unusedVariables false
set_option linter.unusedSimpArgs false
namespace Go.Proofs.Ytibngfpjdookkaa
open Go.RowKit Go.Sort

def pk10 : Pk := { baseP 10 1 2 with conf := ⟨5, 1⟩ }
def pk6 : Pk := baseP 6 0 0
theorem pk10_typed : pk10.typed := okFs_typed [.c] (p := pk10) ⟨⟨by decide, by decide⟩, trivial⟩ (baseP_typed 10 1 2)
theorem pk10_small : Small pk10 := ⟨by decide, by decide, by decide, by decide, fun x hx => absurd hx (by simp [pk10, baseP])⟩
theorem pk10_code : pcodeP pk10 = 0 := by decide
theorem pk6_code : pcodeP pk6 = 1 := by decide
theorem pk10_text : sOf pk10 = printz 10 1 2 ⟨#[0, 0, 0, 0, 0, 0, 0, 5, 1]⟩ := by decide +kernel
theorem pk10_mid : (printz 10 1 2 ⟨#[0, 0, 0, 0, 0, 0, 0, 5, 1]⟩).extract 7 16 = ⟨#[0, 0, 0, 0, 0, 0, 0, 5, 1]⟩ := by decide +kernel

/-- A packet put into a new variable. -/
def boxed (w : World) (q : Pk) (T : ByteArray) (vd vg vx : Vc) : World := (w.alloc (.cells (encP zeroP { data := #[] } Vc.nil Vc.nil Vc.nil).toArray 35)).setRow w.heap.size (encP q T vd vg vx).toArray
theorem boxed_own (w : World) (q : Pk) (T : ByteArray) (vd vg vx : Vc) : Own (boxed w q T vd vg vx) w.heap.size 35 (encP q T vd vg vx).toArray := (Own.new w 35 _).row _
theorem boxed_below (w : World) (q : Pk) (T : ByteArray) (vd vg vx : Vc) : Below w.heap.size w (boxed w q T vd vg vx) := below_setRow ((Grw.refl w).alloc _).below (Nat.le_refl _) _
theorem boxed_new (w : World) : Own (w.alloc (.cells (encP zeroP { data := #[] } Vc.nil Vc.nil Vc.nil).toArray 35)) w.heap.size 35 (encP zeroP { data := #[] } Vc.nil Vc.nil Vc.nil).toArray := Own.new w 35 _
theorem boxed_is (w : World) (q : Pk) (T : ByteArray) (vd vg vx : Vc) : (w.alloc (.cells #[.int .i64 0, .int .i64 0, .int .i64 0, .int .u64 0, .int .i64 0, .int .i64 0, .int .u32 0, .int .u64 0, .int .i64 0, .slice none 0 0, .string { data := #[] }, .int .u64 0, .int .u32 0, .slice none 0 0, .int .u64 0, .int .i64 0, .int .u32 0, .int .u64 0, .int .u64 0, .int .i64 0, .int .u64 0, .slice none 0 0] 35)).setRow w.heap.size (encP q T vd vg vx).toArray = boxed w q T vd vg vx := rfl
theorem PkAt.zero (w : World) (k f t : Int) (c : PC) : PkAt w { baseP k f t with conf := c } { data := #[] } Vc.nil Vc.nil Vc.nil := ⟨rfl, (OwnVec.nil 0 w).at_, (OwnVec.nil 0 w).at_, (OwnXs.nil 0 w).at_⟩
set_option maxHeartbeats 4000000 in
set_option maxRecDepth 100000 in
theorem pkAwake_any (w : World) : Calls Try.prog 7 #[] w fun e w' => e = .returned (.bool true) ∧ Below w.heap.size w w' := by
  have h1 := fun W => pprint_any W pk10 { data := #[] } Vc.nil Vc.nil Vc.nil (PkAt.zero W 10 1 2 ⟨5, 1⟩) pk10_typed pk10_small
  have h3 := fun W => pprint_any W pk6 { data := #[] } Vc.nil Vc.nil Vc.nil (PkAt.zero W 6 0 0 ⟨0, 0⟩) (baseP_typed 6 0 0) (baseP_small 6 0 0)
  have h2 := fun W => pparse_any (sOf pk10) (Nat.le_trans (sOf_size pk10_typed) (by decide)) W
  have hP := parsed_sOf pk10_typed pk10_code
  rw [pk10_code] at h1
  rw [pk6_code] at h3
  have hs : (sOf pk10).size = 20 := by rw [pk10_text, printz_size]; rfl
  have hx : (sOf pk10).extract 7 16 = { data := #[0, 0, 0, 0, 0, 0, 0, 5, 1] } := by rw [pk10_text]; exact pk10_mid
  have HP := Lib.hid hP
  clear hP
  generalize sOf pk10 = z at *
  generalize sOf pk6 = z6 at *
  go_enter Try.func7, Try.ntmps7
  go_wp2_with fail
  refine (h1 _).mono ?_
  rintro e w1 ⟨rfl, L1⟩
  go_wp2_with fail
  refine (h2 _).mono ?_
  rintro e w2 ⟨L2, ⟨q, T, vd, vg, vx, hq, rfl, O2⟩ | ⟨c, _, hq, _⟩⟩
  case inr => rw [HP.out] at hq; cases hq
  obtain rfl : q = cleanP pk10 := by rw [HP.out] at hq; cases hq; rfl
  go_upto_region 3 with (refine store_packet (p := cleanP pk10) (T := T) (vd := vd) (vg := vg) (vx := vx) rfl (.tmp 3) (.tmp 16) rfl w2.heap.size rfl rfl (boxed_new w2) ?_)
  rw [boxed_is]
  have OW := boxed_own w2 (cleanP pk10) T vd vg vx
  have BW := (L1.trans (L2.mono L1.size)).trans ((boxed_below w2 (cleanP pk10) T vd vg vx).mono (Nat.le_trans L1.size L2.size))
  generalize boxed w2 (cleanP pk10) T vd vg vx = W3 at *
  have hlt := OW.lt
  have c0 : W3.cell? ⟨w2.heap.size, 0, none⟩ = some (.int .i64 10) := OW.at_ 0 _ rfl
  have c3 : W3.cell? ⟨w2.heap.size, 3, none⟩ = some (.int .u64 5) := OW.at_ 3 _ rfl
  have c4 : W3.cell? ⟨w2.heap.size, 4, none⟩ = some (.int .i64 1) := OW.at_ 4 _ rfl
  go_wp2_with fail
  refine (h3 _).mono ?_
  rintro e w4 ⟨rfl, L4⟩
  have d0 := cell_later L4 c0
  have d3 := cell_later L4 c3
  have d4 := cell_later L4 c4
  clear c0 c3 c4 OW
  go_wp2
  go_ret
  exact ⟨rfl, BW.trans (L4.mono BW.size)⟩
end Go.Proofs.Ytibngfpjdookkaa
