/- The walk of 'CrcSums'. -/
import Derived.Test.YtbalgnhnipeafaaCrcAwake
set_option linter.unusedVariables false
set_option linter.unusedSimpArgs false
namespace Go.Proofs.Ytbalgnhnipeafaa
open Go.RowKit

theorem two_nats (a b : ByteArray) : crc (allN [a, b]) = crc (nats (a ++ b)) := by rw [nats_append]; simp [allN]

set_option maxHeartbeats 2000000 in
theorem walk_CrcSums (a : ByteArray) (wa : a.size ≤ maxLen) (b : ByteArray) (wb : b.size ≤ maxLen) (w : World) :
    Calls Try.prog 3 #[.string a, .string b] w fun e w' => e = .returned (.bool true) ∧ Below w.heap.size w w' := by
  have ha' : (a.size : Int) ≤ 9223372036854775807 := by unfold maxLen at wa; omega
  have hb' : (b.size : Int) ≤ 9223372036854775807 := by unfold maxLen at wb; omega
  by_cases h1 : (5000 : Int) < a.size
  · go_enter Try.func3, Try.ntmps3
    go_wp2_with fail
    refine (awake_any _).mono ?_
    rintro e w1 ⟨rfl, G1⟩
    go_wp2
    go_ret
    exact ⟨rfl, G1.below⟩
  by_cases h2 : (5000 : Int) < b.size
  · go_enter Try.func3, Try.ntmps3
    go_wp2_with fail
    refine (awake_any _).mono ?_
    rintro e w1 ⟨rfl, G1⟩
    go_wp2
    go_ret
    exact ⟨rfl, G1.below⟩
  have o1 := fun W => open_any a W (by omega)
  have o2 := fun W => open_ref a W (by omega)
  have s1 := fun W => seal_any a W (by omega)
  have s2 := fun W => seal_ref a W (by omega)
  have p1 := fun W : World => sum_parts _ 2 2 [a, b] _ (Parts.new W [a, b] 9 (by intro s hs; simp at hs; rcases hs with rfl | rfl <;> omega)) (by decide)
  have p2 := fun W => sum_ref (a ++ b) W (by rw [ByteArray.size_append]; omega)
  rw [two_nats] at p1
  generalize crc (nats (a ++ b)) = n at *
  generalize openS a = u at *
  generalize okB a = ok at *
  generalize sealz a = z at *
  go_enter Try.func3, Try.ntmps3
  go_wp2_with fail
  refine (awake_any _).mono ?_
  rintro e w1 ⟨rfl, G1⟩
  go_wp2_with fail
  refine (o1 _).mono ?_
  rintro e w2 ⟨rfl, G2⟩
  go_wp2_with fail
  refine (o2 _).mono ?_
  rintro e w3 ⟨rfl, G3⟩
  go_wp2_with fail
  refine (p1 _).mono ?_
  rintro e w4 ⟨rfl, rfl⟩
  go_wp2_with fail
  refine (p2 _).mono ?_
  rintro e w4 ⟨rfl, rfl⟩
  go_wp2_with fail
  refine (s1 _).mono ?_
  rintro e w5 ⟨rfl, G5⟩
  go_wp2_with fail
  refine (s2 _).mono ?_
  rintro e w6 ⟨rfl, G6⟩
  go_wp2
  go_ret
  exact ⟨rfl, ((((G1.trans G2).trans G3).alloc _).trans (G5.trans G6)).below⟩
end Go.Proofs.Ytbalgnhnipeafaa
