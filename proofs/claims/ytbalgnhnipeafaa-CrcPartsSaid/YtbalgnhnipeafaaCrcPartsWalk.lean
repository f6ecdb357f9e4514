/- The walk of 'CrcParts'. -/
import Derived.Test.YtbalgnhnipeafaaCrcAwake
set_option linter.unusedVariables false
set_option linter.unusedSimpArgs false
namespace Go.Proofs.Ytbalgnhnipeafaa
open Go.RowKit

theorem allN_cons (a : ByteArray) (l : List ByteArray) : allN (a :: l) = nats a ++ allN l := by simp [allN]
theorem allN_nil : allN [] = [] := rfl

theorem sum_one (x : ByteArray) (n : Nat) (hx : x.size ≤ 1099511627776) (hn : crc (allN [x]) = n) (W : World) (g : Nat) (hg : W.heap.size = g) :
    Calls Try.prog 11 #[.slice (some ⟨g, 0, none⟩) 1 1] (W.alloc (.cells #[.string x] 9)) fun e w' => e = .returned (.int .u32 n) ∧ (W.alloc (.cells #[.string x] 9)) = w' := by
  subst hg
  subst hn
  exact sum_parts _ 1 1 [x] _ (Parts.new W [x] 9 (by intro s hs; simp at hs; subst hs; exact hx)) (by decide)
theorem sum_two (x y : ByteArray) (n : Nat) (hx : x.size ≤ 1099511627776) (hy : y.size ≤ 1099511627776) (hn : crc (allN [x, y]) = n) (W : World) (g : Nat) (hg : W.heap.size = g) :
    Calls Try.prog 11 #[.slice (some ⟨g, 0, none⟩) 2 2] (W.alloc (.cells #[.string x, .string y] 9)) fun e w' => e = .returned (.int .u32 n) ∧ (W.alloc (.cells #[.string x, .string y] 9)) = w' := by
  subst hg
  subst hn
  exact sum_parts _ 2 2 [x, y] _ (Parts.new W [x, y] 9 (by intro s hs; simp at hs; rcases hs with rfl | rfl <;> assumption)) (by decide)
theorem sum_three (x y z : ByteArray) (n : Nat) (hx : x.size ≤ 1099511627776) (hy : y.size ≤ 1099511627776) (hz : z.size ≤ 1099511627776) (hn : crc (allN [x, y, z]) = n) (W : World) (g : Nat) (hg : W.heap.size = g) :
    Calls Try.prog 11 #[.slice (some ⟨g, 0, none⟩) 3 3] (W.alloc (.cells #[.string x, .string y, .string z] 9)) fun e w' => e = .returned (.int .u32 n) ∧ (W.alloc (.cells #[.string x, .string y, .string z] 9)) = w' := by
  subst hg
  subst hn
  exact sum_parts _ 3 3 [x, y, z] _ (Parts.new W [x, y, z] 9 (by intro s hs; simp at hs; rcases hs with rfl | rfl | rfl <;> assumption)) (by decide)

set_option maxHeartbeats 2000000 in
theorem walk_CrcParts (a : ByteArray) (wa : a.size ≤ maxLen) (b : ByteArray) (wb : b.size ≤ maxLen) (c : ByteArray) (wc : c.size ≤ maxLen) (w : World) :
    Calls Try.prog 6 #[.string a, .string b, .string c] w fun e w' => e = .returned (.bool true) ∧ Below w.heap.size w w' := by
  have ha' : (a.size : Int) ≤ 9223372036854775807 := by unfold maxLen at wa; omega
  have hb' : (b.size : Int) ≤ 9223372036854775807 := by unfold maxLen at wb; omega
  have hc' : (c.size : Int) ≤ 9223372036854775807 := by unfold maxLen at wc; omega
  by_cases h1 : (3000 : Int) < a.size
  · go_enter Try.func6, Try.ntmps6
    go_wp2_with fail
    refine (awake_any _).mono ?_
    rintro e w1 ⟨rfl, G1⟩
    go_wp2
    go_ret
    exact ⟨rfl, G1.below⟩
  by_cases h2 : (3000 : Int) < b.size
  · go_enter Try.func6, Try.ntmps6
    go_wp2_with fail
    refine (awake_any _).mono ?_
    rintro e w1 ⟨rfl, G1⟩
    go_wp2
    go_ret
    exact ⟨rfl, G1.below⟩
  by_cases h3 : (3000 : Int) < c.size
  · go_enter Try.func6, Try.ntmps6
    go_wp2_with fail
    refine (awake_any _).mono ?_
    rintro e w1 ⟨rfl, G1⟩
    go_wp2
    go_ret
    exact ⟨rfl, G1.below⟩
  have ha3 : a.size ≤ 3000 := by omega
  have hb3 : b.size ≤ 3000 := by omega
  have hc3 : c.size ≤ 3000 := by omega
  have e2 : allN [a, b, c] = allN [a ++ b ++ c] := by simp only [allN_cons, allN_nil, nats_append, List.append_nil, List.append_assoc]
  have e3 : allN [a ++ b, { data := #[] }, c] = allN [a ++ b ++ c] := by
    simp only [allN_cons, allN_nil, nats_append, List.append_nil, List.append_assoc]
    rfl
  have e4 : allN [a, b ++ c] = allN [a ++ b ++ c] := by simp only [allN_cons, allN_nil, nats_append, List.append_nil, List.append_assoc]
  have hab : (a ++ b).size ≤ 6000 := by rw [ByteArray.size_append]; omega
  have hbc : (b ++ c).size ≤ 6000 := by rw [ByteArray.size_append]; omega
  have habc : (a ++ b ++ c).size ≤ 9000 := by rw [ByteArray.size_append]; omega
  obtain ⟨n, hn⟩ : ∃ n, n = crc (allN [a ++ b ++ c]) := ⟨_, rfl⟩
  have p1 := sum_one (a ++ b ++ c) n (by omega) hn.symm
  have p2 := sum_three a b c n (by omega) (by omega) (by omega) (by rw [e2, hn])
  have p3 := sum_three (a ++ b) { data := #[] } c n (by omega) (by decide) (by omega) (by rw [e3, hn])
  have p4 := sum_two a (b ++ c) n (by omega) (by omega) (by rw [e4, hn])
  clear e2 e3 e4 hn hbc habc
  go_enter Try.func6, Try.ntmps6
  go_wp2_with fail
  refine (awake_any _).mono ?_
  rintro e w1 ⟨rfl, G1⟩
  go_wp2_with fail
  refine (p1 _ _ (by simp)).mono ?_
  rintro e w2 ⟨rfl, rfl⟩
  go_wp2_with fail
  refine (p2 _ _ (by simp)).mono ?_
  rintro e w2 ⟨rfl, rfl⟩
  go_wp2_with fail
  refine (p3 _ _ (by simp)).mono ?_
  rintro e w2 ⟨rfl, rfl⟩
  go_wp2_with fail
  refine (p4 _ _ (by simp)).mono ?_
  rintro e w2 ⟨rfl, rfl⟩
  go_wp2
  go_ret
  exact ⟨rfl, ((((G1.alloc _).alloc _).alloc _).alloc _).below⟩
end Go.Proofs.Ytbalgnhnipeafaa
