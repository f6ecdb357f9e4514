/- 'awake' answers true: the answers that the document fixes. -/
import Derived.Test.YtneeplmdmdkjeaaSum
import Derived.Test.YtneeplmdmdkjeaaPut
import Derived.Laws.IdiomStrings
import Derived.WalkSmall
set_option linter.unusedVariables false
set_option linter.unusedSimpArgs false
namespace Go.Proofs.Ytneeplmdmdkjeaa
open Go.RowKit

/-- 'string(b)' of a row of the call's own. -/
theorem conv_own (w : World) (base g n cap : Nat) (L : List UInt8) (h : w.ownsRow base 5 1 (.slice (some ⟨g, 0, none⟩) n cap) n (cells8 L)) :
    (convert 22 9 (.slice (some ⟨g, 0, none⟩) n cap)).run Try.prog w = .ok (.string ⟨L.toArray⟩) w := by
  have hn : n = L.length := by have := h.1; rw [cells8_length] at this; omega
  subst hn
  refine run_convert_bytes_back w 22 9 5 ⟨g, 0, none⟩ cap L Try.underlying22 Try.underlying5 Try.underlying9 (fun j hj => ?_)
  have := h.cellAt j (by omega)
  rw [show (⟨g, 0, none⟩ : Addr).add j = ⟨g, j, none⟩ by cases j <;> simp [Addr.add], this, cells8, List.getElem?_map, List.getElem?_eq_getElem hj]
  rfl

theorem get_awake (w : World) : Calls Try.prog 11 #[.string { data := #[1, 2, 3] }, .int .i64 1, .int .i64 2] w fun e w' => e = .returned (.tuple #[.int .u64 515, .bool true]) ∧ w = w' :=
  get_yes { data := #[1, 2, 3] } 1 2 w (by decide) (by decide) (by decide) (by decide)
theorem put_awake (w : World) : Calls Try.prog 9 #[.slice none 0 0, .int .u64 258, .int .i64 2] w fun e w' => e = .returned (.slice (some ⟨w.heap.size, 0, none⟩) 2 2) ∧
    w'.ownsRow w.heap.size 5 1 (.slice (some ⟨w.heap.size, 0, none⟩) 2 2) 2 (cells8 [1, 2]) ∧ Below w.heap.size w w' :=
  put_nat none [] 0 258 2 2 w (.inl ⟨rfl, rfl⟩) (by decide) (by decide) (by decide) (by decide)
theorem sum_awake (w : World) : Calls Try.prog 13 #[.int .u64 18446744073709551615, .int .u64 1] w fun e w' => e = .returned (.int .u64 18446744073709551615) ∧ w = w' :=
  sum_any 18446744073709551615 1 w (by decide) (by decide) (by decide) (by decide)
theorem num_awake (w : World) (b : Nat) (h : Rd w b { data := #[1, 2] } 0) : Calls Try.prog 21 #[.pointer (some ⟨b, 0, none⟩), .int .i64 1] w fun e w' => e = .returned (.int .u64 1) ∧ Rd w' b { data := #[1, 2] } 1 ∧ w.grownBy w' (some b) :=
  num_yes w b { data := #[1, 2] } 0 1 h (by decide)
theorem left_awake (w : World) (b : Nat) (h : Rd w b { data := #[1, 2] } 1) : Calls Try.prog 20 #[.pointer (some ⟨b, 0, none⟩)] w fun e w' => e = .returned (.int .i64 1) ∧ ∃ n, w' = w.drewN n :=
  left_any w b { data := #[1, 2] } 1 h

/-- A new reader. -/
theorem Rd.new (w : World) (s : ByteArray) (h : s.size ≤ 9223372036854775807) : Rd (w.alloc (.cells #[.string s, .int .i64 0] 51)) w.heap.size s 0 where
  text := (cell_two_new w (.string s) (.int .i64 0) 51 0 _ rfl)
  place := (cell_two_new w (.string s) (.int .i64 0) 51 1 _ rfl)
  free := by unfold World.frozen?; rw [heap_alloc_last]; rfl
  size := h
  in_ := Nat.zero_le _
/-- What is below stays a reader. -/
theorem Rd.below {w w' : World} {b : Nat} {s : ByteArray} {a : Nat} (h : Rd w b s a) {B : Nat} (hb : Below B w w') (hB : b < B) : Rd w' b s a :=
  ⟨(hb.cell (p := ⟨b, 0, none⟩) hB).trans h.text, (hb.cell (p := ⟨b, 1, none⟩) hB).trans h.place, (hb.frozen (p := ⟨b, 1, none⟩) hB).trans h.free, h.size, h.in_⟩

set_option maxHeartbeats 1000000 in
theorem awake_any (w : World) : Calls Try.prog 8 #[] w fun e w' => e = .returned (.bool true) ∧ Below w.heap.size w w' := by
  go_enter Try.func8, Try.ntmps8
  go_wp2_with fail
  refine (get_awake _).mono ?_
  rintro e w' ⟨rfl, rfl⟩
  go_wp2_with fail
  refine (new_any _ _).mono ?_
  rintro e w' ⟨rfl, hw1⟩
  have hr1 : Rd w' w.heap.size { data := #[1, 2] } 0 := by rw [← hw1]; exact Rd.new w _ (by decide)
  have hb1 : Below w.heap.size w w' := by rw [← hw1]; exact (Below.refl _ _).alloc (Nat.le_refl _) _
  have hz1 : w.heap.size < w'.heap.size := by rw [← hw1]; simp
  clear hw1
  go_wp2_with fail
  refine (put_awake _).mono ?_
  rintro e w2 ⟨rfl, hown, hb2⟩
  have hcv := conv_own _ _ _ _ _ _ hown
  have hr2 : Rd w2 w.heap.size { data := #[1, 2] } 0 := hr1.below hb2 hz1
  go_wp2_with fail
  refine (sum_awake _).mono ?_
  rintro e w3 ⟨rfl, rfl⟩
  go_wp2_with fail
  refine (num_awake _ _ hr2).mono ?_
  rintro e w3 ⟨rfl, hr3, hg3⟩
  have hb3 : Below w.heap.size w w3 := ((hb1.trans (hb2.mono (by omega))).grown hg3 (Nat.le_trans (Nat.le_of_lt hz1) hb2.size) (fun k hk => by cases hk; exact Nat.le_refl _))
  go_wp2_with fail
  refine (left_awake _ _ hr3).mono ?_
  rintro e w4 ⟨rfl, n4, rfl⟩
  have hr4 := hr3.drewN n4
  go_wp2_with fail
  refine (at_any _ _ _ _ hr4).mono ?_
  rintro e w5 ⟨rfl, rfl⟩
  go_wp2
  go_ret
  exact ⟨rfl, below_drewN hb3 _⟩
end Go.Proofs.Ytneeplmdmdkjeaa
