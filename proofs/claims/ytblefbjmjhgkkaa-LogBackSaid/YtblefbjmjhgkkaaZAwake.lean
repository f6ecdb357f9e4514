/- 'awake' answers true: the answers that the document fixes. -/
import Derived.Test.YtblefbjmjhgkkaaZSum
import Derived.Test.YtblefbjmjhgkkaaZPut
import Derived.Laws.IdiomStrings
import Derived.WalkSmall
set_option linter.unusedVariables false
set_option maxRecDepth 100000
set_option linter.unusedSimpArgs false
namespace Go.Proofs.Ytblefbjmjhgkkaa
open Go.RowKit

/-- 'string(b)' of a row of the call's own. -/
theorem conv_own (w : World) (base g n cap : Nat) (L : List UInt8) (h : w.ownsRow base 5 1 (.slice (some ⟨g, 0, none⟩) n cap) n (cells8 L)) :
    (convert 84 9 (.slice (some ⟨g, 0, none⟩) n cap)).run Try.prog w = .ok (.string ⟨L.toArray⟩) w := by
  have hn : n = L.length := by have := h.1; rw [cells8_length] at this; omega
  subst hn
  refine run_convert_bytes_back w 84 9 5 ⟨g, 0, none⟩ cap L Try.underlying84 Try.underlying5 Try.underlying9 (fun j hj => ?_)
  have := h.cellAt j (by omega)
  rw [show (⟨g, 0, none⟩ : Addr).add j = ⟨g, j, none⟩ by cases j <;> simp [Addr.add], this, cells8, List.getElem?_map, List.getElem?_eq_getElem hj]
  rfl

theorem put_awake (w : World) : Calls Try.prog 70 #[.slice none 0 0, .int .u64 258, .int .i64 2] w fun e w' => e = .returned (.slice (some ⟨w.heap.size, 0, none⟩) 2 2) ∧
    w'.ownsRow w.heap.size 5 1 (.slice (some ⟨w.heap.size, 0, none⟩) 2 2) 2 (cells8 [1, 2]) ∧ Below w.heap.size w w' :=
  put_nat none [] 0 258 2 2 w (.inl ⟨rfl, rfl⟩) (by decide) (by decide) (by decide) (by decide)
theorem num_awake (w : World) (b : Nat) (h : Rd w b { data := #[1, 2] } 0) : Calls Try.prog 45 #[.pointer (some ⟨b, 0, none⟩), .int .i64 1] w fun e w' => e = .returned (.int .u64 1) ∧ Rd w' b { data := #[1, 2] } 1 ∧ w.grownBy w' (some b) :=
  num_yes w b { data := #[1, 2] } 0 1 h (by decide)
theorem left_awake (w : World) (b : Nat) (h : Rd w b { data := #[1, 2] } 1) : Calls Try.prog 48 #[.pointer (some ⟨b, 0, none⟩)] w fun e w' => e = .returned (.int .i64 1) ∧ ∃ n, w' = w.drewN n :=
  left_any w b { data := #[1, 2] } 1 h

/-- A new reader. -/
theorem Rd.new (w : World) (s : ByteArray) (h : s.size ≤ 9223372036854775807) : Rd (w.alloc (.cells #[.string s, .int .i64 0] 98)) w.heap.size s 0 where
  text := (cell_two_new w (.string s) (.int .i64 0) 98 0 _ rfl)
  place := (cell_two_new w (.string s) (.int .i64 0) 98 1 _ rfl)
  free := by unfold World.frozen?; rw [heap_alloc_last]; rfl
  size := h
  in_ := Nat.zero_le _
/-- What is below stays a reader. -/
theorem Rd.below {w w' : World} {b : Nat} {s : ByteArray} {a : Nat} (h : Rd w b s a) {B : Nat} (hb : Below B w w') (hB : b < B) : Rd w' b s a :=
  ⟨(hb.cell (p := ⟨b, 0, none⟩) hB).trans h.text, (hb.cell (p := ⟨b, 1, none⟩) hB).trans h.place, (hb.frozen (p := ⟨b, 1, none⟩) hB).trans h.free, h.size, h.in_⟩

end Go.Proofs.Ytblefbjmjhgkkaa
