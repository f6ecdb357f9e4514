/- Layer 18: behind, Last, Next, First. -/
import Derived.Test.YtblefbjmjhgkkaaZVoKit
import Derived.Test.YtblefbjmjhgkkaaZPops
set_option linter.unusedVariables false
set_option maxRecDepth 100000
set_option linter.unusedSimpArgs false
namespace Go.Proofs.Ytblefbjmjhgkkaa
open Go.RowKit Go.Sort

theorem rangeAt_own {w : World} {g : Nat} {ty : TypeId} {cs : Array Value} (h : Own w g ty cs) (o : Nat) (vs : List Value) (hv : ∀ j u, vs[j]? = some u → cs[o + j]? = some u) : w.rangeAt g o vs := fun j u hj => h.at_ (o + j) u (hv j u hj)
theorem RcvB.head {w : World} {g : Nat} {x : Rcv} (h : RcvB w g x) : w.rangeAt g 0 (encV x.p.last) := rangeAt_own h 0 _ fun j u hj => by
  rw [Nat.zero_add]
  match j, hj with
  | 0, hj => exact hj
  | 1, hj => exact hj
  | 2, hj => exact hj
  | 3, hj => exact hj
  | j + 4, hj => simp [encV] at hj
/-- The record at the beginning. -/
def firstR (n : Int) : Rcv := ⟨⟨⟨0, 0, 0, below n⟩, []⟩, none, 0, 0⟩
theorem RcvB.zero (w : World) : RcvB (w.alloc (.cells #[.int .u64 0, .int .u64 0, .int .i64 0, .int .u64 0, .slice none 0 0] 31)) w.heap.size ⟨⟨zeroV, []⟩, none, 0, 0⟩ := Own.new w _ _
theorem vfirst (n : Int) (w : World) (h0 : -9223372036854775808 ≤ n) (h1 : n ≤ 9223372036854775807) :
    Calls Try.prog 19 #[.int .i64 n] w fun e w' => e = .returned (valRc (firstR n)) ∧ Below w.heap.size w w' := by
  have L1 := ((Grw.refl w).alloc (.cells #[.int .u64 0, .int .u64 0, .int .i64 0, .int .u64 0, .slice none 0 0] 31)).below
  have R1 := Lib.hid (RcvB.zero w)
  have B5 := Lib.hid (belowRow18 L1 w.heap.size (Nat.le_refl _) (encRc (firstR n)).toArray)
  have R5 := Lib.hid (R1.out.row (firstR n))
  clear L1
  go_enter Try.func19, Try.ntmps19
  go_wp2_with (first | (go_at_call 42; refine (all_any n _ h0 h1).mono ?_; rintro e w' ⟨rfl, rfl⟩) | (refine store_rcv rfl (.tmp 2) (.tmp 6) rfl w.heap.size (firstR n) rfl rfl R1.out ?_))
  (try simp only [Exit.inBlock, Exit.then])
  exact bodyPost_ret (results_rc rfl _ _ w.heap.size rfl R5.out) rfl ⟨rfl, B5.out⟩
theorem firstR_in (n : Int) (w : World) : RcIn w (firstR n) := ⟨⟨⟨rfl, fun h => absurd h (Nat.lt_irrefl 0)⟩, fun v hv => by cases hv⟩, ⟨by show 0 < _; decide, by show 0 < _; decide, by show _ ≤ (0 : Int); decide, by show (0 : Int) ≤ _; decide, below_lt n⟩, fun _ => rfl⟩
end Go.Proofs.Ytblefbjmjhgkkaa
