/- Layer 18: the law's awake answers true. (Written by wip/gen_voawake.py.) -/
import Derived.Test.YtblefbjmjhgkkaaZVoMay
import Derived.Test.YtblefbjmjhgkkaaZVoAdd
set_option linter.unusedVariables false
set_option maxRecDepth 100000
set_option linter.unusedSimpArgs false
namespace Go.Proofs.Ytblefbjmjhgkkaa
open Go.RowKit Go.Sort Go.Maps

theorem RcL.one {w : World} {g : Nat} {x : Rcv} (h : RcIn w x) (hb : RcvB w g x) : RcL w (some ⟨g, 0, none⟩) 1 [x] := ⟨rc_lst hb, fun y hy => by rw [List.mem_singleton.1 hy]; exact h⟩
theorem RcL.nil (w : World) : RcL w none 0 [] := ⟨⟨rfl, fun h => absurd h (Nat.lt_irrefl 0)⟩, fun x hx => by cases hx⟩
/-- The world with a record laid in a block of its own. -/
def recW (w : World) (x : Rcv) : World := w.alloc (.cells #[.int .u64 (x.p.last.n : Int), .int .u64 (x.p.last.e : Int), .int .i64 x.p.last.r, .int .u64 (x.p.last.m : Int), .slice x.a x.k x.c] 31)
theorem recW_below (w : World) (x : Rcv) : Below w.heap.size w (recW w x) := ((Grw.refl w).alloc _).below
theorem sumP_one (x : Rcv) : sumP (psL [x]) = x.p.pend.length := by unfold sumP psL; simp
def v1 : Vw := ⟨1, 0, 0, 3⟩
theorem v1_ok : v1.ok := ⟨by decide, by decide, by decide, by decide, by decide⟩
theorem eq_zero18 (w : World) : (binOp .eql 28 (.agg #[.int .u64 0, .int .u64 0, .int .i64 0, .int .u64 0]) (.agg #[.int .u64 0, .int .u64 0, .int .i64 0, .int .u64 0])).run Try.prog w = .ok (.bool true) w := eql_vw zeroV zeroV w
end Go.Proofs.Ytblefbjmjhgkkaa
