/- Layer 18: the law's 'of'; the document's Last and Views. (Written by wip/gen_voref.py.) -/
import Derived.Test.YtblefbjmjhgkkaaZVoFew
import Derived.Test.YtblefbjmjhgkkaaZRefList
set_option linter.unusedVariables false
set_option maxRecDepth 100000
set_option linter.unusedSimpArgs false
namespace Go.Proofs.Ytblefbjmjhgkkaa
open Go.RowKit Go.Sort Go.Maps

/-- A block that holds one of the document's records. -/
def RdB (w : World) (g : Nat) (x : Rcv) : Prop := Own w g 37 (encRc x).toArray
theorem RdB.new (w : World) (x : Rcv) : RdB (w.alloc (.cells #[.int .u64 (x.p.last.n : Int), .int .u64 (x.p.last.e : Int), .int .i64 x.p.last.r, .int .u64 (x.p.last.m : Int), .slice x.a x.k x.c] 37)) w.heap.size x := Own.new w _ _
theorem rd_lst {w : World} {g : Nat} {x : Rcv} (h : RdB w g x) : Lst encRc 5 w (some ⟨g, 0, none⟩) 1 [x] := ⟨rfl, fun _ => ⟨g, 0, rfl, fun i y hy j u hu => by
  cases i with
  | zero =>
    cases hy
    rw [show 0 + 0 * 5 + j = j by omega]
    exact Own.at_ h j u (by rw [← List.getElem?_toArray] at hu; exact hu)
  | succ i => cases hy⟩⟩
end Go.Proofs.Ytblefbjmjhgkkaa
