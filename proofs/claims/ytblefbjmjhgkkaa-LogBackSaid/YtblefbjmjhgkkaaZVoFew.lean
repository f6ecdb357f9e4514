/- Layer 18: Few. -/
import Derived.Test.YtblefbjmjhgkkaaZVoOpen
set_option linter.unusedVariables false
set_option maxRecDepth 100000
set_option linter.unusedSimpArgs false
namespace Go.Proofs.Ytblefbjmjhgkkaa
open Go.RowKit Go.Sort Go.Maps

theorem sumP_take {l : List Rcv} {k : Nat} {x : Rcv} (h : l[k]? = some x) : sumP (psL (l.take (k + 1))) = sumP (psL (l.take k)) + x.p.pend.length := by rw [psL_take h, sumP_snoc]
end Go.Proofs.Ytblefbjmjhgkkaa
