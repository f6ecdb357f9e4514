/- The contracts of the document's own two orders: Compare, Confs. -/
import Derived.Test.YtlkmenjalpmipaaZKeyMaths
set_option linter.unusedVariables false
set_option linter.unusedSimpArgs false
namespace Go.Proofs.Ytlkmenjalpmipaa
open Go.RowKit Go.Sort

/-- Does a key come ahead of another one, by their numbers? -/
def lessB (an ap bn bp : Int) : Bool := K.less ⟨an, ap⟩ ⟨bn, bp⟩

end Go.Proofs.Ytlkmenjalpmipaa
