/- The other contracts of 'once': a text; and where bytes lack. -/
import Derived.Test.YtibngfpjdookkaaOnce
set_option linter.unusedVariables false
set_option linter.unusedSimpArgs false
namespace Go.Proofs.Ytibngfpjdookkaa
open Go.RowKit

end Go.Proofs.Ytibngfpjdookkaa
