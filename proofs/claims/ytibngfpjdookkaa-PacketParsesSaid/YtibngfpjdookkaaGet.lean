/- The contracts of Get: a number at a place, or none. -/
import Derived.Test.YtibngfpjdookkaaNumber
import Derived.WalkSpells
set_option linter.unusedVariables false
set_option linter.unusedSimpArgs false
namespace Go.Proofs.Ytibngfpjdookkaa
open Go.RowKit

end Go.Proofs.Ytibngfpjdookkaa
