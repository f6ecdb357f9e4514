/- The contracts of Get: a number at a place, or none. -/
import Derived.Test.YtgkddjapcdjalaaNumber
import Derived.WalkSpells
set_option linter.unusedVariables false
set_option linter.unusedSimpArgs false
namespace Go.Proofs.Ytgkddjapcdjalaa
open Go.RowKit

end Go.Proofs.Ytgkddjapcdjalaa
