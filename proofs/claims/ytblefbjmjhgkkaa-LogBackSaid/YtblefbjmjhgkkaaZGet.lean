/- The contracts of Get: a number at a place, or none. -/
import Derived.Test.YtblefbjmjhgkkaaZNumber
import Derived.WalkSpells
set_option linter.unusedVariables false
set_option maxRecDepth 100000
set_option linter.unusedSimpArgs false
namespace Go.Proofs.Ytblefbjmjhgkkaa
open Go.RowKit

end Go.Proofs.Ytblefbjmjhgkkaa
