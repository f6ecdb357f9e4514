/- The contracts of the document's own Both, Any, But, In, Has, All. -/
import Derived.Test.YtblefbjmjhgkkaaZRefSet
set_option linter.unusedVariables false
set_option maxRecDepth 100000
set_option linter.unusedSimpArgs false
namespace Go.Proofs.Ytblefbjmjhgkkaa
open Go.RowKit

end Go.Proofs.Ytblefbjmjhgkkaa
