/- What All answers of two lists of the same messages. -/
import Derived.Test.YthgdiihibjnhoaaSMsg
set_option linter.unusedVariables false
set_option linter.unusedSimpArgs false
namespace Go.Proofs.Ythgdiihibjnhoaa
open Go.RowKit Go.Sort

end Go.Proofs.Ythgdiihibjnhoaa
