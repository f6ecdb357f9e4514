/- Layer 15: awake: its walk. -/
import Derived.Test.YtmaiphgmnammgaaDoorZPlAwake
set_option linter.unusedVariables false
set_option maxRecDepth 100000
set_option linter.unusedSimpArgs false
namespace Go.Proofs.YtmaiphgmnammgaaDoor
open Go.RowKit Go.Sort Go.Shelf Go.Maps

end Go.Proofs.YtmaiphgmnammgaaDoor
