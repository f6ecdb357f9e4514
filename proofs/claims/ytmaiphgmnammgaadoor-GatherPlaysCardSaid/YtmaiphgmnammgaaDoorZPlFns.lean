/- Plans: what is told of one; ahead of an end, behind one. -/
import Derived.Test.YtmaiphgmnammgaaDoorZPlAt
set_option linter.unusedVariables false
set_option maxRecDepth 100000
set_option linter.unusedSimpArgs false
namespace Go.Proofs.YtmaiphgmnammgaaDoor
open Go.RowKit Go.Sort Go.Shelf

section
variable {w : World} {g : Nat} {P : Pn}
end
section
variable {w : World} {b : Nat} {e : Nat → Int}
end
end Go.Proofs.YtmaiphgmnammgaaDoor
