/- Layer 15: Few; what both Fews say of what came in. -/
import Derived.Test.YthgdiihibjnhoaaPlOpen
set_option linter.unusedVariables false
set_option maxRecDepth 100000
set_option linter.unusedSimpArgs false
namespace Go.Proofs.Ythgdiihibjnhoaa
open Go.RowKit Go.Sort Go.Shelf Go.Maps

/-- What Few answers: if yes, the exchanges are at most 80. -/
def FewX (w : World) (n : Nat) (e : Ending) (w' : World) : Prop := (e = .returned (.bool false) ∨ e = .returned (.bool true) ∧ n ≤ 80) ∧ w = w'
end Go.Proofs.Ythgdiihibjnhoaa
