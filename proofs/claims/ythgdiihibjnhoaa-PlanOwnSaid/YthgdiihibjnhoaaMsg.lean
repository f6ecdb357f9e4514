/- Messages as values; the contracts of Of and messages; the document's Less, ConfLess, sign, Compare, Confs, Of. -/
import Derived.Test.YthgdiihibjnhoaaOrders
import Derived.Test.YthgdiihibjnhoaaSAll
import Derived.Shelf.SlSortCmp.KitK
set_option linter.unusedVariables false
set_option linter.unusedSimpArgs false
namespace Go.Proofs.Ythgdiihibjnhoaa
open Go.RowKit Go.Sort

def Mg.key (m : Mg) : K := ⟨m.s, m.f⟩
end Go.Proofs.Ythgdiihibjnhoaa
