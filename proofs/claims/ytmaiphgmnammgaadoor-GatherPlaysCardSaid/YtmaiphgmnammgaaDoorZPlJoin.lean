/- Plans: join: one more companion. (Written by gen_pljoin.py.) -/
import Derived.Test.YtmaiphgmnammgaaDoorZPlEnds
import Derived.Test.YtmaiphgmnammgaaDoorZHzAts
import Derived.Test.YtmaiphgmnammgaaDoorZSMaps
set_option linter.unusedVariables false
set_option maxRecDepth 100000
set_option linter.unusedSimpArgs false
namespace Go.Proofs.YtmaiphgmnammgaaDoor
open Go.RowKit Go.Sort Go.Shelf

/-- An exchange's block. -/
def XgB (w : World) (b : Nat) (x : Xg) : Prop := Own w b 38 (encXg x).toArray
theorem XgB.own {w : World} {b : Nat} {x : Xg} (h : XgB w b x) : Own w b 38 (encXg x).toArray := h
theorem XgB.below {w w' : World} {b : Nat} {x : Xg} (h : XgB w b x) (hb : Below w.heap.size w w') : XgB w' b x := (hb.block b (Own.lt h)).trans h
theorem XgB.kept {w w' : World} {b : Nat} {x : Xg} (h : XgB w b x) (hb : w'.heap[b]? = w.heap[b]?) : XgB w' b x := hb.trans h
theorem XgB.new (w : World) (x : Xg) : XgB (w.alloc (.cells (encXg x).toArray 38)) w.heap.size x := Own.new w _ _
section
variable {W w wr w' : World} {g mb : Nat} {P : Pn} {x : Xg}
end
section
variable {W w : World} {g : Nat} {P : Pn}
end
end Go.Proofs.YtmaiphgmnammgaaDoor
