/-
  RatioParts: what its walks rest on: a part of an integer is the product with it, rounded, if this exists; a part that is not negative of a greater integer is not less. No conditions: for every input.
-/
import Derived.Test.YtojjjbhkpcmooaaLaw01At
import Derived.Test.YtojjjbhkpcmooaaPartsPlain
import Derived.Test.YtojjjbhkpcmooaaKitSet
import Derived.Deep.RegionHeld3
import Derived.Deep.DeepCutAuto
namespace Go.Proofs.Ytojjjbhkpcmooaa
open Go.ChangeShapes Go.WideShapes Go.ChangeAt Go.RowKit Go.Joins
set_option linter.unusedVariables false

theorem belowStep {w0 w w1 : World} (h : Below w0.heap.size w0 w) (hb : Below w.heap.size w w1) : Below w0.heap.size w0 w1 := h.trans (hb.mono h.size)
theorem belowAlloc {w0 w : World} (h : Below w0.heap.size w0 w) (o : Obj) : Below w0.heap.size w0 (w.alloc o) := h.alloc h.size o
end Go.Proofs.Ytojjjbhkpcmooaa
