/-
  The reference: Sum.
-/
import Derived.Test.YtnjaedbekogeaaaDoorDigN
namespace Go.Proofs.YtnjaedbekogeaaaDoor
open Go.RowKit

end Go.Proofs.YtnjaedbekogeaaaDoor
