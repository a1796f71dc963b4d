/-
  The reference: Next.
-/
import Derived.Test.YtnjaedbekogeaaaDoorDigText
namespace Go.Proofs.YtnjaedbekogeaaaDoor
open Go.RowKit Go.Shelf

end Go.Proofs.YtnjaedbekogeaaaDoor
