/-
  The walks of the reference of layer 1: Make, both, the operations.
-/
import Derived.Test.YtnjaedbekogeaaaDoorRef01B
namespace Go.Proofs.YtnjaedbekogeaaaDoor
open Go.RowKit

theorem r_valid_at {b : Bool} (n d : Int) (w : World) (h : vldB n d = b) : Calls Tryd.prog 30 #[.agg #[.int .i64 n, .int .i64 d]] w (Ret (.bool b) w) := by subst h; exact r_valid n d w

end Go.Proofs.YtnjaedbekogeaaaDoor
