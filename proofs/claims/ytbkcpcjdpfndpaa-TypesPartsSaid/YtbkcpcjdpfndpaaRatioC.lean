/-
  The walks of the ratio package: Make, the three operations, Compare.
-/
import Derived.Test.YtbkcpcjdpfndpaaRatioB
namespace Go.Proofs.Ytbkcpcjdpfndpaa
open Go.RowKit

theorem within_at {b : Bool} (n m : Int) (w : World) (h1 : 0 ≤ m) (h2 : m ≤ 1000000000000000) (h : wthB n m = b) : Calls Try.prog 57 #[.int .i64 n, .int .i64 m] w (Same (.bool b) w) := by subst h; exact within_any n m w h1 h2
theorem valid_at {b : Bool} (n d : Int) (w : World) (h : vldB n d = b) : Calls Try.prog 36 #[.agg #[.int .i64 n, .int .i64 d]] w (Ret (.bool b) w) := by subst h; exact valid_any n d w

theorem Ret2.eq {x y : Int} {p : Int × Int} (h : p = (x, y)) : Value.tuple #[.int .i64 x, .int .i64 y] = .tuple #[.int .i64 p.1, .int .i64 p.2] := by rw [h]

end Go.Proofs.Ytbkcpcjdpfndpaa
