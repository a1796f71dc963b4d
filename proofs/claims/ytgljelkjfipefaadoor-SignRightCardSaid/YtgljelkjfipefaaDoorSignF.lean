/-
  The laws' helpers: the first twenty integers of a list, a secret.
-/
import Derived.Test.YtgljelkjfipefaaDoorSub
import Derived.Test.YtgljelkjfipefaaDoorSignT
namespace Go.Proofs.YtgljelkjfipefaaDoor
open Go.RowKit Go.Shelf

def secI (n : Int) : Int := 1 + n % 1073741788
theorem secI_b (n : Int) : 1 ≤ secI n ∧ secI n < 1073741789 := by unfold secI; omega
theorem secret_any (n : Int) (h0 : 0 ≤ n) (h1 : n ≤ 18446744073709551615) (w : World) : Calls Tryd.prog 21 #[.int .u64 n] w (Same (.int .i64 (secI n)) w) := by
  unfold secI
  go_enter Tryd.func21, Tryd.ntmps21
  go_wp2_with fail
  go_ret
  exact Same.mk rfl rfl

end Go.Proofs.YtgljelkjfipefaaDoor
