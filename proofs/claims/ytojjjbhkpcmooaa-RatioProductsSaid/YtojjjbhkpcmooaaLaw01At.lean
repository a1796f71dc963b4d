/-
  RatioOrder: contracts with their numbers given. No conditions.
-/
import Derived.Test.YtojjjbhkpcmooaaRows
import Derived.WalkKit
import Derived.ProofKit
import Derived.OpenShut
import Derived.ChangeOld
import Derived.Below
import Derived.Lib.SmallJoins
import Derived.Test.YtojjjbhkpcmooaaLaw01Plain
import Derived.Test.YtojjjbhkpcmooaaHead01
import Derived.Test.YtojjjbhkpcmooaaRef01D
namespace Go.Proofs.Ytojjjbhkpcmooaa
open Go.ChangeShapes Go.WideShapes Go.ChangeAt Go.RowKit Go.Joins
set_option linter.unusedVariables false

theorem cmp_at {a b c d x e : Int} {w : World} (h : cmpF a b c d = (x, e)) : Calls Try.prog 21 #[.agg #[.int .i64 a, .int .i64 b], .agg #[.int .i64 c, .int .i64 d]] w (Ret (.tuple #[.int .i64 x, .int .i64 e]) w) := by
  have := compare_any a b c d w
  rw [h] at this; exact this
theorem sub_at {a b c d x y e : Int} {w : World} (h : subF a b c d = (x, y, e)) : Calls Try.prog 17 #[.agg #[.int .i64 a, .int .i64 b], .agg #[.int .i64 c, .int .i64 d]] w (Ret (.tuple #[.agg #[.int .i64 x, .int .i64 y], .int .i64 e]) w) := by
  have := sub_any a b c d w
  rw [h] at this; exact this
theorem add_at {a b c d x y e : Int} {w : World} (h : addF a b c d = (x, y, e)) : Calls Try.prog 15 #[.agg #[.int .i64 a, .int .i64 b], .agg #[.int .i64 c, .int .i64 d]] w (Ret (.tuple #[.agg #[.int .i64 x, .int .i64 y], .int .i64 e]) w) := by
  have := add_any a b c d w
  rw [h] at this; exact this
theorem mul_at {a b c d x y e : Int} {w : World} (h : mulF a b c d = (x, y, e)) : Calls Try.prog 19 #[.agg #[.int .i64 a, .int .i64 b], .agg #[.int .i64 c, .int .i64 d]] w (Ret (.tuple #[.agg #[.int .i64 x, .int .i64 y], .int .i64 e]) w) := by
  have := mul_any a b c d w
  rw [h] at this; exact this
theorem make_at {a b x y e : Int} {w : World} (h : mkF a b = (x, y, e)) : Calls Try.prog 11 #[.int .i64 a, .int .i64 b] w (Ret (.tuple #[.agg #[.int .i64 x, .int .i64 y], .int .i64 e]) w) := by
  have := make_any a b w
  rw [h] at this; exact this
theorem round_at {a b k x e : Int} {w : World} (h : roundF a b k = (x, e)) : Calls Try.prog 23 #[.agg #[.int .i64 a, .int .i64 b], .int .i64 k] w (Ret (.tuple #[.int .i64 x, .int .i64 e]) w) := by
  have := round_any a b k w
  rw [h] at this; exact this
theorem part_at {n a b k x e : Int} {w : World} (h : partF n a b k = (x, e)) : Calls Try.prog 25 #[.int .i64 n, .agg #[.int .i64 a, .int .i64 b], .int .i64 k] w (Ret (.tuple #[.int .i64 x, .int .i64 e]) w) := by
  have := part_any n a b k w
  rw [h] at this; exact this
end Go.Proofs.Ytojjjbhkpcmooaa
