/-
  Two ratios compared as structs.
-/
import Derived.Test.YtbkcpcjdpfndpaaKit
import Derived.Test.YtbkcpcjdpfndpaaProg
import Derived.Laws.StructEq
import Derived.KernelRfl
namespace Go.Proofs.Ytbkcpcjdpfndpaa
open Go.RowKit

theorem rat_held : Try.prog.stoodInHeld 28 = false := by kernel_rfl
theorem eql_rat (a b c d : Int) (w : World) : (binOp .eql 28 (.agg #[.int .i64 a, .int .i64 b]) (.agg #[.int .i64 c, .int .i64 d])).run Try.prog w = .ok (.bool (a == c && b == d)) w := by
  have hu : Try.prog.underlying 28 = some (.struct (Try.prog.fieldsOf 28)) := by kernel_rfl
  simp only [binOp]
  by_cases h1 : a = c <;> by_cases h2 : b = d <;> simp [Op.equal, Op.maxDepth, run_equalIn_struct _ _ _ _ _ hu rat_held, Op.eqFields, go_sem, h1, h2]
theorem neq_rat (a b c d : Int) (w : World) : (binOp .neq 28 (.agg #[.int .i64 a, .int .i64 b]) (.agg #[.int .i64 c, .int .i64 d])).run Try.prog w = .ok (.bool (!(a == c && b == d))) w := by
  have hu : Try.prog.underlying 28 = some (.struct (Try.prog.fieldsOf 28)) := by kernel_rfl
  simp only [binOp]
  by_cases h1 : a = c <;> by_cases h2 : b = d <;> simp [Op.equal, Op.maxDepth, run_equalIn_struct _ _ _ _ _ hu rat_held, Op.eqFields, go_sem, h1, h2]
end Go.Proofs.Ytbkcpcjdpfndpaa
