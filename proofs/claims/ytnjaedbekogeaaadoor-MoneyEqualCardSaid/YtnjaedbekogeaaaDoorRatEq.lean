/-
  Two ratios compared as structs.
-/
import Derived.Test.YtnjaedbekogeaaaDoorKit
import Derived.Test.YtnjaedbekogeaaaDoorProg
import Derived.Laws.StructEq
import Derived.KernelRfl
namespace Go.Proofs.YtnjaedbekogeaaaDoor
open Go.RowKit

theorem rat_held : Tryd.prog.stoodInHeld 40 = false := by kernel_rfl
theorem eql_rat (a b c d : Int) (w : World) : (binOp .eql 40 (.agg #[.int .i64 a, .int .i64 b]) (.agg #[.int .i64 c, .int .i64 d])).run Tryd.prog w = .ok (.bool (a == c && b == d)) w := by
  have hu : Tryd.prog.underlying 40 = some (.struct (Tryd.prog.fieldsOf 40)) := by kernel_rfl
  simp only [binOp]
  by_cases h1 : a = c <;> by_cases h2 : b = d <;> simp [Op.equal, Op.maxDepth, run_equalIn_struct _ _ _ _ _ hu rat_held, Op.eqFields, go_sem, h1, h2]
theorem neq_rat (a b c d : Int) (w : World) : (binOp .neq 40 (.agg #[.int .i64 a, .int .i64 b]) (.agg #[.int .i64 c, .int .i64 d])).run Tryd.prog w = .ok (.bool (!(a == c && b == d))) w := by
  have hu : Tryd.prog.underlying 40 = some (.struct (Tryd.prog.fieldsOf 40)) := by kernel_rfl
  simp only [binOp]
  by_cases h1 : a = c <;> by_cases h2 : b = d <;> simp [Op.equal, Op.maxDepth, run_equalIn_struct _ _ _ _ _ hu rat_held, Op.eqFields, go_sem, h1, h2]
end Go.Proofs.YtnjaedbekogeaaaDoor
