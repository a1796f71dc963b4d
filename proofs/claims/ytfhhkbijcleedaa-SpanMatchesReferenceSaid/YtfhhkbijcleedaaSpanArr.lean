/-
  Two pairs of counts compared as arrays.
-/
import Derived.Test.YtfhhkbijcleedaaKit
import Derived.Test.YtfhhkbijcleedaaProg
import Derived.Laws.StructEq
import Derived.DeepKeys
import Derived.KernelRfl
namespace Go.Proofs.Ytfhhkbijcleedaa
open Go.RowKit

theorem neq_arr (a b c d : Int) (w : World) : (binOp .neq 50 (.agg #[.int .i64 a, .int .i64 b]) (.agg #[.int .i64 c, .int .i64 d])).run Try.prog w = .ok (.bool (!(a == c && b == d))) w := by
  have hu : Try.prog.underlying 50 = some (.array 2 3) := by kernel_rfl
  obtain ⟨i, hi⟩ : ∃ i, Try.prog.info? 3 = some i := Option.isSome_iff_exists.1 (by kernel_rfl)
  have h3 : Try.prog.underlying 3 = some (.int .i64) := by kernel_rfl
  have hc : Try.prog.cellsOf 3 = 1 := by kernel_rfl
  obtain ⟨m, hm⟩ : ∃ m, Op.maxDepth = m + 1 + 1 := ⟨9998, rfl⟩
  have key : (Op.equalIn (m + 1 + 1) 50 (.agg #[.int .i64 a, .int .i64 b]) (.agg #[.int .i64 c, .int .i64 d])).run Try.prog w = .ok (a == c && b == d) w := by
    rw [run_equalIn_array w (m + 1) _ _ hu hi]
    by_cases h1 : a = c <;> by_cases h2 : b = d <;> simp [Op.eqItems, List.range, List.range.loop, part, go_sem, run_equalIn_int _ _ _ _ _ _ _ h3, h1, h2, hc]
  simp only [binOp, Op.equal, hm]
  simp only [Sem.run_bind, key, go_sem, Result.andThen]
  simp
end Go.Proofs.Ytfhhkbijcleedaa
