/-
  Next.
-/
import Derived.Test.YtnjaedbekogeaaaDoorDigRow
namespace Go.Proofs.YtnjaedbekogeaaaDoor
open Go.RowKit

theorem int_one {l : List Int} : ∀ u ∈ l.map (Value.int .i64), u.oneCell' = true := by
  intro u hu
  obtain ⟨x, _, rfl⟩ := List.mem_map.1 hu
  rfl
/-- number and integers of a list, laid by the call -/
theorem ints_of_own {w : World} {base : Nat} {v : Value} {l : List Int} (h : OwnRow w base 3 v (l.map (.int .i64))) (hl : l.length ≤ 1000000) (hi : ∀ x ∈ l, I64 x) : Ints w v l :=
  ⟨Row.of_own h (by simp; omega), hi⟩

end Go.Proofs.YtnjaedbekogeaaaDoor
