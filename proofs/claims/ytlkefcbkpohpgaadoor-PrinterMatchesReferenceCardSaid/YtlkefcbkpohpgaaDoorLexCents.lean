/-
  The number that digits say, one digit more.
-/
import Derived.Test.YtlkefcbkpohpgaaDoorLexPlain
namespace Go.Proofs.YtlkefcbkpohpgaaDoor

theorem cents_snoc (l : List UInt8) (d : UInt8) : cents (l ++ [d]) = if digB d then 10 * cents l + (d.toNat - 48) else cents l := by
  unfold cents
  rw [List.filter_append, List.filter_cons, List.filter_nil]
  split
  · rw [List.foldl_append]; rfl
  · rw [List.append_nil]
end Go.Proofs.YtlkefcbkpohpgaaDoor
