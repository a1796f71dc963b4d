/-
  An argument that is a slice of tokens: what it reads.
-/
import Derived.Test.YtbkcpcjdpfndpaaPrnI64
import Derived.Deep.Slices
import Derived.Deep.Strs
import Derived.ChangeSame
import Derived.ChangeSlices
namespace Go.Proofs.Ytbkcpcjdpfndpaa
open Go.ChangeShapes Go.WideShapes Go.RowKit Go.Deep
set_option maxRecDepth 100000

theorem ladd_add (a : Addr) (m n : Nat) : (a.add m).add n = a.add (m + n) := by
  induction n with
  | zero => unfold Addr.add; split <;> simp_all
  | succ n ih => rw [ladd_succ, ih, ← Nat.add_assoc, ladd_succ]
theorem lblock_lt {w : World} {a : Addr} {v : Value} (h : w.cell? a = some v) : a.block < w.heap.size := by
  unfold World.cell? at h
  rcases Nat.lt_or_ge a.block w.heap.size with hl | hg
  · exact hl
  · rw [Array.getElem?_eq_none hg] at h; cases h
end Go.Proofs.Ytbkcpcjdpfndpaa
