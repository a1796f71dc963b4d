/-
  Integers of 64 bits (at a seat that lacks the lexer).
-/
import Derived.Test.YtbkcpcjdpfndpaaParVal
namespace Go.Proofs.Ytbkcpcjdpfndpaa

def I64 (x : Int) : Prop := -9223372036854775808 ≤ x ∧ x ≤ 9223372036854775807
theorem ladd_succ (a : Addr) (m : Nat) : a.add (m + 1) = { block := (a.add m).block, off := (a.add m).off + 1 } := by
  unfold Addr.add; split <;> split <;> simp_all <;> omega
theorem ladd_two (a : Addr) (m : Nat) : a.add (m + 2) = { block := (a.add m).block, off := (a.add m).off + 2 } := by
  unfold Addr.add; split <;> split <;> simp_all <;> omega
theorem lblk_add (a : Addr) (m : Nat) : (a.add m).block = a.block := by unfold Addr.add; split <;> rfl
end Go.Proofs.Ytbkcpcjdpfndpaa
