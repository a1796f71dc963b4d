/-
  The program: the number of an integer, its bytes.
-/
import Derived.Test.YtpgnlmhkigpjgaaCodFn
import Derived.Laws.BitsLemmas
import Derived.Laws.Bits64b
namespace Go.Proofs.Ytpgnlmhkigpjgaa
open Go.RowKit

theorem bits_not_i64 (n : Int) (h : I64 n) : bits .xor .i64 (-1) n = -n - 1 := by
  have h1 := h.1
  have h2 := h.2
  have e : BitVec.ofInt 64 (-1) = BitVec.allOnes 64 := by decide
  show IntKind.i64.wrap ((BitVec.ofInt 64 (-1) ^^^ BitVec.ofInt 64 n).toNat : Int) = _
  rw [e, BitVec.allOnes_xor, BitVec.toNat_not, BitVec.toNat_ofInt]
  rw [IntKind.wrap_i64]
  omega
theorem number_any (n : Int) (h : I64 n) (w : World) : Calls Try.prog 34 #[.int .i64 n] w (Same (.int .u64 (num n)) w) := by
  have h1 := h.1
  have h2 := h.2
  have hb := bits_not_i64 n h
  by_cases hn : n < 0
  · go_enter Try.func34, Try.ntmps34
    go_wp2_with fail
    go_ret
    refine Same.mk ?_ rfl
    unfold num; rw [if_pos hn]
    simp only [Array.getD_eq_getD_getElem?, List.getElem?_toArray, List.getElem?_cons_succ, List.getElem?_cons_zero, Option.getD_some]
    congr 1
    simp only [IntKind.wrap_u64]
    omega
  · have hw : IntKind.u64.wrap n = n := by rw [IntKind.wrap_u64]; omega
    have hw2 : IntKind.u64.wrap (2 * n) = 2 * n := by rw [IntKind.wrap_u64]; omega
    go_enter Try.func34, Try.ntmps34
    go_wp2_with fail
    go_ret
    refine Same.mk ?_ rfl
    unfold num; rw [if_neg (by omega)]
    simp only [Array.getD_eq_getD_getElem?, List.getElem?_toArray, List.getElem?_cons_succ, List.getElem?_cons_zero, Option.getD_some]
    congr 1
    omega
theorem must_true (w : World) : Calls Try.prog 37 #[.bool true] w (Same (.tuple #[]) w) := by
  go_enter Try.func37, Try.ntmps37
  go_wp2_with fail
  go_end0
  exact ⟨rfl, rfl⟩
/-- the panic that means: no such bytes -/
def bad : List PanicEntry := [{ v := .iface 25 (.int .i64 7), recovered := false }]
theorem must_false (w : World) : Calls Try.prog 37 #[.bool false] w fun e w' => e = .panicked bad ∧ w' = w := by
  go_enter Try.func37, Try.ntmps37
  go_wp2_with fail
  exact ⟨rfl, rfl, rfl⟩
end Go.Proofs.Ytpgnlmhkigpjgaa
