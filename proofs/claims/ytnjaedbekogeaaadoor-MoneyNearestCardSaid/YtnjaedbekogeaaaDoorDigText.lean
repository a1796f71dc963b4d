/-
  The reference: the bytes of a number and the texts of integers; Next; Chain. The law's 'turned'.
-/
import Derived.Test.YtnjaedbekogeaaaDoorDigDec
namespace Go.Proofs.YtnjaedbekogeaaaDoor
open Go.RowKit Go.Shelf

theorem bytes_of_own {w : World} {base : Nat} {v : Value} {l : List UInt8} (h : OwnRow w base 5 v (l.map vB)) (hl : l.length ≤ 1000000000) : Bytes w v l := Row.of_own h (by simp; omega)
theorem itoa_len (n : Int) (h : I64 n) : (Lib.itoa n).length ≤ 20 := by
  have h1 := h.1
  have h2 := h.2
  have hl := rd_len 19 n.natAbs (by omega)
  by_cases h0 : n = 0
  · subst h0
    have e0 : Lib.itoa 0 = [48] := by rw [Lib.itoa, if_neg (by omega), Lib.decDigits, dif_pos (by decide)]; rfl
    rw [e0]; simp
  · rw [itoa_rd n h0]
    split <;> simp <;> omega
theorem txt_len : ∀ (l : List Int), (∀ x ∈ l, I64 x) → (txt l).length ≤ 21 * l.length
  | [], _ => by simp [txt]
  | x :: l, h => by
    have h1 := itoa_len x (h x (by simp))
    have h2 := txt_len l fun y hy => h y (by simp [hy])
    unfold txt at h2 ⊢
    simp only [List.flatMap_cons, List.length_append, List.length_cons, List.length_nil] at h2 ⊢
    omega

end Go.Proofs.YtnjaedbekogeaaaDoor
