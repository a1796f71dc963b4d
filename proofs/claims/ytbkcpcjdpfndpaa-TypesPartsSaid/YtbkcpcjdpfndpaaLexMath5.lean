/-
  The lexer, plain: how long the text is of what was read; how many tokens there are.
-/
import Derived.Test.YtbkcpcjdpfndpaaLexMath4
namespace Go.Proofs.Ytbkcpcjdpfndpaa

theorem drop_len (s : List UInt8) : (s.dropWhile (· != 10)).length ≤ s.length := (List.dropWhile_suffix _).length_le
/-- the text of what was read is at most twice as long -/
theorem join_len (line cnt : Nat) (s : List UInt8) : ∀ (b : Bool) (l0 : Nat), l0 ≤ line → (joinS b l0 (toksF line cnt s).1).length ≤ 2 * s.length + (line - l0) := by
  refine toks_cases (fun line cnt s => ∀ (b : Bool) (l0 : Nat), l0 ≤ line → (joinS b l0 (toksF line cnt s).1).length ≤ 2 * s.length + (line - l0)) ?_ ?_ ?_ ?_ ?_ ?_ s.length line cnt s (Nat.le_refl _)
  · intro line cnt b l0 h; rw [toks_nil]; exact Nat.zero_le _
  · intro line cnt r ih b l0 h
    rw [toks_blank]; have := ih b l0 h; simp only [List.length_cons]; omega
  · intro line cnt r ih b l0 h
    rw [toks_feed]; have := ih b l0 (by omega); simp only [List.length_cons]; omega
  · intro line cnt r ih b l0 h
    rw [toks_note]; have := ih b l0 h; have := drop_len r; simp only [List.length_cons]; omega
  · intro line cnt c r h1 h2 h3 hk b l0 h
    obtain ⟨e, he, hq⟩ := toks_err line cnt h1 h2 h3 hk
    rw [hq]; exact Nat.zero_le _
  · intro line cnt c r h1 h2 h3 hk h5 ih b l0 h
    rw [toks_step line cnt h1 h2 h3 hk h5]
    have hp := size_pos (s := c :: r) (by simp)
    have hle := size_le (c :: r) (by simp)
    have hi := ih false line (Nat.le_refl _)
    rw [List.length_drop] at hi
    generalize toksF line (cnt + 1) ((c :: r).drop (sizeF (c :: r))) = y at *
    unfold consF
    by_cases hy : y.2.1 = 0
    · rw [if_pos hy]
      simp only [joinS, List.length_append, List.length_take]
      have hg : (if b = false ∧ line = l0 then [32] else List.replicate (line - l0) (10 : UInt8)).length ≤ 1 + (line - l0) := by
        split
        · simp
        · rw [List.length_replicate]; omega
      omega
    · rw [if_neg hy]; exact Nat.zero_le _
/-- there are not more tokens than bytes -/
theorem toks_count (line cnt : Nat) (s : List UInt8) : (toksF line cnt s).1.length ≤ s.length := by
  refine toks_cases (fun line cnt s => (toksF line cnt s).1.length ≤ s.length) ?_ ?_ ?_ ?_ ?_ ?_ s.length line cnt s (Nat.le_refl _)
  · intro line cnt; rw [toks_nil]; exact Nat.zero_le _
  · intro line cnt r ih; rw [toks_blank]; simp only [List.length_cons]; omega
  · intro line cnt r ih; rw [toks_feed]; simp only [List.length_cons]; omega
  · intro line cnt r ih; rw [toks_note]; have := drop_len r; simp only [List.length_cons]; omega
  · intro line cnt c r h1 h2 h3 hk
    obtain ⟨e, he, hq⟩ := toks_err line cnt h1 h2 h3 hk
    rw [hq]; exact Nat.zero_le _
  · intro line cnt c r h1 h2 h3 hk h5 ih
    rw [toks_step line cnt h1 h2 h3 hk h5]
    have hp := size_pos (s := c :: r) (by simp)
    have hle := size_le (c :: r) (by simp)
    rw [List.length_drop] at ih
    generalize toksF line (cnt + 1) ((c :: r).drop (sizeF (c :: r))) = y at *
    unfold consF
    by_cases hy : y.2.1 = 0
    · rw [if_pos hy]; simp only [List.length_cons] at *; omega
    · rw [if_neg hy]; exact Nat.zero_le _
end Go.Proofs.Ytbkcpcjdpfndpaa
