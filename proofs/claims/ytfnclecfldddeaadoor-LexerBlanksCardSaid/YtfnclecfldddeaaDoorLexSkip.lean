/-
  What is skipped between tokens: plainly, by bytes; the closure that decides it, and run with it.
-/
import Derived.Test.YtfnclecfldddeaaDoorLexA
import Derived.Test.YtfnclecfldddeaaDoorLexMath5
import Derived.Test.YtfnclecfldddeaaDoorRangeS
import Derived.Lib.DecodeN
namespace Go.Proofs.YtfnclecfldddeaaDoor
open Go.RowKit
set_option maxRecDepth 100000

/-- how many bytes are skipped, in a comment or not -/
def skipF : Bool → List UInt8 → Nat
  | _, [] => 0
  | i, c :: r => if c = 10 then 1 + skipF false r else if c = 35 ∨ i = true then 1 + skipF true r else if c = 32 then 1 + skipF false r else 0
def skB (i : Bool) (c : UInt8) : Bool := c == 10 || c == 35 || i || c == 32
def nxI (i : Bool) (c : UInt8) : Bool := c != 10 && (c == 35 || i)
theorem skip_cons (i : Bool) (c : UInt8) (r : List UInt8) : skipF i (c :: r) = if skB i c then 1 + skipF (nxI i c) r else 0 := by
  rw [skipF]
  unfold skB nxI
  by_cases h1 : c = 10
  · subst h1; simp
  · have hne : (c != 10) = true := by simpa using h1
    by_cases h2 : c = 35
    · subst h2; simp
    · by_cases h3 : c = 32
      · subst h3; cases i <;> simp
      · cases i <;> simp [h1, h2, h3, hne]
theorem skip_hi (b : List UInt8) : ∀ a : List UInt8, (∀ x ∈ a, 128 ≤ x.toNat) → skipF true (a ++ b) = a.length + skipF true b
  | [], _ => by simp
  | c :: r, h => by
    have hc := h c (by simp)
    have e : skB true c = true := by simp [skB]
    have e2 : nxI true c = true := by
      have : c ≠ 10 := by rintro rfl; revert hc; decide
      simp [nxI, this]
    rw [List.cons_append, skip_cons, if_pos e, e2, skip_hi b r (fun x hx => h x (by simp [hx])), List.length_cons]; omega
theorem skip_le : ∀ (s : List UInt8) (i : Bool), skipF i s ≤ s.length
  | [], i => by simp [skipF]
  | c :: r, i => by
    rw [skip_cons]
    have := skip_le r (nxI i c)
    split <;> simp <;> omega
theorem nl_hi {a : List UInt8} (h : ∀ x ∈ a, 128 ≤ x.toNat) : nl a = 0 := by
  unfold nl; rw [List.count_eq_zero]; intro hm; have := h 10 hm; revert this; decide

/-- the bytes of a rune that is no ASCII -/
theorem decode_bytes (s : ByteArray) (pos : Nat) (h : pos < s.size) (ha : 128 ≤ (s.get! pos).toNat) : ∀ j, j < (Utf8.decode s pos).2 → pos + j < s.size ∧ 128 ≤ (s.get! (pos + j)).toNat := by
  intro j hj
  have hn : ¬ (s.get! pos).toNat < 128 := by omega
  by_cases h0 : j = 0
  · subst h0; exact ⟨by simpa using h, by simpa using ha⟩
  simp only [Utf8.decode, Nat.add_zero, if_neg hn] at hj
  have hgo : ∀ k, (decide (pos + k < s.size) && (s.get! (pos + k)).toNat / 64 == 2) = true → pos + k < s.size ∧ 128 ≤ (s.get! (pos + k)).toNat := by
    intro k hk
    simp only [Bool.and_eq_true, decide_eq_true_eq, beq_iff_eq] at hk
    omega
  split at hj
  · next h1 =>
    simp only [Bool.and_eq_true] at h1
    split at hj
    · obtain rfl : j = 1 := by simp at hj; omega
      exact hgo 1 (by simpa using h1.2)
    · simp at hj; omega
  · split at hj
    · next h1 =>
      simp only [Bool.and_eq_true] at h1
      split at hj
      · have : j = 1 ∨ j = 2 := by simp at hj; omega
        rcases this with rfl | rfl
        · exact hgo 1 (by simpa using h1.1.2)
        · exact hgo 2 (by simpa using h1.2)
      · simp at hj; omega
    · split at hj
      · next h1 =>
        simp only [Bool.and_eq_true] at h1
        split at hj
        · have : j = 1 ∨ j = 2 ∨ j = 3 := by simp at hj; omega
          rcases this with rfl | rfl | rfl
          · exact hgo 1 (by simpa using h1.1.1.2)
          · exact hgo 2 (by simpa using h1.1.2)
          · exact hgo 3 (by simpa using h1.2)
        · simp at hj; omega
      · simp at hj; omega
theorem get_byt (s : List UInt8) (n : Nat) (h : n < s.length) : (⟨s.toArray⟩ : ByteArray).get! n = s[n] := by
  have : (⟨s.toArray⟩ : ByteArray).get! n = s.toArray[n]! := rfl
  rw [this]; simp [h]
/-- one rune: what becomes of the count, the lines and the comment -/
theorem skip_rune (s : List UInt8) (n : Nat) (h : n < s.length) :
    if s[n].toNat < 128 then Utf8.decode ⟨s.toArray⟩ n = (s[n].toNat, 1) else (128 ≤ (Utf8.decode ⟨s.toArray⟩ n).1 ∧ n + (Utf8.decode ⟨s.toArray⟩ n).2 ≤ s.length ∧ 1 ≤ (Utf8.decode ⟨s.toArray⟩ n).2 ∧
      skipF true (s.drop n) = (Utf8.decode ⟨s.toArray⟩ n).2 + skipF true (s.drop (n + (Utf8.decode ⟨s.toArray⟩ n).2)) ∧ nl (s.take (n + (Utf8.decode ⟨s.toArray⟩ n).2)) = nl (s.take n)) := by
  have hn : n < (⟨s.toArray⟩ : ByteArray).size := by rw [bsz]; exact h
  split
  · next hc => exact decode_ascii _ n hn (by rw [byt]; exact hc)
  · next hc =>
    obtain ⟨h1, h2⟩ := decode_high ⟨s.toArray⟩ n hn (by rw [byt]; omega)
    have hb := decode_bytes ⟨s.toArray⟩ n hn (by rw [get_byt _ _ h]; omega)
    rw [bsz] at hb
    generalize (Utf8.decode ⟨s.toArray⟩ n).2 = m at *
    have hle : n + m ≤ s.length := by have := (hb (m - 1) (by omega)).1; omega
    have hall : ∀ x ∈ (s.drop n).take m, 128 ≤ x.toNat := by
      intro x hx
      obtain ⟨j, hj, rfl⟩ := List.getElem_of_mem hx
      have hj' : j < m := by rw [List.length_take] at hj; omega
      have := (hb j hj').2
      rw [get_byt _ _ (by omega)] at this
      simpa using this
    have hl : ((s.drop n).take m).length = m := by rw [List.length_take, List.length_drop]; omega
    refine ⟨h1, hle, h2, ?_, ?_⟩
    · have e : s.drop n = (s.drop n).take m ++ s.drop (n + m) := by rw [← List.drop_drop, List.take_append_drop]
      conv => lhs; rw [e]
      rw [skip_hi _ _ hall, hl]
    · have e : s.take (n + m) = s.take n ++ (s.drop n).take m := List.take_add
      rw [e]
      have := nl_hi hall
      unfold nl at *
      rw [List.count_append, this]; omega
end Go.Proofs.YtfnclecfldddeaaDoor
