/-
  The lexer, plain: line feeds, and comments with line feeds, in place of blanks.
-/
import Derived.Test.YtbkcpcjdpfndpaaLexMath3
namespace Go.Proofs.Ytbkcpcjdpfndpaa

def gapF (k : Bool) : List UInt8 := if k then [32, 35, 32, 55, 46, 32, 59] else []
def longF (k : Bool) : Bool → List UInt8 → List UInt8
  | _, [] => []
  | i, c :: r => if c ≠ 32 ∨ ((i || c == 35) && c != 10) = true then c :: longF k ((i || c == 35) && c != 10) r else gapF k ++ 10 :: longF k ((i || c == 35) && c != 10) r
theorem long_cons (k i : Bool) (c : UInt8) (r : List UInt8) : longF k i (c :: r) = if c ≠ 32 ∨ ((i || c == 35) && c != 10) = true then c :: longF k ((i || c == 35) && c != 10) r else gapF k ++ 10 :: longF k ((i || c == 35) && c != 10) r := rfl
theorem long_blank (k : Bool) (r : List UInt8) : longF k false (32 :: r) = gapF k ++ 10 :: longF k false r := by
  rw [long_cons, if_neg (by decide)]; rfl
theorem long_feed (k i : Bool) (r : List UInt8) : longF k i (10 :: r) = 10 :: longF k false r := by
  rw [long_cons, if_pos (.inl (by decide))]; simp
theorem long_note (k : Bool) (r : List UInt8) : longF k false (35 :: r) = 35 :: longF k true r := by
  rw [long_cons, if_pos (.inl (by decide))]; rfl
theorem long_in (k : Bool) {c : UInt8} (r : List UInt8) (h : c ≠ 10) : longF k true (c :: r) = c :: longF k true r := by
  have : ((true || c == 35) && c != 10) = true := by simp [h]
  rw [long_cons, if_pos (.inr this), this]
theorem long_other (k : Bool) {c : UInt8} (r : List UInt8) (h1 : c ≠ 32) (h3 : c ≠ 35) : longF k false (c :: r) = c :: longF k false r := by
  have : ((false || c == 35) && c != 10) = false := by simp [h3]
  rw [long_cons, if_pos (.inl h1), this]
theorem long_skip (k : Bool) : ∀ s : List UInt8, (longF k true s).dropWhile (· != 10) = longF k false (s.dropWhile (· != 10))
  | [] => rfl
  | c :: r => by
    by_cases h : c = 10
    · subst h
      rw [long_feed]
      have e : ∀ z : List UInt8, (10 :: z).dropWhile (· != (10 : UInt8)) = 10 :: z := fun z => by rw [List.dropWhile_cons, if_neg (by decide)]
      rw [e, e, long_feed]
    · rw [long_in k r h, List.dropWhile_cons, if_pos (by simpa using h), List.dropWhile_cons, if_pos (by simpa using h), long_skip k r]
theorem long_app (k : Bool) (b : List UInt8) : ∀ a : List UInt8, (∀ x ∈ a, x ≠ 32 ∧ x ≠ 10 ∧ x ≠ 35) → longF k false (a ++ b) = a ++ longF k false b
  | [], _ => rfl
  | c :: r, h => by
    obtain ⟨h1, h2, h3⟩ := h c (by simp)
    rw [List.cons_append, long_other k _ h1 h3, long_app k b r (fun x hx => h x (by simp [hx]))]; rfl
theorem like_long (k : Bool) (s : List UInt8) : likeB s (longF k false s) := by
  cases s with
  | nil => exact .inl rfl
  | cons c r =>
    by_cases h1 : c = 32
    · subst h1; rw [long_blank]; exact .inr ⟨rfl, by cases k <;> rfl⟩
    · by_cases h3 : c = 35
      · subst h3; rw [long_note]; exact .inl rfl
      · rw [long_other k r h1 h3]; exact .inl rfl

/-- the same but for the lines -/
def sameF (y z : List Tok × Nat × Nat) : Prop := y.1.map (fun x => (x.k, x.t)) = z.1.map (fun x => (x.k, x.t)) ∧ y.2.1 = z.2.1
theorem same_cons {y z : List Tok × Nat × Nat} (k l m : Nat) (t : List UInt8) (h : sameF y z) : sameF (consF ⟨k, l, t⟩ y) (consF ⟨k, m, t⟩ z) := by
  unfold consF
  by_cases hz : z.2.1 = 0
  · rw [if_pos hz, if_pos (h.2.trans hz)]; exact ⟨by simp only [List.map_cons]; rw [h.1], rfl⟩
  · rw [if_neg hz, if_neg (by rw [h.2]; exact hz)]; exact ⟨rfl, h.2⟩
/-- the bytes of the first piece, where it isn't one of the kinds: no number sign behind the first byte -/
theorem take_more {c : UInt8} {r : List UInt8} (h1 : c ≠ 32) (h2 : c ≠ 10) (h3 : c ≠ 35) : ∀ x ∈ (c :: r).take (sizeF (c :: r)), x ≠ 32 ∧ x ≠ 10 ∧ x ≠ 35 := by
  have hl : ∀ x, letB x = true → x ≠ 35 := fun x h => by rintro rfl; revert h; decide
  have hd : ∀ x, digB x = true → x ≠ 35 := fun x h => by rintro rfl; revert h; decide
  have unf : sizeF (c :: r) = if letB c then nLet (c :: r) else if nDig (c :: r) = 0 then 1 else if (c :: r)[nDig (c :: r)]? = some 46 then nDig (c :: r) + 1 + nDig ((c :: r).drop (nDig (c :: r) + 1)) else nDig (c :: r) := rfl
  have tk : ∀ (p : UInt8 → Bool) (s : List UInt8), s.take (s.takeWhile p).length = s.takeWhile p := fun p s => (List.prefix_iff_eq_take.1 (List.takeWhile_prefix p)).symm
  intro x hx
  obtain ⟨a, b⟩ := take_bytes h1 h2 x hx
  refine ⟨a, b, ?_⟩
  rw [unf] at hx
  split at hx
  · unfold nLet at hx; rw [tk] at hx; exact hl x (tw_mem hx)
  · split at hx
    · simp at hx; subst hx; exact h3
    · split at hx
      · next h46 =>
        have hlt : nDig (c :: r) < (c :: r).length := by
          rcases Nat.lt_or_ge (nDig (c :: r)) (c :: r).length with h | h
          · exact h
          · rw [List.getElem?_eq_none h] at h46; cases h46
        have e46 : (c :: r)[nDig (c :: r)] = 46 := by rw [List.getElem?_eq_getElem hlt] at h46; exact Option.some.inj h46
        have e := (tw_split digB (c :: r)).1
        rw [show ((c :: r).takeWhile digB).length = nDig (c :: r) from rfl, List.drop_eq_getElem_cons hlt, e46] at e
        generalize hN : nDig (c :: r) = N at *
        have hal : ((c :: r).takeWhile digB).length = N := hN
        generalize hA : (c :: r).takeWhile digB = A at *
        generalize (c :: r).drop (N + 1) = R at *
        have hA2 : ∀ y ∈ A, digB y = true := fun y hy => by rw [← hA] at hy; exact tw_mem hy
        rw [e] at hx
        have e3 : (A ++ 46 :: R).take (N + 1 + nDig R) = A ++ 46 :: R.takeWhile digB := by
          rw [← hal, show A.length + 1 + nDig R = A.length + (nDig R + 1) by omega, List.take_length_add_append, List.take_succ_cons]
          unfold nDig; rw [tk]
        rw [e3] at hx
        rcases List.mem_append.1 hx with hx | hx
        · exact hd x (hA2 x hx)
        · rcases List.mem_cons.1 hx with rfl | hx
          · decide
          · exact hd x (tw_mem hx)
      · unfold nDig at hx; rw [tk] at hx; exact hd x (tw_mem hx)
theorem toks_gap (k : Bool) (line cnt : Nat) (z : List UInt8) : toksF line cnt (gapF k ++ 10 :: z) = toksF (line + 1) cnt z := by
  cases k with
  | false => exact toks_feed line cnt z
  | true =>
    show toksF line cnt (32 :: 35 :: 32 :: 55 :: 46 :: 32 :: 59 :: 10 :: z) = _
    rw [toks_blank, toks_note]
    have : ((32 : UInt8) :: 55 :: 46 :: 32 :: 59 :: 10 :: z).dropWhile (· != 10) = 10 :: z := by
      simp
    rw [this, toks_feed]
/-- line feeds, or comments with line feeds, in place of blanks: all but the lines is the same -/
theorem toks_long (k : Bool) (line cnt : Nat) (s : List UInt8) : ∀ m, sameF (toksF m cnt (longF k false s)) (toksF line cnt s) := by
  refine toks_cases (fun line cnt s => ∀ m, sameF (toksF m cnt (longF k false s)) (toksF line cnt s)) ?_ ?_ ?_ ?_ ?_ ?_ s.length line cnt s (Nat.le_refl _)
  · intro line cnt m; exact ⟨by rw [longF, toks_nil, toks_nil], by rw [longF, toks_nil, toks_nil]⟩
  · intro line cnt r ih m; rw [long_blank, toks_gap, toks_blank]; exact ih _
  · intro line cnt r ih m; rw [long_feed, toks_feed, toks_feed]; exact ih _
  · intro line cnt r ih m; rw [long_note, toks_note, toks_note, long_skip]; exact ih _
  · intro line cnt c r h1 h2 h3 hk m
    obtain ⟨e1, e2, e3⟩ := size_other (s := c :: r) (b := longF k false ((c :: r).drop (sizeF (c :: r)))) (by simp) (like_long k _)
    have e : longF k false (c :: r) = (c :: r).take (sizeF (c :: r)) ++ longF k false ((c :: r).drop (sizeF (c :: r))) := by
      conv => lhs; rw [← List.take_append_drop (sizeF (c :: r)) (c :: r)]
      exact long_app k _ _ (take_more h1 h2 h3)
    rw [← e, long_other k r h1 h3] at e2
    rw [long_other k r h1 h3, toks_eq m cnt h1 h2 h3, toks_eq line cnt h1 h2 h3, e2]
    rcases hk with hk | hk
    · rw [if_pos hk, if_pos hk]; exact ⟨rfl, rfl⟩
    · rw [if_pos hk, if_pos hk]; split <;> exact ⟨rfl, rfl⟩
  · intro line cnt c r h1 h2 h3 hk h5 ih m
    obtain ⟨e1, e2, e3⟩ := size_other (s := c :: r) (b := longF k false ((c :: r).drop (sizeF (c :: r)))) (by simp) (like_long k _)
    have e : longF k false (c :: r) = (c :: r).take (sizeF (c :: r)) ++ longF k false ((c :: r).drop (sizeF (c :: r))) := by
      conv => lhs; rw [← List.take_append_drop (sizeF (c :: r)) (c :: r)]
      exact long_app k _ _ (take_more h1 h2 h3)
    rw [← e, long_other k r h1 h3] at e2 e3
    rw [long_other k r h1 h3, toks_eq m cnt h1 h2 h3, toks_eq line cnt h1 h2 h3, e2, e3, if_neg hk, if_neg hk, if_neg h5, if_neg h5]
    exact same_cons _ _ _ _ (ih m)
end Go.Proofs.Ytbkcpcjdpfndpaa
