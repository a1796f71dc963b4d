/-
  The lexer, plain: what the texts are together; more blanks; line feeds and comments in place of blanks.
-/
import Derived.Test.YtbkcpcjdpfndpaaLexMath2
namespace Go.Proofs.Ytbkcpcjdpfndpaa

/-- the bytes that are neither blanks nor line feeds, nor in a comment -/
def restF : Bool → List UInt8 → List UInt8
  | _, [] => []
  | i, c :: r => if ((i || c == 35) && c != 10) = true then restF true r else (if c = 32 ∨ c = 10 then [] else [c]) ++ restF false r
theorem rest_note : ∀ s : List UInt8, restF true s = restF false (s.dropWhile (· != 10))
  | [] => rfl
  | c :: r => by
    rw [List.dropWhile_cons]
    by_cases h : c = 10
    · subst h; rfl
    · rw [if_pos (by simpa using h), ← rest_note r]
      have : ((true || c == 35) && c != 10) = true := by simp [h]
      rw [restF, if_pos this]
theorem rest_app (b : List UInt8) : ∀ a : List UInt8, (∀ x ∈ a, x ≠ 32 ∧ x ≠ 10 ∧ x ≠ 35) → restF false (a ++ b) = a ++ restF false b
  | [], _ => rfl
  | c :: r, h => by
    obtain ⟨h1, h2, h3⟩ := h c (by simp)
    rw [List.cons_append, restF, if_neg (by simp [h3]), if_neg (by simp [h1, h2]), rest_app b r (fun x hx => h x (by simp [hx]))]
    rfl
theorem toks_texts (line cnt : Nat) (s : List UInt8) : (toksF line cnt s).2.1 = 0 → (toksF line cnt s).1.flatMap (·.t) = restF false s := by
  refine toks_cases (fun line cnt s => (toksF line cnt s).2.1 = 0 → (toksF line cnt s).1.flatMap (·.t) = restF false s) ?_ ?_ ?_ ?_ ?_ ?_ s.length line cnt s (Nat.le_refl _)
  · intro line cnt _; rw [toks_nil]; rfl
  · intro line cnt r ih; rw [toks_blank]; exact ih
  · intro line cnt r ih; rw [toks_feed]; exact ih
  · intro line cnt r ih; rw [toks_note]; intro h; rw [ih h, ← rest_note]; rfl
  · intro line cnt c r h1 h2 h3 hk h
    obtain ⟨e, he, hq⟩ := toks_err line cnt h1 h2 h3 hk
    rw [hq] at h; simp only at h; omega
  · intro line cnt c r h1 h2 h3 hk h5 ih
    rw [toks_step line cnt h1 h2 h3 hk h5]
    have hr : restF false (c :: r) = (c :: r).take (sizeF (c :: r)) ++ restF false ((c :: r).drop (sizeF (c :: r))) := by
      conv => lhs; rw [← List.take_append_drop (sizeF (c :: r)) (c :: r)]
      exact rest_app _ _ (kind_bytes hk)
    rw [hr]
    generalize toksF line (cnt + 1) ((c :: r).drop (sizeF (c :: r))) = y at *
    unfold consF
    by_cases hy : y.2.1 = 0
    · rw [if_pos hy]; intro _; simp only [List.flatMap_cons]; rw [ih hy]
    · rw [if_neg hy]; exact fun h => absurd h hy
/-- the lines: from the first on to the last one -/
theorem toks_lines (line cnt : Nat) (s : List UInt8) : (∀ x ∈ (toksF line cnt s).1, x.n ≤ line + nl s) ∧ ((toksF line cnt s).2.1 ≠ 0 → (toksF line cnt s).2.2 ≤ line + nl s) := by
  refine toks_cases (fun line cnt s => (∀ x ∈ (toksF line cnt s).1, x.n ≤ line + nl s) ∧ ((toksF line cnt s).2.1 ≠ 0 → (toksF line cnt s).2.2 ≤ line + nl s)) ?_ ?_ ?_ ?_ ?_ ?_ s.length line cnt s (Nat.le_refl _)
  · intro line cnt; rw [toks_nil]; exact ⟨fun x hx => (by cases hx), fun h => absurd rfl h⟩
  · intro line cnt r ih; rw [toks_blank, nl_ne (by decide)]; exact ih
  · intro line cnt r ih
    rw [toks_feed, nl_cons, if_pos rfl]
    exact ⟨fun x hx => by have := ih.1 x hx; omega, fun h => by have := ih.2 h; omega⟩
  · intro line cnt r ih; rw [toks_note, nl_ne (by decide), ← nl_note]; exact ih
  · intro line cnt c r h1 h2 h3 hk
    obtain ⟨e, he, hq⟩ := toks_err line cnt h1 h2 h3 hk
    rw [hq]
    exact ⟨fun x hx => (by cases hx), fun _ => Nat.le_add_right _ _⟩
  · intro line cnt c r h1 h2 h3 hk h5 ih
    rw [toks_step line cnt h1 h2 h3 hk h5]
    have hn : nl ((c :: r).drop (sizeF (c :: r))) ≤ nl (c :: r) := by
      conv => rhs; rw [← List.take_append_drop (sizeF (c :: r)) (c :: r)]
      rw [nl_app]; omega
    generalize toksF line (cnt + 1) ((c :: r).drop (sizeF (c :: r))) = y at *
    unfold consF
    by_cases hy : y.2.1 = 0
    · rw [if_pos hy]
      refine ⟨fun x hx => ?_, fun h => absurd rfl h⟩
      rcases List.mem_cons.1 hx with rfl | hx
      · exact Nat.le_add_right _ _
      · have := ih.1 x hx; omega
    · rw [if_neg hy]
      exact ⟨fun x hx => (by cases hx), fun _ => by have := ih.2 hy; simp only at this ⊢; omega⟩

/-! ### More blanks -/
def wideF (m : Nat) : List UInt8 → List UInt8
  | [] => []
  | c :: r => if c = 32 ∨ c = 10 then c :: (List.replicate m 32 ++ wideF m r) else c :: wideF m r
theorem wide_cons (m : Nat) (c : UInt8) (r : List UInt8) : wideF m (c :: r) = if c = 32 ∨ c = 10 then c :: (List.replicate m 32 ++ wideF m r) else c :: wideF m r := rfl
theorem wide_app (m : Nat) (b : List UInt8) : ∀ a : List UInt8, (∀ x ∈ a, x ≠ 32 ∧ x ≠ 10) → wideF m (a ++ b) = a ++ wideF m b
  | [], _ => rfl
  | c :: r, h => by
    obtain ⟨h1, h2⟩ := h c (by simp)
    rw [List.cons_append, wide_cons, if_neg (by simp [h1, h2]), wide_app m b r (fun x hx => h x (by simp [hx]))]; rfl
theorem wide_head (m : Nat) (s : List UInt8) : (wideF m s).head? = s.head? := by
  cases s with
  | nil => rfl
  | cons c r => unfold wideF; split <;> rfl
theorem note_rep (b : List UInt8) : ∀ m : Nat, (List.replicate m 32 ++ b).dropWhile (· != 10) = b.dropWhile (· != (10 : UInt8))
  | 0 => rfl
  | m + 1 => by rw [List.replicate_succ, List.cons_append, List.dropWhile_cons, if_pos (by decide), note_rep b m]
theorem wide_note (m : Nat) : ∀ s : List UInt8, (wideF m s).dropWhile (· != 10) = wideF m (s.dropWhile (· != 10))
  | [] => rfl
  | c :: r => by
    have ih := wide_note m r
    by_cases h : c = 10
    · subst h; simp [wideF]
    · have e1 : (c :: r).dropWhile (· != 10) = r.dropWhile (· != 10) := by rw [List.dropWhile_cons, if_pos (by simpa using h)]
      rw [e1, ← ih, wide_cons]
      split
      · rw [List.dropWhile_cons, if_pos (by simpa using h), note_rep]
      · rw [List.dropWhile_cons, if_pos (by simpa using h)]
theorem toks_blanks (line cnt : Nat) (b : List UInt8) : ∀ m : Nat, toksF line cnt (List.replicate m 32 ++ b) = toksF line cnt b
  | 0 => rfl
  | m + 1 => by rw [List.replicate_succ, List.cons_append, toks_blank, toks_blanks line cnt b m]
/-- the bytes of what the lexer takes first: none is a blank or a line feed, unless it stands first -/
theorem take_bytes {c : UInt8} {r : List UInt8} (h1 : c ≠ 32) (h2 : c ≠ 10) : ∀ x ∈ (c :: r).take (sizeF (c :: r)), x ≠ 32 ∧ x ≠ 10 := by
  have hl : ∀ x, letB x = true → x ≠ 32 ∧ x ≠ 10 := fun x h => ⟨by rintro rfl; revert h; decide, by rintro rfl; revert h; decide⟩
  have hd : ∀ x, digB x = true → x ≠ 32 ∧ x ≠ 10 := fun x h => ⟨by rintro rfl; revert h; decide, by rintro rfl; revert h; decide⟩
  have unf : sizeF (c :: r) = if letB c then nLet (c :: r) else if nDig (c :: r) = 0 then 1 else if (c :: r)[nDig (c :: r)]? = some 46 then nDig (c :: r) + 1 + nDig ((c :: r).drop (nDig (c :: r) + 1)) else nDig (c :: r) := rfl
  have tk : ∀ (p : UInt8 → Bool) (s : List UInt8), s.take (s.takeWhile p).length = s.takeWhile p := fun p s => (List.prefix_iff_eq_take.1 (List.takeWhile_prefix p)).symm
  intro x hx
  rw [unf] at hx
  split at hx
  · unfold nLet at hx; rw [tk] at hx; exact hl x (tw_mem hx)
  · split at hx
    · simp at hx; subst hx; exact ⟨h1, h2⟩
    · split at hx
      · next h46 =>
        have hlt : nDig (c :: r) < (c :: r).length := by
          rcases Nat.lt_or_ge (nDig (c :: r)) (c :: r).length with h | h
          · exact h
          · rw [List.getElem?_eq_none h] at h46; cases h46
        have e46 : (c :: r)[nDig (c :: r)] = 46 := by rw [List.getElem?_eq_getElem hlt] at h46; exact Option.some.inj h46
        have e := (tw_split digB (c :: r)).1
        rw [show ((c :: r).takeWhile digB).length = nDig (c :: r) from rfl, List.drop_eq_getElem_cons hlt, e46] at e
        generalize hN : nDig (c :: r) = N at *
        have hal : ((c :: r).takeWhile digB).length = N := hN
        generalize hA : (c :: r).takeWhile digB = A at *
        generalize (c :: r).drop (N + 1) = R at *
        have hA2 : ∀ y ∈ A, digB y = true := fun y hy => by rw [← hA] at hy; exact tw_mem hy
        rw [e] at hx
        have e3 : (A ++ 46 :: R).take (N + 1 + nDig R) = A ++ 46 :: R.takeWhile digB := by
          rw [← hal, show A.length + 1 + nDig R = A.length + (nDig R + 1) by omega, List.take_length_add_append, List.take_succ_cons]
          unfold nDig; rw [tk]
        rw [e3] at hx
        rcases List.mem_append.1 hx with hx | hx
        · exact hd x (hA2 x hx)
        · rcases List.mem_cons.1 hx with rfl | hx
          · exact ⟨by decide, by decide⟩
          · exact hd x (tw_mem hx)
      · unfold nDig at hx; rw [tk] at hx; exact hd x (tw_mem hx)
/-- a source's first token where something else stands behind it -/
theorem size_other {s b : List UInt8} (hs : s ≠ []) (h : likeB (s.drop (sizeF s)) b) : sizeF (s.take (sizeF s) ++ b) = sizeF s ∧ (s.take (sizeF s) ++ b).take (sizeF (s.take (sizeF s) ++ b)) = s.take (sizeF s) ∧ (s.take (sizeF s) ++ b).drop (sizeF (s.take (sizeF s) ++ b)) = b := by
  have e := size_local h hs
  have hle := size_le s hs
  have hl : (s.take (sizeF s)).length = sizeF s := by rw [List.length_take]; omega
  rw [e]
  exact ⟨rfl, by rw [List.take_append_of_le_length (by omega), List.take_of_length_le (by omega)], by rw [List.drop_append_of_le_length (by omega), List.drop_of_length_le (by omega), List.nil_append]⟩
theorem like_wide (m : Nat) (s : List UInt8) : likeB s (wideF m s) := .inl (wide_head m s).symm
/-- more blanks next to blanks and line feeds change nothing -/
theorem toks_wide (m line cnt : Nat) (s : List UInt8) : toksF line cnt (wideF m s) = toksF line cnt s := by
  refine toks_cases (fun line cnt s => toksF line cnt (wideF m s) = toksF line cnt s) ?_ ?_ ?_ ?_ ?_ ?_ s.length line cnt s (Nat.le_refl _)
  · intro line cnt; rfl
  · intro line cnt r ih; rw [wide_cons, if_pos (.inl rfl), toks_blank, toks_blanks, toks_blank, ih]
  · intro line cnt r ih; rw [wide_cons, if_pos (.inr rfl), toks_feed, toks_blanks, toks_feed, ih]
  · intro line cnt r ih; rw [wide_cons, if_neg (by decide), toks_note, toks_note, wide_note, ih]
  · intro line cnt c r h1 h2 h3 hk
    obtain ⟨e1, e2, e3⟩ := size_other (s := c :: r) (b := wideF m ((c :: r).drop (sizeF (c :: r)))) (by simp) (like_wide m _)
    have e : wideF m (c :: r) = (c :: r).take (sizeF (c :: r)) ++ wideF m ((c :: r).drop (sizeF (c :: r))) := by
      conv => lhs; rw [← List.take_append_drop (sizeF (c :: r)) (c :: r)]
      exact wide_app m _ _ (take_bytes h1 h2)
    have e0 : wideF m (c :: r) = c :: wideF m r := by rw [wide_cons, if_neg (by simp [h1, h2])]
    rw [← e] at e2 e3
    rw [e0] at e2 e3 ⊢
    rw [toks_eq line cnt h1 h2 h3, toks_eq line cnt h1 h2 h3, e2]
    rcases hk with hk | hk
    · rw [if_pos hk, if_pos hk]
    · rw [if_pos hk, if_pos hk]
  · intro line cnt c r h1 h2 h3 hk h5 ih
    obtain ⟨e1, e2, e3⟩ := size_other (s := c :: r) (b := wideF m ((c :: r).drop (sizeF (c :: r)))) (by simp) (like_wide m _)
    have e : wideF m (c :: r) = (c :: r).take (sizeF (c :: r)) ++ wideF m ((c :: r).drop (sizeF (c :: r))) := by
      conv => lhs; rw [← List.take_append_drop (sizeF (c :: r)) (c :: r)]
      exact wide_app m _ _ (take_bytes h1 h2)
    have e0 : wideF m (c :: r) = c :: wideF m r := by rw [wide_cons, if_neg (by simp [h1, h2])]
    rw [← e] at e2 e3
    rw [e0] at e2 e3 ⊢
    rw [toks_eq line cnt h1 h2 h3, toks_eq line cnt h1 h2 h3, e2, e3, ih]
end Go.Proofs.Ytbkcpcjdpfndpaa
