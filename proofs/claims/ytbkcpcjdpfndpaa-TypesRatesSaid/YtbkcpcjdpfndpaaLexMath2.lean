/-
  The lexer, plain: the bytes of a token; two sources with a line feed between them; blanks; what the texts are together.
-/
import Derived.Test.YtbkcpcjdpfndpaaLexMath
namespace Go.Proofs.Ytbkcpcjdpfndpaa

theorem kind_shape {t : List UInt8} (hk : kindF t ≠ 0) : (∃ c, t = [c] ∧ sgnB c = true) ∨ (∀ x ∈ t, letB x = true) ∨ (∀ x ∈ t, digB x = true) ∨ ∃ A B, t = A ++ 46 :: B ∧ (∀ x ∈ A, digB x = true) ∧ (∀ x ∈ B, digB x = true) := by
  cases t with
  | nil => exact absurd rfl hk
  | cons c r =>
    unfold kindF at hk
    simp only at hk
    by_cases h1 : (c :: r).length = 1 ∧ sgnB c = true
    · obtain rfl : r = [] := by have := h1.1; simpa using this
      exact .inl ⟨c, rfl, h1.2⟩
    · rw [if_neg h1] at hk
      by_cases h2 : letB c = true
      · rw [if_pos h2] at hk
        refine .inr (.inl ?_)
        cases hh : (c :: r).all letB with
        | true => exact fun x hx => (List.all_eq_true.1 hh) x hx
        | false => rw [hh] at hk; simp at hk
      · rw [if_neg h2] at hk
        by_cases h5 : nDig (c :: r) < 1 ∨ 9 < nDig (c :: r) ∨ 1 < nDig (c :: r) ∧ c = 48
        · rw [if_pos h5] at hk; exact absurd rfl hk
        rw [if_neg h5] at hk
        by_cases h6 : nDig (c :: r) = (c :: r).length
        · refine .inr (.inr (.inl fun x hx => ?_))
          have e : (c :: r).takeWhile digB = c :: r := (List.takeWhile_prefix digB).eq_of_length h6
          rw [← e] at hx; exact tw_mem hx
        · rw [if_neg h6] at hk
          by_cases h11 : (c :: r)[nDig (c :: r)]? ≠ some 46 ∨ (c :: r).length ≠ nDig (c :: r) + 3 ∨ nDig ((c :: r).drop (nDig (c :: r) + 1)) ≠ 2
          · rw [if_pos h11] at hk; exact absurd rfl hk
          · obtain ⟨h12, h13, h14⟩ : (c :: r)[nDig (c :: r)]? = some 46 ∧ (c :: r).length = nDig (c :: r) + 3 ∧ nDig ((c :: r).drop (nDig (c :: r) + 1)) = 2 := by
              refine ⟨?_, ?_, ?_⟩ <;> (apply Classical.byContradiction; intro hn; exact h11 (by simp only [ne_eq, hn, not_false_eq_true, true_or, or_true]))
            refine .inr (.inr (.inr ⟨(c :: r).takeWhile digB, (c :: r).drop (nDig (c :: r) + 1), ?_, fun x hx => tw_mem hx, fun x hx => ?_⟩))
            · have hlt : nDig (c :: r) < (c :: r).length := by omega
              have e46 : (c :: r)[nDig (c :: r)] = 46 := by rw [List.getElem?_eq_getElem hlt] at h12; exact Option.some.inj h12
              have e := (tw_split digB (c :: r)).1
              rw [show ((c :: r).takeWhile digB).length = nDig (c :: r) from rfl, List.drop_eq_getElem_cons hlt, e46] at e
              exact e
            · have hl : ((c :: r).drop (nDig (c :: r) + 1)).length = 2 := by rw [List.length_drop]; omega
              have e : ((c :: r).drop (nDig (c :: r) + 1)).takeWhile digB = (c :: r).drop (nDig (c :: r) + 1) := (List.takeWhile_prefix digB).eq_of_length (by show nDig _ = _; rw [h14, hl])
              rw [← e] at hx; exact tw_mem hx
theorem kind_bytes {t : List UInt8} (hk : kindF t ≠ 0) : ∀ x ∈ t, x ≠ 32 ∧ x ≠ 10 ∧ x ≠ 35 := by
  have hl : ∀ x, letB x = true → x ≠ 32 ∧ x ≠ 10 ∧ x ≠ 35 := fun x h => ⟨by rintro rfl; revert h; decide, by rintro rfl; revert h; decide, by rintro rfl; revert h; decide⟩
  have hd : ∀ x, digB x = true → x ≠ 32 ∧ x ≠ 10 ∧ x ≠ 35 := fun x h => ⟨by rintro rfl; revert h; decide, by rintro rfl; revert h; decide, by rintro rfl; revert h; decide⟩
  intro x hx
  rcases kind_shape hk with ⟨c, rfl, hc⟩ | h | h | ⟨A, B, rfl, hA, hB⟩
  · obtain rfl := List.mem_singleton.1 hx
    exact ⟨by rintro rfl; revert hc; decide, by rintro rfl; revert hc; decide, by rintro rfl; revert hc; decide⟩
  · exact hl x (h x hx)
  · exact hd x (h x hx)
  · rcases List.mem_append.1 hx with hx | hx
    · exact hd x (hA x hx)
    · rcases List.mem_cons.1 hx with rfl | hx
      · exact ⟨by decide, by decide, by decide⟩
      · exact hd x (hB x hx)

/-- how many line feeds -/
def nl (s : List UInt8) : Nat := s.count 10
theorem nl_cons (c : UInt8) (s : List UInt8) : nl (c :: s) = nl s + if c = 10 then 1 else 0 := by
  unfold nl; rw [List.count_cons]; simp
theorem nl_ne {c : UInt8} {s : List UInt8} (h : c ≠ 10) : nl (c :: s) = nl s := by rw [nl_cons, if_neg h]; rfl
theorem nl_app (a b : List UInt8) : nl (a ++ b) = nl a + nl b := by unfold nl; exact List.count_append
theorem nl_none {s : List UInt8} (h : ∀ x ∈ s, x ≠ 10) : nl s = 0 := by
  unfold nl; rw [List.count_eq_zero]; intro hm; exact h 10 hm rfl
theorem nl_note : ∀ s : List UInt8, nl (s.dropWhile (· != 10)) = nl s
  | [] => rfl
  | c :: r => by
    rw [List.dropWhile_cons]
    by_cases h : c = 10
    · subst h; simp
    · rw [if_pos (by simpa using h), nl_note r, nl_cons, if_neg h]; rfl
theorem note_app (t : List UInt8) : ∀ s : List UInt8, (s ++ 10 :: t).dropWhile (· != 10) = s.dropWhile (· != 10) ++ 10 :: t
  | [] => by simp
  | c :: r => by
    rw [List.cons_append, List.dropWhile_cons, List.dropWhile_cons]
    by_cases h : c = 10
    · subst h; simp
    · rw [if_pos (by simpa using h), if_pos (by simpa using h), note_app t r]
theorem toks_eq (line cnt : Nat) {c : UInt8} {r : List UInt8} (h1 : c ≠ 32) (h2 : c ≠ 10) (h3 : c ≠ 35) :
    toksF line cnt (c :: r) = if kindF ((c :: r).take (sizeF (c :: r))) = 0 then ([], 8, line) else if cnt = 5000 then ([], 2, line) else
      consF ⟨kindF ((c :: r).take (sizeF (c :: r))), line, (c :: r).take (sizeF (c :: r))⟩ (toksF line (cnt + 1) ((c :: r).drop (sizeF (c :: r)))) := by
  rw [toksF, if_neg h1, if_neg h2, if_neg h3]; rfl
theorem size_le (s : List UInt8) (hs : s ≠ []) : sizeF s ≤ s.length := by
  cases s with
  | nil => exact absurd rfl hs
  | cons c r =>
    unfold sizeF
    simp only
    split
    · exact tw_len _
    · split
      · simp
      · split
        · next h3 h4 =>
          have hlt : nDig (c :: r) < (c :: r).length := by
            rcases Nat.lt_or_ge (nDig (c :: r)) (c :: r).length with h | h
            · exact h
            · rw [List.getElem?_eq_none h] at h4; cases h4
          have h5 := tw_len (p := digB) ((c :: r).drop (nDig (c :: r) + 1))
          rw [List.length_drop] at h5
          have h6 : nDig ((c :: r).drop (nDig (c :: r) + 1)) ≤ (c :: r).length - (nDig (c :: r) + 1) := h5
          omega
        · exact tw_len _
/-- a source's first token where something else follows behind what follows it -/
theorem size_more {s t : List UInt8} (hs : s ≠ []) (h : likeB (s.drop (sizeF s)) (s.drop (sizeF s) ++ t)) : sizeF (s ++ t) = sizeF s ∧ (s ++ t).take (sizeF (s ++ t)) = s.take (sizeF s) ∧ (s ++ t).drop (sizeF (s ++ t)) = s.drop (sizeF s) ++ t := by
  have e := size_local h hs
  have e2 : s.take (sizeF s) ++ (s.drop (sizeF s) ++ t) = s ++ t := by rw [← List.append_assoc, List.take_append_drop]
  rw [e2] at e
  have hle := size_le s hs
  rw [e]
  exact ⟨rfl, List.take_append_of_le_length hle, List.drop_append_of_le_length hle⟩
theorem like_feed (a t : List UInt8) : likeB a (a ++ 10 :: t) := by
  cases a with
  | nil => exact .inr ⟨rfl, rfl⟩
  | cons c r => exact .inl rfl

/-- tokens in front of what is read behind them -/
def appF (l : List Tok) (y : List Tok × Nat × Nat) : List Tok × Nat × Nat := if y.2.1 = 0 then (l ++ y.1, 0, 0) else ([], y.2.1, y.2.2)
theorem app_nil {line cnt : Nat} {s : List UInt8} (hc : cnt ≤ 5000) : appF [] (toksF line cnt s) = toksF line cnt s := by
  obtain ⟨h1, h2⟩ := toks_right line cnt s hc
  generalize toksF line cnt s = y at *
  obtain ⟨y1, y2, y3⟩ := y
  unfold appF
  by_cases h : y2 = 0
  · have := (h1 h).1
    simp only at this ⊢
    rw [if_pos h, this, h]; rfl
  · rw [if_neg h]; have := (h2 h).1; simp only at this ⊢; rw [this]
theorem cons_app (x : Tok) (l : List Tok) (y : List Tok × Nat × Nat) : consF x (appF l y) = appF (x :: l) y := by
  unfold consF appF
  by_cases h : y.2.1 = 0
  · rw [if_pos h, if_pos rfl, if_pos h]; rfl
  · rw [if_neg h, if_neg h, if_neg h]
/-- two sources with a line feed between them -/
theorem toks_parts (t : List UInt8) (line cnt : Nat) (s : List UInt8) (hc : cnt ≤ 5000) : toksF line cnt (s ++ 10 :: t) =
    if (toksF line cnt s).2.1 = 0 then appF (toksF line cnt s).1 (toksF (line + nl s + 1) (cnt + (toksF line cnt s).1.length) t) else toksF line cnt s := by
  refine toks_cases (fun line cnt s => cnt ≤ 5000 → toksF line cnt (s ++ 10 :: t) =
    if (toksF line cnt s).2.1 = 0 then appF (toksF line cnt s).1 (toksF (line + nl s + 1) (cnt + (toksF line cnt s).1.length) t) else toksF line cnt s) ?_ ?_ ?_ ?_ ?_ ?_ s.length line cnt s (Nat.le_refl _) hc
  · intro line cnt hc
    rw [List.nil_append, toks_feed, toks_nil, if_pos rfl]
    exact (app_nil hc).symm
  · intro line cnt r ih hc
    rw [List.cons_append, toks_blank, toks_blank, ih hc, nl_ne (by decide)]
  · intro line cnt r ih hc
    rw [List.cons_append, toks_feed, toks_feed, ih hc, nl_cons, if_pos rfl, show line + 1 + nl r + 1 = line + (nl r + 1) + 1 by omega]
  · intro line cnt r ih hc
    rw [List.cons_append, toks_note, toks_note, note_app, ih hc, nl_note, nl_ne (by decide)]
  · intro line cnt c r h1 h2 h3 hk hc
    obtain ⟨e1, e2, e3⟩ := size_more (s := c :: r) (t := 10 :: t) (by simp) (like_feed _ _)
    obtain ⟨e, he, hq⟩ := toks_err line cnt h1 h2 h3 hk
    rw [hq, if_neg (by simp only; omega), ← hq, List.cons_append, toks_eq line cnt h1 h2 h3, ← List.cons_append, e2, e3, toks_eq line cnt h1 h2 h3]
    rcases hk with hk | hk
    · rw [if_pos hk, if_pos hk]
    · rw [if_pos hk]; split <;> rfl
  · intro line cnt c r h1 h2 h3 hk h5 ih hc
    obtain ⟨e1, e2, e3⟩ := size_more (s := c :: r) (t := 10 :: t) (by simp) (like_feed _ _)
    have hn : nl (c :: r) = nl ((c :: r).drop (sizeF (c :: r))) := by
      conv => lhs; rw [← List.take_append_drop (sizeF (c :: r)) (c :: r)]
      rw [nl_app, nl_none (fun x hx => (kind_bytes hk x hx).2.1), Nat.zero_add]
    rw [toks_step line cnt h1 h2 h3 hk h5, hn, List.cons_append, toks_eq line cnt h1 h2 h3, ← List.cons_append, e2, e3, if_neg hk, if_neg h5, ih (by omega)]
    generalize toksF line (cnt + 1) ((c :: r).drop (sizeF (c :: r))) = y
    by_cases hy : y.2.1 = 0
    · rw [if_pos hy, cons_app]
      unfold consF
      rw [if_pos hy, if_pos rfl]
      simp only [List.length_cons]
      rw [show cnt + 1 + y.1.length = cnt + (y.1.length + 1) by omega]
    · rw [if_neg hy]
      unfold consF
      rw [if_neg hy, if_neg hy]
end Go.Proofs.Ytbkcpcjdpfndpaa
