/-
  The lexer, plain: bytes, sizes, kinds, tokens of a source, the text of tokens. No program in sight (ahead of the landing).
-/
import Derived.Test.YtbkcpcjdpfndpaaKit
namespace Go.Proofs.Ytbkcpcjdpfndpaa

def letB (c : UInt8) : Bool := decide (97 ≤ c.toNat ∧ c.toNat ≤ 122)
def digB (c : UInt8) : Bool := decide (48 ≤ c.toNat ∧ c.toNat ≤ 57)
/-- { } ( ) ; , + - * / < = % -/
def signs : List UInt8 := [123, 125, 40, 41, 59, 44, 43, 45, 42, 47, 60, 61, 37]
def sgnB (c : UInt8) : Bool := signs.contains c
def nDig (s : List UInt8) : Nat := (s.takeWhile digB).length
def nLet (s : List UInt8) : Nat := (s.takeWhile letB).length
/-- all digits together, as a number -/
def cents (s : List UInt8) : Nat := (s.filter digB).foldl (fun n c => 10 * n + (c.toNat - 48)) 0
/-- the Kind of which a text is a token, or 0 -/
def kindF (s : List UInt8) : Nat :=
  match s with
  | [] => 0
  | c :: _ =>
    if s.length = 1 ∧ sgnB c = true then 4
    else if letB c then (if s.all letB then 1 else 0)
    else if nDig s < 1 ∨ 9 < nDig s ∨ 1 < nDig s ∧ c = 48 then 0
    else if nDig s = s.length then 2
    else if s[nDig s]? ≠ some 46 ∨ s.length ≠ nDig s + 3 ∨ nDig (s.drop (nDig s + 1)) ≠ 2 then 0
    else if 1000000000 < cents s then 0 else 3
/-- how many bytes belong to the token that begins here, whether it is one or not -/
def sizeF (s : List UInt8) : Nat :=
  match s with
  | [] => 0
  | c :: _ =>
    if letB c then nLet s
    else if nDig s = 0 then 1
    else if s[nDig s]? = some 46 then nDig s + 1 + nDig (s.drop (nDig s + 1))
    else nDig s

theorem tw_len {p : UInt8 → Bool} (s : List UInt8) : (s.takeWhile p).length ≤ s.length := (List.takeWhile_prefix p).length_le
theorem size_pos {s : List UInt8} (h : s ≠ []) : 1 ≤ sizeF s := by
  cases s with
  | nil => exact absurd rfl h
  | cons c r =>
    unfold sizeF
    simp only
    split
    · next hl => simp [nLet, hl]
    · split
      · exact Nat.le_refl _
      · split <;> omega

structure Tok where
  k : Nat
  n : Nat
  t : List UInt8

/-- the tokens from a line on, behind so many: or an error and its line -/
def toksF (line cnt : Nat) (s : List UInt8) : List Tok × Nat × Nat :=
  match s with
  | [] => ([], 0, 0)
  | c :: r =>
    if c = 32 then toksF line cnt r
    else if c = 10 then toksF (line + 1) cnt r
    else if c = 35 then toksF line cnt (r.dropWhile (· != 10))
    else if kindF ((c :: r).take (sizeF (c :: r))) = 0 then ([], 8, line)
    else if cnt = 5000 then ([], 2, line)
    else
      let x := toksF line (cnt + 1) ((c :: r).drop (sizeF (c :: r)))
      if x.2.1 = 0 then (⟨kindF ((c :: r).take (sizeF (c :: r))), line, (c :: r).take (sizeF (c :: r))⟩ :: x.1, 0, 0) else ([], x.2.1, x.2.2)
termination_by s.length
decreasing_by
  all_goals simp_wf
  · have := (List.dropWhile_suffix (l := r) (· != 10)).length_le; omega
  · have := size_pos (s := c :: r) (by simp); omega

/-- what follows a token, or stands at the end -/
def gapB (s : List UInt8) : Bool := match s with | [] => true | c :: _ => c == 32 || c == 10
theorem gap_let {s : List UInt8} (h : gapB s = true) : ∀ c r, s = c :: r → letB c = false ∧ digB c = false ∧ c ≠ 46 := by
  rintro c r rfl
  simp only [gapB, Bool.or_eq_true, beq_iff_eq] at h
  rcases h with rfl | rfl <;> decide
theorem tw_mem {p : UInt8 → Bool} : ∀ {s : List UInt8} {x : UInt8}, x ∈ s.takeWhile p → p x = true
  | [], x, h => by simp at h
  | c :: r, x, h => by
    rw [List.takeWhile_cons] at h
    split at h
    · next hc =>
      rcases List.mem_cons.1 h with rfl | h
      · exact hc
      · exact tw_mem h
    · cases h
theorem tw_gap {p : UInt8 → Bool} {a b : List UInt8} (ha : ∀ x ∈ a, p x = true) (hb : ∀ c r, b = c :: r → p c = false) : (a ++ b).takeWhile p = a := by
  rw [List.takeWhile_append_of_pos ha]
  cases b with
  | nil => simp
  | cons c r => simp [hb c r rfl]

/-- a token's own text is as long as the lexer takes it, where a gap follows -/
theorem size_kind {t s : List UInt8} (hk : kindF t ≠ 0) (hs : gapB s = true) : sizeF (t ++ s) = t.length := by
  have hg := gap_let hs
  cases t with
  | nil => exact absurd rfl hk
  | cons c r =>
    unfold kindF at hk
    simp only at hk
    by_cases h1 : (c :: r).length = 1 ∧ sgnB c = true
    · obtain rfl : r = [] := by have := h1.1; simpa using this
      have hc : letB c = false ∧ digB c = false := by
        have := h1.2
        simp only [sgnB, signs, List.contains_eq_mem, List.mem_cons, List.not_mem_nil, or_false, decide_eq_true_eq] at this
        rcases this with rfl | rfl | rfl | rfl | rfl | rfl | rfl | rfl | rfl | rfl | rfl | rfl | rfl <;> decide
      simp [sizeF, hc.1, nDig, hc.2]
    · rw [if_neg h1] at hk
      by_cases h2 : letB c = true
      · rw [if_pos h2] at hk
        have h3 : (c :: r).all letB = true := by
          cases hh : (c :: r).all letB with
          | true => rfl
          | false => rw [hh] at hk; simp at hk
        have h4 : ((c :: r) ++ s).takeWhile letB = c :: r := tw_gap (fun x hx => (List.all_eq_true.1 h3) x hx) (fun c r e => (hg c r e).1)
        simp only [sizeF, List.cons_append, h2, if_true, nLet]
        rw [List.cons_append] at h4
        rw [h4]
      · rw [if_neg h2] at hk
        by_cases h5 : nDig (c :: r) < 1 ∨ 9 < nDig (c :: r) ∨ 1 < nDig (c :: r) ∧ c = 48
        · rw [if_pos h5] at hk; exact absurd rfl hk
        rw [if_neg h5] at hk
        by_cases h6 : nDig (c :: r) = (c :: r).length
        · have h7 : ∀ x ∈ (c :: r), digB x = true := by
            have e : (c :: r).takeWhile digB = c :: r := (List.takeWhile_prefix digB).eq_of_length h6
            intro x hx
            rw [← e] at hx
            exact (tw_mem hx)
          have h8 : ((c :: r) ++ s).takeWhile digB = c :: r := tw_gap h7 (fun c r e => (hg c r e).2.1)
          have h9 : nDig ((c :: r) ++ s) = (c :: r).length := by unfold nDig; rw [h8]
          have h10 : ((c :: r) ++ s)[(c :: r).length]? ≠ some 46 := by
            rw [List.getElem?_append_right (Nat.le_refl _), Nat.sub_self]
            cases s with
            | nil => simp
            | cons d q => simpa using (hg d q rfl).2.2
          rw [List.cons_append] at h9 h10 ⊢
          simp only [sizeF]
          rw [if_neg h2, h9, if_neg (by simp), if_neg h10]
        · rw [if_neg h6] at hk
          by_cases h11 : (c :: r)[nDig (c :: r)]? ≠ some 46 ∨ (c :: r).length ≠ nDig (c :: r) + 3 ∨ nDig ((c :: r).drop (nDig (c :: r) + 1)) ≠ 2
          · rw [if_pos h11] at hk; exact absurd rfl hk
          · obtain ⟨h12, h13, h14⟩ : (c :: r)[nDig (c :: r)]? = some 46 ∧ (c :: r).length = nDig (c :: r) + 3 ∧ nDig ((c :: r).drop (nDig (c :: r) + 1)) = 2 := by
              refine ⟨?_, ?_, ?_⟩ <;> (apply Classical.byContradiction; intro hn; exact h11 (by simp only [ne_eq, hn, not_false_eq_true, true_or, or_true]))
            obtain ⟨n, hn⟩ : ∃ n, n = nDig (c :: r) := ⟨_, rfl⟩
            rw [← hn] at h5 h12 h13 h14
            have hsp : c :: r = (c :: r).take n ++ 46 :: (c :: r).drop (n + 1) := by
              have hlt : n < (c :: r).length := by omega
              have e46 : (c :: r)[n] = 46 := by rw [List.getElem?_eq_getElem hlt] at h12; exact Option.some.inj h12
              rw [← e46, ← List.drop_eq_getElem_cons hlt, List.take_append_drop]
            have hA : ∀ x ∈ (c :: r).take n, digB x = true := by
              have e : (c :: r).takeWhile digB = (c :: r).take n := by
                have := List.prefix_iff_eq_take.1 (List.takeWhile_prefix digB (l := c :: r))
                rw [this]; unfold nDig at hn; rw [← hn]
              intro x hx; rw [← e] at hx; exact tw_mem hx
            have hBl : ((c :: r).drop (n + 1)).length = 2 := by rw [List.length_drop]; omega
            have hB : ∀ x ∈ (c :: r).drop (n + 1), digB x = true := by
              have e : ((c :: r).drop (n + 1)).takeWhile digB = (c :: r).drop (n + 1) := (List.takeWhile_prefix digB).eq_of_length (by unfold nDig at h14; rw [h14, hBl])
              intro x hx; rw [← e] at hx; exact tw_mem hx
            have hAl : ((c :: r).take n).length = n := by rw [List.length_take]; omega
            generalize (c :: r).take n = A at *
            generalize (c :: r).drop (n + 1) = B at *
            have hne : A ≠ [] := by intro e; rw [e] at hAl; simp at hAl; omega
            have k1 : nDig ((c :: r) ++ s) = n := by
              rw [hsp, List.append_assoc]
              unfold nDig
              rw [tw_gap hA (by intro c r e; simp at e; rw [← e.1]; decide), hAl]
            have k2 : ((c :: r) ++ s)[n]? = some 46 := by
              rw [hsp, List.append_assoc, List.getElem?_append_right (by omega), hAl]; simp
            have k3 : nDig (((c :: r) ++ s).drop (n + 1)) = 2 := by
              have e : ((c :: r) ++ s).drop (n + 1) = B ++ s := by
                rw [hsp, List.append_assoc, ← hAl]; simp
              rw [e]; unfold nDig
              rw [tw_gap hB (fun c r e => (hg c r e).2.1), hBl]
            rw [List.cons_append] at k1 k2 k3 ⊢
            simp only [sizeF]
            rw [if_neg h2, k1, if_neg (by omega), if_pos k2, k3]
            omega

/-- no token begins with a blank, a line feed or a comment's sign -/
theorem kind_head {c : UInt8} {r : List UInt8} (hk : kindF (c :: r) ≠ 0) : c ≠ 32 ∧ c ≠ 10 ∧ c ≠ 35 := by
  refine ⟨?_, ?_, ?_⟩ <;>
  · rintro rfl
    refine hk ?_
    unfold kindF
    simp only
    rw [if_neg (by rintro ⟨_, h⟩; revert h; decide), if_neg (by decide), if_pos (.inl (by simp [nDig, show digB 32 = false by decide, show digB 10 = false by decide, show digB 35 = false by decide]))]

/-- one token more in front of what follows -/
def consF (x : Tok) (y : List Tok × Nat × Nat) : List Tok × Nat × Nat := if y.2.1 = 0 then (x :: y.1, 0, 0) else ([], y.2.1, y.2.2)
theorem toks_nil (line cnt : Nat) : toksF line cnt [] = ([], 0, 0) := by rw [toksF]
theorem toks_blank (line cnt : Nat) (s : List UInt8) : toksF line cnt (32 :: s) = toksF line cnt s := by rw [toksF, if_pos rfl]
theorem toks_feed (line cnt : Nat) (s : List UInt8) : toksF line cnt (10 :: s) = toksF (line + 1) cnt s := by rw [toksF, if_neg (by decide), if_pos rfl]
theorem toks_note (line cnt : Nat) (s : List UInt8) : toksF line cnt (35 :: s) = toksF line cnt (s.dropWhile (· != 10)) := by rw [toksF, if_neg (by decide), if_neg (by decide), if_pos rfl]
theorem toks_tok (line cnt : Nat) {t s : List UInt8} (hk : kindF t ≠ 0) (hs : gapB s = true) (hc : cnt < 5000) : toksF line cnt (t ++ s) = consF ⟨kindF t, line, t⟩ (toksF line (cnt + 1) s) := by
  have hz := size_kind hk hs
  cases t with
  | nil => exact absurd rfl hk
  | cons c r =>
    obtain ⟨h1, h2, h3⟩ := kind_head hk
    have e1 : ((c :: r) ++ s).take (sizeF ((c :: r) ++ s)) = c :: r := by rw [hz]; simp
    have e2 : ((c :: r) ++ s).drop (sizeF ((c :: r) ++ s)) = s := by rw [hz]; simp
    rw [List.cons_append] at e1 e2 ⊢
    rw [toksF, if_neg h1, if_neg h2, if_neg h3, e1, e2, if_neg hk, if_neg (by omega)]
    rfl
end Go.Proofs.Ytbkcpcjdpfndpaa
