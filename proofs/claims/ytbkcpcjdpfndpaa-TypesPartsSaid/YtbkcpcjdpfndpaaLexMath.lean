/-
  The lexer, plain: a token's size depends on what follows but little; there and back; two parts.
-/
import Derived.Test.YtbkcpcjdpfndpaaLexPlain
namespace Go.Proofs.Ytbkcpcjdpfndpaa

/-- what follows begins alike, or is a gap both times -/
def likeB (a b : List UInt8) : Prop := a.head? = b.head? ∨ gapB a = true ∧ gapB b = true
theorem tw_split (p : UInt8 → Bool) (s : List UInt8) : s = s.takeWhile p ++ s.drop (s.takeWhile p).length ∧ (∀ x ∈ s.takeWhile p, p x = true) ∧ ∀ c r, s.drop (s.takeWhile p).length = c :: r → p c = false := by
  refine ⟨?_, fun x hx => tw_mem hx, ?_⟩
  · have h := List.prefix_iff_eq_take.1 (List.takeWhile_prefix p (l := s))
    conv => lhs; rw [← List.take_append_drop (s.takeWhile p).length s]
    rw [← h]
  · induction s with
    | nil => intro c r h; simp at h
    | cons d q ih =>
      intro c r h
      rw [List.takeWhile_cons] at h
      split at h
      · next hd => exact ih c r (by simpa using h)
      · next hd => simp at h; rw [← h.1]; simpa using hd
theorem like_not {p : UInt8 → Bool} {a b : List UInt8} (h : likeB a b) (hp : p 32 = false ∧ p 10 = false) (ha : ∀ c r, a = c :: r → p c = false) : ∀ c r, b = c :: r → p c = false := by
  rintro c r rfl
  rcases h with h | ⟨_, h⟩
  · cases a with
    | nil => simp at h
    | cons d q => simp at h; rw [← h]; exact ha d q rfl
  · simp only [gapB, Bool.or_eq_true, beq_iff_eq] at h
    rcases h with rfl | rfl
    · exact hp.1
    · exact hp.2
theorem like_pt {a b : List UInt8} (h : likeB a b) (ha : a.head? ≠ some 46) : b.head? ≠ some 46 := by
  rcases h with h | ⟨_, h⟩
  · rw [← h]; exact ha
  · cases b with
    | nil => simp
    | cons c r =>
      simp only [gapB, Bool.or_eq_true, beq_iff_eq] at h
      rcases h with rfl | rfl <;> simp
theorem get_app {A b : List UInt8} {n : Nat} (hA : A.length = n) : (A ++ b)[n]? = b.head? := by
  rw [List.getElem?_append_right (by omega), hA, Nat.sub_self]
  cases b <;> rfl
theorem size_local {s b : List UInt8} (h : likeB (s.drop (sizeF s)) b) (hs : s ≠ []) : sizeF (s.take (sizeF s) ++ b) = sizeF s := by
  cases s with
  | nil => exact absurd rfl hs
  | cons c r =>
    have unf : ∀ q, sizeF (c :: q) = if letB c then nLet (c :: q) else if nDig (c :: q) = 0 then 1 else if (c :: q)[nDig (c :: q)]? = some 46 then nDig (c :: q) + 1 + nDig ((c :: q).drop (nDig (c :: q) + 1)) else nDig (c :: q) := fun _ => rfl
    by_cases h1 : letB c = true
    · have e : sizeF (c :: r) = nLet (c :: r) := by rw [unf, if_pos h1]
      rw [e] at h ⊢
      obtain ⟨t1, t2, t3⟩ := tw_split letB (c :: r)
      have hne : ∃ q, (c :: r).take (nLet (c :: r)) = c :: q := by
        have : 1 ≤ nLet (c :: r) := by simp [nLet, h1]
        obtain ⟨m, hm⟩ : ∃ m, nLet (c :: r) = m + 1 := ⟨nLet (c :: r) - 1, by omega⟩
        exact ⟨r.take m, by rw [hm]; rfl⟩
      have htk : (c :: r).take (nLet (c :: r)) = (c :: r).takeWhile letB := (List.prefix_iff_eq_take.1 (List.takeWhile_prefix letB)).symm
      obtain ⟨q, hq⟩ := hne
      have key : nLet ((c :: r).take (nLet (c :: r)) ++ b) = nLet (c :: r) := by
        rw [htk]; unfold nLet
        rw [tw_gap t2 (like_not h ⟨by decide, by decide⟩ t3)]
      rw [hq] at key ⊢
      rw [List.cons_append] at key ⊢
      rw [unf, if_pos h1, key]
    · by_cases h2 : nDig (c :: r) = 0
      · have e : sizeF (c :: r) = 1 := by rw [unf, if_neg h1, if_pos h2]
        rw [e] at h ⊢
        have hd : digB c = false := by
          cases hh : digB c with
          | false => rfl
          | true => simp [nDig, hh] at h2
        show sizeF (c :: b) = 1
        rw [unf, if_neg h1, if_pos (by simp [nDig, hd])]
      · obtain ⟨t1, t2, t3⟩ := tw_split digB (c :: r)
        obtain ⟨A, hA⟩ : ∃ A, A = (c :: r).takeWhile digB := ⟨_, rfl⟩
        have hAl : A.length = nDig (c :: r) := by rw [hA]; rfl
        rw [← hA] at t1 t2 t3
        obtain ⟨R, hR⟩ : ∃ R, R = (c :: r).drop A.length := ⟨_, rfl⟩
        rw [← hR] at t1 t3
        have hAne : A ≠ [] := by intro e; rw [e] at hAl; exact h2 hAl.symm
        have hd0 : ∀ x, (A ++ x) ≠ [] ∧ ∃ q, A ++ x = c :: q := by
          intro x
          cases hAA : A with
          | nil => exact absurd hAA hAne
          | cons d q =>
            rw [hAA] at t1
            simp only [List.cons_append, List.cons.injEq] at t1
            exact ⟨by simp, q ++ x, by rw [t1.1]; rfl⟩
        have hg : (c :: r)[nDig (c :: r)]? = R.head? := by rw [← hAl, t1]; exact get_app rfl
        by_cases h3 : R.head? = some 46
        · obtain ⟨R2, rfl⟩ : ∃ R2, R = 46 :: R2 := by
            cases R with
            | nil => simp at h3
            | cons d q => simp at h3; exact ⟨q, by rw [h3]⟩
          have e : sizeF (c :: r) = A.length + 1 + nDig R2 := by
            rw [unf, if_neg h1, if_neg h2, if_pos (by rw [hg]; rfl), ← hAl]
            have : (c :: r).drop (A.length + 1) = R2 := by rw [t1]; simp
            rw [this]
          rw [e] at h ⊢
          obtain ⟨u1, u2, u3⟩ := tw_split digB R2
          obtain ⟨B, hB⟩ : ∃ B, B = R2.takeWhile digB := ⟨_, rfl⟩
          have hBl : B.length = nDig R2 := by rw [hB]; rfl
          rw [← hB] at u1 u2 u3
          have htake : (c :: r).take (A.length + 1 + nDig R2) = A ++ 46 :: B := by
            rw [t1, ← hBl]
            conv => lhs; rw [u1]
            rw [show A ++ 46 :: (B ++ R2.drop B.length) = (A ++ 46 :: B) ++ R2.drop B.length by simp]
            rw [List.take_append_of_le_length (by simp; omega), List.take_of_length_le (by simp; omega)]
          have hdrop : (c :: r).drop (A.length + 1 + nDig R2) = R2.drop B.length := by
            rw [t1, ← hBl]
            rw [show A.length + 1 + B.length = A.length + (1 + B.length) by omega, List.drop_append]
            rw [Nat.add_comm 1 B.length]; simp
          rw [hdrop] at h
          rw [htake, List.append_assoc]
          obtain ⟨q, hq⟩ := (hd0 ((46 :: B) ++ b)).2
          have k1 : nDig (A ++ (46 :: B ++ b)) = A.length := by
            unfold nDig; rw [tw_gap t2 (by intro c r e; simp at e; rw [← e.1]; decide)]
          have k2 : (A ++ (46 :: B ++ b))[A.length]? = some 46 := by rw [get_app rfl]; rfl
          have k3 : nDig ((A ++ (46 :: B ++ b)).drop (A.length + 1)) = nDig R2 := by
            have : (A ++ (46 :: B ++ b)).drop (A.length + 1) = B ++ b := by simp
            rw [this]; unfold nDig
            rw [tw_gap u2 (like_not h ⟨by decide, by decide⟩ u3), hBl]; rfl
          rw [hq] at k1 k2 k3 ⊢
          rw [unf, if_neg h1, k1, if_neg (by rw [hAl]; exact h2), if_pos k2, k3]
        · have e : sizeF (c :: r) = A.length := by rw [unf, if_neg h1, if_neg h2, if_neg (by rw [hg]; exact h3), hAl]
          rw [e] at h ⊢
          have htake : (c :: r).take A.length = A := by rw [t1]; simp
          rw [← hR] at h
          rw [htake]
          obtain ⟨q, hq⟩ := (hd0 b).2
          have k1 : nDig (A ++ b) = A.length := by
            unfold nDig; rw [tw_gap t2 (like_not h ⟨by decide, by decide⟩ t3)]
          have k2 : (A ++ b)[A.length]? ≠ some 46 := by rw [get_app rfl]; exact like_pt h h3
          rw [hq] at k1 k2 ⊢
          rw [unf, if_neg h1, k1, if_neg (by rw [hAl]; exact h2), if_neg k2]

/-! ### There and back -/
def joinS (b : Bool) (line : Nat) : List Tok → List UInt8
  | [] => []
  | x :: r => (if b = false ∧ x.n = line then [32] else List.replicate (x.n - line) 10) ++ (x.t ++ joinS false x.n r)
def RightF (line : Nat) : List Tok → Prop
  | [] => True
  | x :: r => kindF x.t ≠ 0 ∧ x.k = kindF x.t ∧ line ≤ x.n ∧ RightF x.n r
theorem toks_feeds (cnt : Nat) (s : List UInt8) : ∀ (m line : Nat), toksF line cnt (List.replicate m 10 ++ s) = toksF (line + m) cnt s
  | 0, line => rfl
  | m + 1, line => by rw [List.replicate_succ, List.cons_append, toks_feed, toks_feeds cnt s m (line + 1), show line + 1 + m = line + (m + 1) by omega]
theorem join_gap (line : Nat) (l : List Tok) (h : RightF line l) : gapB (joinS false line l) = true := by
  cases l with
  | nil => rfl
  | cons x r =>
    unfold joinS
    split
    · rfl
    · next hn =>
      obtain ⟨m, hm⟩ : ∃ m, x.n - line = m + 1 := ⟨x.n - line - 1, by have := h.2.2.1; have : x.n ≠ line := fun e => hn ⟨rfl, e⟩; omega⟩
      rw [hm]; rfl
/-- the text of tokens is read as these tokens -/
theorem toks_join : ∀ (l : List Tok) (b : Bool) (line cnt : Nat), RightF line l → cnt + l.length ≤ 5000 → toksF line cnt (joinS b line l) = (l, 0, 0)
  | [], b, line, cnt, _, _ => toks_nil line cnt
  | x :: r, b, line, cnt, h, hc => by
    obtain ⟨h1, h2, h3, h4⟩ := h
    have hc' : cnt + 1 + r.length ≤ 5000 := by simp at hc; omega
    have key : toksF x.n cnt (x.t ++ joinS false x.n r) = (x :: r, 0, 0) := by
      rw [toks_tok x.n cnt h1 (join_gap x.n r h4) (by omega), toks_join r false x.n (cnt + 1) h4 hc']
      obtain ⟨xk, xn, xt⟩ := x
      simp only at h2
      simp [consF, h2]
    unfold joinS
    split
    · next hn => rw [List.cons_append, List.nil_append, toks_blank, ← hn.2, key]
    · rw [toks_feeds, show line + (x.n - line) = x.n by omega, key]

/-! ### What is read is right -/
/-- each step of the lexer, told by its case -/
theorem toks_cases (P : Nat → Nat → List UInt8 → Prop) (hnil : ∀ line cnt, P line cnt [])
    (hblank : ∀ line cnt r, P line cnt r → P line cnt (32 :: r)) (hfeed : ∀ line cnt r, P (line + 1) cnt r → P line cnt (10 :: r)) (hnote : ∀ line cnt r, P line cnt (r.dropWhile (· != 10)) → P line cnt (35 :: r))
    (hbad : ∀ line cnt c r, c ≠ 32 → c ≠ 10 → c ≠ 35 → (kindF ((c :: r).take (sizeF (c :: r))) = 0 ∨ cnt = 5000) → P line cnt (c :: r))
    (htok : ∀ line cnt c r, c ≠ 32 → c ≠ 10 → c ≠ 35 → kindF ((c :: r).take (sizeF (c :: r))) ≠ 0 → cnt ≠ 5000 → P line (cnt + 1) ((c :: r).drop (sizeF (c :: r))) → P line cnt (c :: r)) :
    ∀ (k : Nat) (line cnt : Nat) (s : List UInt8), s.length ≤ k → P line cnt s
  | k, line, cnt, [], _ => hnil line cnt
  | 0, _, _, c :: r, h => by simp at h
  | k + 1, line, cnt, c :: r, h => by
    have ih := toks_cases P hnil hblank hfeed hnote hbad htok k
    have hr : r.length ≤ k := by simpa using h
    by_cases h1 : c = 32
    · subst h1; exact hblank line cnt r (ih _ _ _ hr)
    by_cases h2 : c = 10
    · subst h2; exact hfeed line cnt r (ih _ _ _ hr)
    by_cases h3 : c = 35
    · subst h3; exact hnote line cnt r (ih _ _ _ (Nat.le_trans (List.dropWhile_suffix (l := r) (· != 10)).length_le hr))
    by_cases h4 : kindF ((c :: r).take (sizeF (c :: r))) = 0
    · exact hbad line cnt c r h1 h2 h3 (.inl h4)
    by_cases h5 : cnt = 5000
    · exact hbad line cnt c r h1 h2 h3 (.inr h5)
    · refine htok line cnt c r h1 h2 h3 h4 h5 (ih _ _ _ ?_)
      have := size_pos (s := c :: r) (by simp)
      rw [List.length_drop]; simp only [List.length_cons]; omega
theorem toks_step (line cnt : Nat) {c : UInt8} {r : List UInt8} (h1 : c ≠ 32) (h2 : c ≠ 10) (h3 : c ≠ 35) (hk : kindF ((c :: r).take (sizeF (c :: r))) ≠ 0) (hc : cnt ≠ 5000) :
    toksF line cnt (c :: r) = consF ⟨kindF ((c :: r).take (sizeF (c :: r))), line, (c :: r).take (sizeF (c :: r))⟩ (toksF line (cnt + 1) ((c :: r).drop (sizeF (c :: r)))) := by
  rw [toksF, if_neg h1, if_neg h2, if_neg h3, if_neg hk, if_neg hc]; rfl
theorem toks_err (line cnt : Nat) {c : UInt8} {r : List UInt8} (h1 : c ≠ 32) (h2 : c ≠ 10) (h3 : c ≠ 35) (hk : kindF ((c :: r).take (sizeF (c :: r))) = 0 ∨ cnt = 5000) :
    ∃ e, (e = 8 ∨ e = 2) ∧ toksF line cnt (c :: r) = ([], e, line) := by
  rw [toksF, if_neg h1, if_neg h2, if_neg h3]
  by_cases h4 : kindF ((c :: r).take (sizeF (c :: r))) = 0
  · rw [if_pos h4]; exact ⟨8, .inl rfl, rfl⟩
  · rw [if_neg h4]
    rcases hk with h | h
    · exact absurd h h4
    · rw [if_pos h]; exact ⟨2, .inr rfl, rfl⟩
theorem right_mono {line line2 : Nat} (h : line2 ≤ line) : ∀ {l : List Tok}, RightF line l → RightF line2 l
  | [], _ => trivial
  | _ :: _, ⟨h1, h2, h3, h4⟩ => ⟨h1, h2, by omega, h4⟩
/-- an error comes with no tokens, and no error with the line 0; tokens that are read are right, and no more than 5000 -/
theorem toks_right (line cnt : Nat) (s : List UInt8) (hc : cnt ≤ 5000) : ((toksF line cnt s).2.1 = 0 → (toksF line cnt s).2.2 = 0 ∧ RightF line (toksF line cnt s).1 ∧ cnt + (toksF line cnt s).1.length ≤ 5000) ∧
    ((toksF line cnt s).2.1 ≠ 0 → (toksF line cnt s).1 = [] ∧ line ≤ (toksF line cnt s).2.2) := by
  refine toks_cases (fun line cnt s => cnt ≤ 5000 → ((toksF line cnt s).2.1 = 0 → (toksF line cnt s).2.2 = 0 ∧ RightF line (toksF line cnt s).1 ∧ cnt + (toksF line cnt s).1.length ≤ 5000) ∧
    ((toksF line cnt s).2.1 ≠ 0 → (toksF line cnt s).1 = [] ∧ line ≤ (toksF line cnt s).2.2)) ?_ ?_ ?_ ?_ ?_ ?_ s.length line cnt s (Nat.le_refl _) hc
  · intro line cnt hc
    rw [toks_nil]
    exact ⟨fun _ => ⟨rfl, trivial, by simpa using hc⟩, fun h => absurd rfl h⟩
  · intro line cnt r ih hc; rw [toks_blank]; exact ih hc
  · intro line cnt r ih hc
    rw [toks_feed]
    obtain ⟨i1, i2⟩ := ih hc
    exact ⟨fun h => ⟨(i1 h).1, right_mono (by omega) (i1 h).2.1, (i1 h).2.2⟩, fun h => ⟨(i2 h).1, by have := (i2 h).2; omega⟩⟩
  · intro line cnt r ih hc; rw [toks_note]; exact ih hc
  · intro line cnt c r h1 h2 h3 hk hc
    obtain ⟨e, he, hq⟩ := toks_err line cnt h1 h2 h3 hk
    rw [hq]
    exact ⟨fun h => by simp only at h; omega, fun _ => ⟨rfl, Nat.le_refl _⟩⟩
  · intro line cnt c r h1 h2 h3 hk h5 ih hc
    rw [toks_step line cnt h1 h2 h3 hk h5]
    obtain ⟨i1, i2⟩ := ih (by omega)
    generalize toksF line (cnt + 1) ((c :: r).drop (sizeF (c :: r))) = y at *
    unfold consF
    by_cases hy : y.2.1 = 0
    · rw [if_pos hy]
      refine ⟨fun _ => ⟨rfl, ⟨hk, rfl, Nat.le_refl _, (i1 hy).2.1⟩, ?_⟩, fun h => absurd rfl h⟩
      have := (i1 hy).2.2
      simp only [List.length_cons]; omega
    · rw [if_neg hy]
      exact ⟨fun h => absurd h hy, fun _ => ⟨rfl, (i2 hy).2⟩⟩
end Go.Proofs.Ytbkcpcjdpfndpaa
