/-
  The lexer, plain: a text put together of tokens and blanks is read as these tokens, on one line.
-/
import Derived.Test.YtlkefcbkpohpgaaDoorLexMath5
namespace Go.Proofs.YtlkefcbkpohpgaaDoor

/-- what may stand behind a word or a number -/
def sepB (b : List UInt8) : Prop := ∀ c r, b = c :: r → letB c = false ∧ digB c = false ∧ c ≠ 46
theorem sep_nil : sepB [] := fun c r h => by cases h
theorem size_sign {c : UInt8} (h : sgnB c = true) (b : List UInt8) : sizeF (c :: b) = 1 := by
  have hc : letB c = false ∧ digB c = false := by
    have : ∀ x ∈ signs, letB x = false ∧ digB x = false := by decide
    exact this c (by simpa [sgnB] using h)
  have hn : nDig (c :: b) = 0 := by unfold nDig; rw [List.takeWhile_cons, if_neg (by rw [hc.2]; simp)]; rfl
  unfold sizeF
  simp only
  rw [if_neg (by rw [hc.1]; simp), if_pos hn]
theorem size_word {t b : List UInt8} (h : kindF t ≠ 0) (hb : sepB b) : sizeF (t ++ b) = t.length := by
  rcases kind_shape h with ⟨c, rfl, hc⟩ | hl | hd | ⟨A, B, rfl, hA, hB⟩
  · exact size_sign hc b
  · cases t with
    | nil => exact absurd rfl h
    | cons c r =>
      have hcl : letB c = true := hl c (by simp)
      have htw : (c :: (r ++ b)).takeWhile letB = c :: r := tw_gap (a := c :: r) hl (fun c r e => (hb c r e).1)
      show sizeF (c :: (r ++ b)) = _
      unfold sizeF
      simp only
      rw [if_pos hcl, nLet, htw]
  · cases t with
    | nil => exact absurd rfl h
    | cons c r =>
      have hcd : digB c = true := hd c (by simp)
      have hcl : letB c = false := by
        unfold digB at hcd; unfold letB; simp at hcd ⊢; omega
      have htw : (c :: (r ++ b)).takeWhile digB = c :: r := tw_gap (a := c :: r) hd (fun c r e => (hb c r e).2.1)
      have hn : nDig (c :: (r ++ b)) = (c :: r).length := by rw [nDig, htw]
      have hp : (c :: (r ++ b))[(c :: r).length]? ≠ some 46 := by
        show ((c :: r) ++ b)[(c :: r).length]? ≠ some 46
        rw [get_app rfl]
        cases b with
        | nil => simp
        | cons d q => intro e; exact (hb d q rfl).2.2 (Option.some.inj e)
      show sizeF (c :: (r ++ b)) = _
      unfold sizeF
      simp only
      rw [if_neg (by rw [hcl]; simp), hn, if_neg (by simp), if_neg hp]
  · cases A with
    | nil =>
      exfalso
      apply h
      unfold kindF
      have h1 : sgnB 46 = false := by decide
      have h2 : nDig ([] ++ 46 :: B) = 0 := by unfold nDig; simp [digB]
      simp only [List.nil_append] at h2 ⊢
      rw [if_neg (by rw [h1]; simp), if_neg (by decide), if_pos (.inl (by rw [h2]; omega))]
    | cons c r =>
      have hcd : digB c = true := hA c (by simp)
      have hcl : letB c = false := by
        unfold digB at hcd; unfold letB; simp at hcd ⊢; omega
      have e : (c :: r) ++ 46 :: B ++ b = (c :: r) ++ (46 :: (B ++ b)) := by simp
      rw [e]
      have htw : ((c :: r) ++ (46 :: (B ++ b))).takeWhile digB = c :: r := tw_gap hA (fun d q e => by cases e; decide)
      have hn : nDig ((c :: r) ++ (46 :: (B ++ b))) = (c :: r).length := by rw [nDig, htw]
      have hp : ((c :: r) ++ (46 :: (B ++ b)))[(c :: r).length]? = some 46 := get_app rfl
      have hdr : ((c :: r) ++ (46 :: (B ++ b))).drop ((c :: r).length + 1) = B ++ b := by rw [List.drop_append, List.drop_eq_nil_of_le (by omega), List.nil_append, show (c :: r).length + 1 - (c :: r).length = 1 by omega]; rfl
      have hB2 : nDig (B ++ b) = B.length := by rw [nDig, tw_gap hB (fun c r e => (hb c r e).2.1)]
      have hu : ∀ s : List UInt8, s = c :: (r ++ (46 :: (B ++ b))) → sizeF s = if letB c then nLet s else if nDig s = 0 then 1 else if s[nDig s]? = some 46 then nDig s + 1 + nDig (s.drop (nDig s + 1)) else nDig s := by
        rintro s rfl; rfl
      have hu2 := hu ((c :: r) ++ 46 :: (B ++ b)) rfl
      rw [hu2, if_neg (by rw [hcl]; simp), hn, if_neg (by simp), if_pos hp, hdr, hB2]
      simp only [List.length_append, List.length_cons]; omega
theorem toks_text {t b : List UInt8} (line cnt : Nat) (hk : kindF t ≠ 0) (hs : sizeF (t ++ b) = t.length) (hc : cnt ≠ 5000) : toksF line cnt (t ++ b) = consF ⟨kindF t, line, t⟩ (toksF line (cnt + 1) b) := by
  cases t with
  | nil => exact absurd rfl hk
  | cons c r =>
    obtain ⟨h1, h2, h3⟩ := kind_bytes hk c (by simp)
    have htk : (c :: (r ++ b)).take (sizeF (c :: (r ++ b))) = c :: r := by
      have : sizeF (c :: (r ++ b)) = (c :: r).length := hs
      rw [this]; exact List.take_left (l₁ := c :: r)
    have hdr : (c :: (r ++ b)).drop (sizeF (c :: (r ++ b))) = b := by
      have : sizeF (c :: (r ++ b)) = (c :: r).length := hs
      rw [this]; exact List.drop_left (l₁ := c :: r)
    have := toks_step line cnt (c := c) (r := r ++ b) h1 h2 h3 (by rw [htk]; exact hk) hc
    rw [htk, hdr] at this
    exact this

/-- kinds and texts as tokens on a line -/
def onL (line : Nat) (ks : List (Nat × List UInt8)) : List Tok := ks.map fun p => ⟨p.1, line, p.2⟩
/-- the text is read as these tokens, whatever stands behind it -/
def LxA (ks : List (Nat × List UInt8)) (s : List UInt8) : Prop := ∀ line cnt b, cnt + ks.length ≤ 5000 → toksF line cnt (s ++ b) = appF (onL line ks) (toksF line (cnt + ks.length) b)
/-- .. if what stands behind it is no letter, digit or point -/
def LxD (ks : List (Nat × List UInt8)) (s : List UInt8) : Prop := ∀ line cnt b, sepB b → cnt + ks.length ≤ 5000 → toksF line cnt (s ++ b) = appF (onL line ks) (toksF line (cnt + ks.length) b)
theorem LxA.d {ks : List (Nat × List UInt8)} {s : List UInt8} (h : LxA ks s) : LxD ks s := fun line cnt b _ hc => h line cnt b hc
theorem app_app (l m : List Tok) (y : List Tok × Nat × Nat) : appF l (appF m y) = appF (l ++ m) y := by
  unfold appF
  by_cases h : y.2.1 = 0
  · simp [h]
  · simp [h]
theorem app_one (x : Tok) (y : List Tok × Nat × Nat) : appF [x] y = consF x y := by unfold appF consF; rfl
theorem lx_nil : LxA [] [] := fun line cnt b hc => (app_nil (by simpa using hc)).symm
theorem lx_blank : LxA [] [32] := fun line cnt b hc => by
  show toksF line cnt (32 :: b) = _
  rw [toks_blank]; exact (app_nil (by simpa using hc)).symm
theorem lx_sign {c : UInt8} (h : sgnB c = true) : LxA [(4, [c])] [c] := fun line cnt b hc => by
  have hk : kindF [c] = 4 := by unfold kindF; simp only; rw [if_pos ⟨rfl, h⟩]
  simp only [List.length_cons, List.length_nil] at hc
  rw [toks_text line cnt (by rw [hk]; decide) (size_sign h b) (by omega), hk]
  exact (app_one _ _).symm
theorem lx_word {t : List UInt8} {k : Nat} (hk : kindF t = k) (h0 : k ≠ 0) : LxD [(k, t)] t := fun line cnt b hb hc => by
  simp only [List.length_cons, List.length_nil] at hc
  rw [toks_text line cnt (by rw [hk]; exact h0) (size_word (by rw [hk]; exact h0) hb) (by omega), hk]
  exact (app_one _ _).symm
theorem lx_cat {k1 k2 : List (Nat × List UInt8)} {s1 s2 : List UInt8} (h1 : LxA k1 s1) (h2 : LxA k2 s2) : LxA (k1 ++ k2) (s1 ++ s2) := fun line cnt b hc => by
  rw [List.length_append] at hc
  rw [List.append_assoc, h1 line cnt (s2 ++ b) (by omega), h2 line _ b (by omega), app_app, List.length_append, Nat.add_assoc]
  unfold onL; rw [List.map_append]
theorem lx_catD {k1 k2 : List (Nat × List UInt8)} {s1 s2 : List UInt8} (h1 : LxA k1 s1) (h2 : LxD k2 s2) : LxD (k1 ++ k2) (s1 ++ s2) := fun line cnt b hb hc => by
  rw [List.length_append] at hc
  rw [List.append_assoc, h1 line cnt (s2 ++ b) (by omega), h2 line _ b hb (by omega), app_app, List.length_append, Nat.add_assoc]
  unfold onL; rw [List.map_append]
/-- a word, and behind it what begins with a sign or a blank -/
theorem lx_then {k1 k2 : List (Nat × List UInt8)} {s1 s2 : List UInt8} {c : UInt8} (h1 : LxD k1 s1) (h2 : LxA k2 (c :: s2)) (hc : letB c = false ∧ digB c = false ∧ c ≠ 46) : LxA (k1 ++ k2) (s1 ++ c :: s2) := fun line cnt b hcn => by
  rw [List.length_append] at hcn
  rw [List.append_assoc, h1 line cnt (c :: s2 ++ b) (fun d r e => by cases e; exact hc) (by omega), h2 line _ b (by omega), app_app, List.length_append, Nat.add_assoc]
  unfold onL; rw [List.map_append]
theorem lx_all {ks : List (Nat × List UInt8)} {s : List UInt8} (h : LxD ks s) (hl : ks.length ≤ 5000) (line : Nat) : toksF line 0 s = (onL line ks, 0, 0) := by
  have := h line 0 [] sep_nil (by omega)
  rw [List.append_nil, toks_nil] at this
  rw [this]; unfold appF; simp
end Go.Proofs.YtlkefcbkpohpgaaDoor
