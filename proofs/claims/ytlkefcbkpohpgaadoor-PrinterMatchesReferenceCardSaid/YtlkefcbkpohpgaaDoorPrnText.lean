/-
  The printer, plain: the text of a well-formed expression is read as this expression; different ones have different texts.
-/
import Derived.Test.YtlkefcbkpohpgaaDoorPrnPlain
import Derived.Test.YtlkefcbkpohpgaaDoorParVal
namespace Go.Proofs.YtlkefcbkpohpgaaDoor

theorem okL_two {a b : Xp} (h : okL [a, b] = true) : okE a = true ∧ okE b = true := by simpa [okL] using h
theorem okL_three {a b c : Xp} (h : okL [a, b, c] = true) : okE a = true ∧ okE b = true ∧ okE c = true := by simpa [okL] using h
theorem okL_one {a : Xp} (h : okL [a] = true) : okE a = true := by simpa [okL] using h
theorem node_shape {o n : Int} {l : List Xp} (h : okE (.mk o n l) = true) : (o = 1 ∧ l = [] ∧ ∃ a : Nat, n = a ∧ a ≤ 999999999) ∨ (o = 2 ∧ l = [] ∧ ∃ a : Nat, n = a ∧ a ≤ 1000000000) ∨ (o = 3 ∧ l = [] ∧ (n = 1 ∨ n = 2 ∨ n = 3 ∨ n = 4)) ∨
    (o = 15 ∧ n = 0 ∧ ∃ a, l = [a] ∧ okE a = true) ∨ (o = 10 ∧ n = 0 ∧ ∃ a b c, l = [a, b, c] ∧ okE a = true ∧ okE b = true ∧ okE c = true) ∨
    ((o = 8 ∨ o = 9 ∨ o = 4 ∨ o = 5 ∨ o = 6 ∨ o = 7 ∨ o = 11 ∨ o = 12 ∨ o = 13 ∨ o = 14) ∧ n = 0 ∧ ∃ a b, l = [a, b] ∧ okE a = true ∧ okE b = true) := by
  unfold okE at h
  rw [Bool.and_eq_true] at h
  obtain ⟨h, hl⟩ := h
  have hn : (o = 1 ∧ l.length = 0 ∧ 0 ≤ n ∧ n ≤ 999999999) ∨ (o = 2 ∧ l.length = 0 ∧ 0 ≤ n ∧ n ≤ 1000000000) ∨ (o = 3 ∧ l.length = 0 ∧ 1 ≤ n ∧ n ≤ 4) ∨ (o = 15 ∧ l.length = 1 ∧ n = 0) ∨ (o = 10 ∧ l.length = 3 ∧ n = 0) ∨
    ((o = 8 ∨ o = 9 ∨ o = 4 ∨ o = 5 ∨ o = 6 ∨ o = 7 ∨ o = 11 ∨ o = 12 ∨ o = 13 ∨ o = 14) ∧ l.length = 2 ∧ n = 0) := by
    clear hl
    unfold nodeB at h
    repeat' split at h
    all_goals simp only [Bool.and_eq_true, decide_eq_true_eq] at h
    all_goals omega
  rcases hn with ⟨rfl, h1, h2, h3⟩ | ⟨rfl, h1, h2, h3⟩ | ⟨rfl, h1, h2, h3⟩ | ⟨rfl, h1, h2⟩ | ⟨rfl, h1, h2⟩ | ⟨ho, h1, h2⟩
  · exact .inl ⟨rfl, List.length_eq_zero_iff.1 h1, n.toNat, by omega, by omega⟩
  · exact .inr (.inl ⟨rfl, List.length_eq_zero_iff.1 h1, n.toNat, by omega, by omega⟩)
  · exact .inr (.inr (.inl ⟨rfl, List.length_eq_zero_iff.1 h1, by omega⟩))
  · obtain ⟨a, rfl⟩ := List.length_eq_one_iff.1 h1
    exact .inr (.inr (.inr (.inl ⟨rfl, h2, a, rfl, okL_one hl⟩)))
  · match l, h1 with
    | [a, b, c], _ => exact .inr (.inr (.inr (.inr (.inl ⟨rfl, h2, a, b, c, rfl, okL_three hl⟩))))
  · match l, h1 with
    | [a, b], _ => exact .inr (.inr (.inr (.inr (.inr ⟨ho, h2, a, b, rfl, okL_two hl⟩))))
theorem txt_two {o n : Int} {a b : Xp} : txtE (.mk o n [a, b]) = shapeT o n [brkS (lowE o 0 a) (txtE a), brkS (lowE o 1 b) (txtE b)] := by rw [txtE_mk, txtL_cons, txtL_cons, txtL_nil]
theorem txt_one {o n : Int} {a : Xp} : txtE (.mk o n [a]) = shapeT o n [brkS (lowE o 0 a) (txtE a)] := by rw [txtE_mk, txtL_cons, txtL_nil]
theorem txt_three {o n : Int} {a b c : Xp} : txtE (.mk o n [a, b, c]) = shapeT o n [brkS (lowE o 0 a) (txtE a), brkS (lowE o 1 b) (txtE b), brkS (lowE o 2 c) (txtE c)] := by rw [txtE_mk, txtL_cons, txtL_cons, txtL_cons, txtL_nil]
theorem low_none {o : Int} (h : o = 8 ∨ o = 9 ∨ o = 10) (i : Nat) (e : Xp) : lowE o i e = false := by rcases h with rfl | rfl | rfl <;> exact decide_eq_false (Nat.not_lt_zero _)
theorem brkS_no (s : List UInt8) : brkS false s = s := rfl
theorem opw_of {o : Int} (h : o = 4 ∨ o = 5 ∨ o = 6 ∨ o = 7 ∨ o = 11 ∨ o = 12 ∨ o = 13 ∨ o = 14) : ∃ q n k : Nat, o = k ∧ OpW (sgnO o) q n k := by
  rcases h with rfl | rfl | rfl | rfl | rfl | rfl | rfl | rfl
  · exact ⟨_, _, 4, rfl, .add⟩
  · exact ⟨_, _, 5, rfl, .sub⟩
  · exact ⟨_, _, 6, rfl, .mul⟩
  · exact ⟨_, _, 7, rfl, .div⟩
  · exact ⟨_, _, 11, rfl, .less⟩
  · exact ⟨_, _, 12, rfl, .equal⟩
  · exact ⟨_, _, 13, rfl, .and⟩
  · exact ⟨_, _, 14, rfl, .or⟩
theorem pt_of : ∀ (e : Xp), okE e = true → ∃ k, Pt e (txtE e) k := by
  intro e
  induction e using Xp.ind with
  | h o n kids ih =>
  intro h
  rcases node_shape h with ⟨rfl, rfl, a, rfl, ha⟩ | ⟨rfl, rfl, a, rfl, ha⟩ | ⟨rfl, rfl, hn⟩ | ⟨rfl, rfl, a, rfl, ha⟩ | ⟨rfl, rfl, a, b, c, rfl, ha, hb, hc⟩ | ⟨ho, rfl, a, b, rfl, ha, hb⟩
  · rw [txtE_mk]
    obtain ⟨g1, g2⟩ := num_kind a ha
    exact ⟨_, .num g1 g2⟩
  · rw [txtE_mk]
    obtain ⟨g1, g2⟩ := mon_kind a ha
    exact ⟨_, .mon g1 g2⟩
  · rw [txtE_mk]
    rcases hn with rfl | rfl | rfl | rfl
    · exact ⟨_, .var (t := [110, 105, 103, 104, 116, 115]) (n := 1) (by decide) (by decide) (by decide)⟩
    · exact ⟨_, .var (t := [112, 101, 114, 115, 111, 110, 115]) (n := 2) (by decide) (by decide) (by decide)⟩
    · exact ⟨_, .var (t := [110, 105, 103, 104, 116]) (n := 3) (by decide) (by decide) (by decide)⟩
    · exact ⟨_, .var (t := [119, 101, 101, 107, 100, 97, 121]) (n := 4) (by decide) (by decide) (by decide)⟩
  · obtain ⟨k, hk⟩ := ih a (by simp) ha
    rw [txt_one]
    exact ⟨_, .not hk⟩
  · obtain ⟨k, hk⟩ := ih a (by simp) ha
    obtain ⟨l, hl⟩ := ih b (by simp) hb
    obtain ⟨m, hm⟩ := ih c (by simp) hc
    rw [txt_three, low_none (.inr (.inr rfl)), low_none (.inr (.inr rfl)), low_none (.inr (.inr rfl))]
    exact ⟨_, .ite hk hl hm⟩
  · obtain ⟨k, hk⟩ := ih a (by simp) ha
    obtain ⟨l, hl⟩ := ih b (by simp) hb
    rw [txt_two]
    by_cases h8 : o = 8 ∨ o = 9
    · rcases h8 with rfl | rfl
      · rw [low_none (.inl rfl), low_none (.inl rfl)]; exact ⟨_, .min hk hl⟩
      · rw [low_none (.inr (.inl rfl)), low_none (.inr (.inl rfl))]; exact ⟨_, .max hk hl⟩
    · obtain ⟨q, n, k2, he, hw⟩ := opw_of (o := o) (by omega)
      have hs : ∀ x y : List UInt8, shapeT o 0 [x, y] = x ++ 32 :: (sgnO o ++ 32 :: y) := by
        intro x y
        have hx : o = 4 ∨ o = 5 ∨ o = 6 ∨ o = 7 ∨ o = 11 ∨ o = 12 ∨ o = 13 ∨ o = 14 := by omega
        unfold shapeT
        rw [if_neg (by omega), if_neg (by omega), if_neg (by omega), if_neg (by omega), if_neg (by omega), if_neg (by omega), if_neg (by omega)]
        rfl
      rw [hs]
      generalize hg : sgnO o = w at hw ⊢
      subst he
      exact ⟨_, .two hk hw hl⟩
theorem brk_len (b : Bool) (s : List UInt8) : (brkS b s).length ≤ s.length + 2 := by unfold brkS; split <;> simp
theorem brk_lenK (b : Bool) (s : List (Nat × List UInt8)) : (brkK b s).length ≤ s.length + 2 := by unfold brkK; split <;> simp
theorem pt_count {e : Xp} {s : List UInt8} {k : List (Nat × List UInt8)} (h : Pt e s k) : k.length + 2 ≤ 6 * cntE e ∧ s.length + 2 ≤ 22 * cntE e := by
  have kl : ∀ {t : List UInt8} {q : Nat}, kindF t = q → q = 2 ∨ q = 3 → t.length ≤ 20 := by
    intro t q h hq
    cases t with
    | nil => simp
    | cons c r =>
      unfold kindF at h
      simp only at h
      split at h
      · omega
      · split at h
        · split at h <;> omega
        · split at h
          · omega
          · split at h
            · omega
            · split at h
              · omega
              · omega
  have vl : ∀ {t : List UInt8} {n : Nat}, varF t = n → n ≠ 0 → t.length ≤ 20 := by
    intro t n h h0
    unfold varF at h
    split at h
    · next e => rw [e]; decide
    · split at h
      · next e => rw [e]; decide
      · split at h
        · next e => rw [e]; decide
        · split at h
          · next e => rw [e]; decide
          · omega
  induction h with
  | num hk hc => have := kl hk (.inl rfl); simp only [leafE, cntE, cntL, List.length_cons, List.length_nil]; omega
  | mon hk hc => have := kl hk (.inr rfl); simp only [leafE, cntE, cntL, List.length_cons, List.length_nil]; omega
  | var hk hv h0 => have := vl hv h0; simp only [leafE, cntE, cntL, List.length_cons, List.length_nil]; omega
  | min _ _ ia ib => simp only [nodeE, cntE, cntL, List.length_cons, List.length_nil, List.length_append, wMin]; omega
  | max _ _ ia ib => simp only [nodeE, cntE, cntL, List.length_cons, List.length_nil, List.length_append, wMax]; omega
  | ite _ _ _ ia ib ic => simp only [nodeE, cntE, cntL, List.length_cons, List.length_nil, List.length_append, wIf, wThen, wElse]; omega
  | @not a s k _ ia =>
    have := brk_len (lowE 15 0 a) s
    have := brk_lenK (lowE 15 0 a) k
    simp only [nodeE, cntE, cntL, List.length_cons, List.length_nil, List.length_append, wNot]; omega
  | @two a b s t w k l q n o _ hw _ ia ib =>
    have : ∀ {w : List UInt8} {q n o : Nat}, OpW w q n o → w.length ≤ 3 := by intro w q n o h; cases h <;> decide
    have := this hw
    have := brk_len (lowE o 0 a) s
    have := brk_lenK (lowE o 0 a) k
    have := brk_len (lowE o 1 b) t
    have := brk_lenK (lowE o 1 b) l
    simp only [nodeE, cntE, cntL, List.length_cons, List.length_append]; omega
theorem valid_is {e : Xp} (h : validF e = true) : okE e = true ∧ cntE e ≤ 200 ∧ depE e ≤ 30 := by
  unfold validF at h
  simpa [Bool.and_eq_true, and_assoc] using h
theorem txt_len {e : Xp} (h : validF e = true) : (txtE e).length ≤ 4400 := by
  obtain ⟨ho, hc, _⟩ := valid_is h
  obtain ⟨k, hk⟩ := pt_of e ho
  have hn := pt_count hk
  omega
/-- P9.6 -/
theorem txt_inj {a b : Xp} (ha : validF a = true) (hb : validF b = true) (h : txtE a = txtE b) : a = b := by
  have one : ∀ {e : Xp}, validF e = true → ∃ k, toksF 1 0 (txtE e) = (onL 1 k, 0, 0) ∧ G .expr (onL 1 k) (.ok [e] []) := by
    intro e he
    obtain ⟨ho, hc, _⟩ := valid_is he
    obtain ⟨k, hk⟩ := pt_of e ho
    have hn := pt_count hk
    refine ⟨k, lx_all (pt_lx hk) (by omega) 1, ?_⟩
    have := (pt_al (line := 1) hk).re [] (fun n => rfl)
    rw [List.append_nil] at this; exact this
  obtain ⟨k, h1, g1⟩ := one ha
  obtain ⟨l, h2, g2⟩ := one hb
  rw [h, h2] at h1
  have : onL 1 l = onL 1 k := congrArg Prod.fst h1
  rw [this] at g2
  have := g1.det g2
  cases this; rfl
end Go.Proofs.YtlkefcbkpohpgaaDoor
