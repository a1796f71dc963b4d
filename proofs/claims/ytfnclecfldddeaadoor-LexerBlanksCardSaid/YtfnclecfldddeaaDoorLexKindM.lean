/-
  The kinds of the program are those of the plain lexer: plain mathematics.
-/
import Derived.Test.YtfnclecfldddeaaDoorLexKind3
namespace Go.Proofs.YtfnclecfldddeaaDoor
open Go.RowKit Go.Shelf
set_option maxRecDepth 100000

def decF (acc : Nat) (l : List UInt8) : Nat := l.foldl (fun n c => 10 * n + (c.toNat - 48)) acc
theorem dig_iff (c : UInt8) : digB c = true ↔ 48 ≤ c.toNat ∧ c.toNat ≤ 57 := by unfold digB; simp
theorem pu_ok : ∀ (l : List UInt8) (acc : Nat), (∀ x ∈ l, digB x = true) → (acc + 1) * 10 ^ l.length ≤ 1000000000000000000 → Lib.parseUint10 acc l = .ok (decF acc l) ∧ decF acc l < (acc + 1) * 10 ^ l.length
  | [], acc, _, _ => ⟨rfl, by simp [decF]⟩
  | c :: r, acc, h, hb => by
    obtain ⟨h1, h2⟩ := (dig_iff c).1 (h c (by simp))
    have hp : 1 ≤ 10 ^ r.length := Nat.one_le_pow _ _ (by omega)
    rw [List.length_cons, Nat.pow_succ] at hb ⊢
    have hb2 : (acc + 1) * 10 * 10 ^ r.length ≤ 1000000000000000000 := by rw [Nat.mul_assoc, Nat.mul_comm 10]; exact hb
    have hb3 : (acc + 1) * 10 ≤ 1000000000000000000 := Nat.le_trans (Nat.le_mul_of_pos_right _ hp) hb2
    have hle : (acc * 10 + (c.toNat - 48) + 1) * 10 ^ r.length ≤ (acc + 1) * 10 * 10 ^ r.length := Nat.mul_le_mul_right _ (by omega)
    obtain ⟨g1, g2⟩ := pu_ok r (acc * 10 + (c.toNat - 48)) (fun x hx => h x (by simp [hx])) (Nat.le_trans hle hb2)
    have e : decF acc (c :: r) = decF (acc * 10 + (c.toNat - 48)) r := by simp [decF, Nat.mul_comm]
    rw [e]
    refine ⟨?_, ?_⟩
    · rw [Lib.parseUint10, if_pos ⟨h1, h2⟩, if_neg (by omega), if_neg (by omega)]; exact g1
    · refine Nat.lt_of_lt_of_le g2 ?_
      rw [Nat.mul_comm (10 ^ r.length) 10, ← Nat.mul_assoc]; exact hle
theorem pu_bad : ∀ (l : List UInt8) (acc u : Nat), Lib.parseUint10 acc l = .ok u → ∀ x ∈ l, digB x = true
  | [], _, _, _, x, hx => by cases hx
  | c :: r, acc, u, h, x, hx => by
    rw [Lib.parseUint10] at h
    split at h
    · next hc =>
      split at h
      · cases h
      · split at h
        · cases h
        · rcases List.mem_cons.1 hx with rfl | hx
          · exact (dig_iff _).2 hc
          · exact pu_bad r _ u h x hx
    · cases h
/-- an amount without its point: digits that begin with one -/
theorem amt_eq (c : UInt8) (r : List UInt8) (hc : digB c = true) (hl : (c :: r).length ≤ 17) : amtB (c :: r) = decide ((∀ x ∈ c :: r, digB x = true) ∧ decF 0 (c :: r) ≤ 1000000000) := by
  obtain ⟨h1, h2⟩ := (dig_iff c).1 hc
  unfold amtB
  rw [Lib.atoiAll_plain c r (by omega) (by omega)]
  have hm : Lib.parseMag (c :: r) = Lib.parseUint10 0 (c :: r) := by unfold Lib.parseMag; rw [if_neg (by simp)]
  rw [hm]
  by_cases h : ∀ x ∈ c :: r, digB x = true
  · have hpw : (0 + 1) * 10 ^ (c :: r).length ≤ 100000000000000000 := by
      have := Nat.pow_le_pow_right (n := 10) (by omega) hl
      omega
    obtain ⟨g1, g2⟩ := pu_ok (c :: r) 0 h (by omega)
    rw [g1]
    have hlt : decF 0 (c :: r) < 100000000000000000 := by omega
    generalize decF 0 (c :: r) = u at *
    unfold Lib.signless
    rw [Bool.eq_iff_iff]
    simp only [decide_eq_true_eq]
    rw [if_neg (by omega)]
    simp only [decide_eq_true_eq]
    exact ⟨fun q => ⟨h, by omega⟩, fun q => by have := q.2; omega⟩
  · have e : decide ((∀ x ∈ c :: r, digB x = true) ∧ decF 0 (c :: r) ≤ 1000000000) = false := by rw [decide_eq_false_iff_not]; exact fun q => h q.1
    rw [e]
    cases hp : Lib.parseUint10 0 (c :: r) with
    | ok u => exact absurd (pu_bad _ _ _ hp) h
    | _ => rfl
/-- before its first point, and behind it -/
theorem cut_at : ∀ (A B : List UInt8), (∀ x ∈ A, x ≠ 46) → cutA (A ++ 46 :: B) = A ∧ cutB (A ++ 46 :: B) = B := by
  intro A B h
  have hi : Lib.index (A ++ 46 :: B) [46] = A.length := by
    refine Lib.index_hit (i := A.length) ?_ (by simp) (by simp [Lib.occAt])
    intro j hj
    unfold Lib.occAt
    rw [List.drop_append_of_le_length (by omega), List.drop_eq_getElem_cons hj, List.cons_append]
    have := h A[j] (List.getElem_mem hj)
    simp [List.isPrefixOf, Ne.symm this]
  unfold cutA cutB Lib.cut
  rw [hi, if_pos (by omega)]
  simp
theorem cut_none (s : List UInt8) (h : ∀ x ∈ s, x ≠ 46) : cutA s = s ∧ cutB s = [] := by
  have hi : Lib.index s [46] = -1 := by
    rcases Lib.index_spec s [46] with ⟨e, _⟩ | ⟨i, e, hi, ho, _⟩
    · exact e
    · exfalso
      unfold Lib.occAt at ho
      rcases Nat.lt_or_ge i s.length with hl | hl
      · rw [List.drop_eq_getElem_cons hl] at ho
        simp [List.isPrefixOf] at ho
        exact h _ (List.getElem_mem hl) ho.symm
      · rw [List.drop_of_length_le hl] at ho; simp at ho
  unfold cutA cutB Lib.cut
  rw [hi, if_neg (by omega)]
  simp
/-- what stands before the first point: as many bytes that are no point, then a point or the end -/
theorem cut_case (s : List UInt8) : (∃ A B, s = A ++ 46 :: B ∧ (∀ x ∈ A, x ≠ 46)) ∨ (∀ x ∈ s, x ≠ 46) := by
  induction s with
  | nil => exact .inr (by simp)
  | cons c r ih =>
    by_cases hc : c = 46
    · subst hc; exact .inl ⟨[], r, rfl, by simp⟩
    · rcases ih with ⟨A, B, rfl, hA⟩ | h
      · exact .inl ⟨c :: A, B, rfl, by simp; exact ⟨hc, fun x hx => hA x hx⟩⟩
      · exact .inr (by simp; exact ⟨hc, fun x hx => h x hx⟩)
theorem numB_iff (t : List UInt8) : numB t = true ↔ t ≠ [] ∧ t.length ≤ 9 ∧ (∀ x ∈ t, digB x = true) ∧ (t.length = 1 ∨ t.head? ≠ some 48) := by
  unfold numB
  rw [decide_eq_true_eq]
  have e : nDig t = t.length ↔ ∀ x ∈ t, digB x = true := by
    constructor
    · intro h x hx
      have e : t.takeWhile digB = t := (List.takeWhile_prefix digB).eq_of_length h
      rw [← e] at hx; exact tw_mem hx
    · intro h
      unfold nDig
      exact tw_full (List.all_eq_true.2 h)
  rw [e]
  have : t.length ≠ 0 ↔ t ≠ [] := by simp
  rw [this]
theorem digs_of (t : List UInt8) : (∀ x ∈ t.take (nDig t), digB x = true) ∧ (nDig t < t.length → ∀ h, digB (t[nDig t]'h) = false) := by
  obtain ⟨h1, h2, h3⟩ := tw_split digB t
  have e : t.takeWhile digB = t.take (nDig t) := List.prefix_iff_eq_take.1 (List.takeWhile_prefix digB)
  rw [e] at h2
  refine ⟨h2, fun hl h => ?_⟩
  exact h3 _ _ (List.drop_eq_getElem_cons h)

theorem cents_cut (A B : List UInt8) (hA : ∀ x ∈ A, digB x = true) (hB : ∀ x ∈ B, digB x = true) : cents (A ++ 46 :: B) = decF 0 (A ++ B) := by
  unfold cents decF
  have e : (A ++ 46 :: B).filter digB = A ++ B := by
    rw [List.filter_append, List.filter_cons, if_neg (by decide), List.filter_eq_self.2 hA, List.filter_eq_self.2 hB]
  rw [e]

def kq (x y : Bool) : Nat := if x then 2 else if y then 3 else 0
theorem kind_eq (t : List UInt8) : kindP t = kindF t := by
  cases t with
  | nil => decide
  | cons c r =>
  have hsig : sigB (c :: r) = decide ((c :: r).length = 1 ∧ sgnB c = true) := by
    cases r with
    | nil => simp [sigB]
    | cons d q => simp [sigB]
  have hnam : nameB (c :: r) = true ↔ ∀ x ∈ c :: r, letB x = true := by
    unfold nameB
    rw [decide_eq_true_eq]
    constructor
    · rintro ⟨_, h⟩ x hx
      have e : (c :: r).takeWhile letB = c :: r := (List.takeWhile_prefix letB).eq_of_length h
      rw [← e] at hx; exact tw_mem hx
    · intro h
      exact ⟨by simp, tw_full (List.all_eq_true.2 h)⟩
  -- a text that does not begin with a digit is no number and no money
  have hnd : digB c = false → numB (c :: r) = false ∧ mnyB (c :: r) = false := by
    intro hc
    have h1 : numB (c :: r) = false := by
      rw [Bool.eq_false_iff]; intro h
      have := ((numB_iff _).1 h).2.2.1 c (by simp)
      rw [hc] at this; cases this
    refine ⟨h1, ?_⟩
    unfold mnyB
    have h2 : numB (cutA (c :: r)) = false := by
      rw [Bool.eq_false_iff]; intro h
      rcases cut_case (c :: r) with ⟨A, B, e, hA⟩ | hA
      · rw [e, (cut_at A B hA).1] at h
        cases A with
        | nil => exact ((numB_iff _).1 h).1 rfl
        | cons a q =>
          simp only [List.cons_append, List.cons.injEq] at e
          have := ((numB_iff _).1 h).2.2.1 a (by simp)
          rw [← e.1, hc] at this; cases this
      · rw [(cut_none _ hA).1, h1] at h; cases h
    rw [h2]; rfl
  unfold kindF
  simp only
  by_cases h1 : (c :: r).length = 1 ∧ sgnB c = true
  · rw [if_pos h1]
    have hc : letB c = false ∧ digB c = false := by
      have := h1.2
      simp only [sgnB, signs, List.contains_eq_mem, List.mem_cons, List.not_mem_nil, or_false, decide_eq_true_eq] at this
      rcases this with rfl | rfl | rfl | rfl | rfl | rfl | rfl | rfl | rfl | rfl | rfl | rfl | rfl <;> decide
    have hn : nameB (c :: r) = false := by
      rw [Bool.eq_false_iff]; intro h; have := hnam.1 h c (by simp); rw [hc.1] at this; cases this
    obtain ⟨a1, a2⟩ := hnd hc.2
    have hs : sigB (c :: r) = true := by rw [hsig, decide_eq_true_eq]; exact h1
    unfold kindP
    rw [hn, a1, a2, hs]; rfl
  · rw [if_neg h1]
    have hs : sigB (c :: r) = false := by rw [hsig, decide_eq_false_iff_not]; exact h1
    by_cases h2 : letB c = true
    · rw [if_pos h2]
      have hd : digB c = false := by
        rw [Bool.eq_false_iff]; intro h
        have a := (dig_iff c).1 h
        unfold letB at h2; simp at h2; omega
      obtain ⟨a1, a2⟩ := hnd hd
      unfold kindP
      cases h3 : (c :: r).all letB with
      | true => rw [hnam.2 (List.all_eq_true.1 h3)]; rfl
      | false =>
        have hn : nameB (c :: r) = false := by
          rw [Bool.eq_false_iff]; intro h; rw [List.all_eq_true.2 (hnam.1 h)] at h3; cases h3
        rw [hn, a1, a2, hs]; rfl
    · rw [if_neg h2]
      have hn : nameB (c :: r) = false := by
        rw [Bool.eq_false_iff]; intro h; exact h2 (hnam.1 h c (by simp))
      unfold kindP
      rw [hn, hs]
      change kq (numB (c :: r)) (mnyB (c :: r)) = _
      obtain ⟨d1, d2⟩ := digs_of (c :: r)
      have dle : nDig (c :: r) ≤ (c :: r).length := tw_len _
      have hd0 : nDig (c :: r) < 1 ↔ digB c = false := by
        unfold nDig; rw [List.takeWhile_cons]; cases digB c <;> simp
      obtain ⟨n, hN⟩ : ∃ n, n = nDig (c :: r) := ⟨_, rfl⟩
      rw [← hN] at d1 d2 dle hd0 ⊢
      -- what stands before the point has at least the digits
      have hpre : ∀ A B, c :: r = A ++ B → (∀ x ∈ A, x ≠ 46) → (B = [] ∨ B.head? = some 46) → n ≤ A.length := by
        intro A B e hA hB
        rcases Nat.lt_or_ge A.length n with hlt | hge
        · exfalso
          have hl : A.length < (c :: r).length := by omega
          have hx : (c :: r)[A.length] ∈ (c :: r).take n := by
            rw [List.mem_take_iff_getElem]
            exact ⟨A.length, by omega, rfl⟩
          have hdig := d1 _ hx
          have hB2 : B.head? = some ((c :: r)[A.length]) := by
            have : (c :: r)[A.length]? = B.head? := by rw [e]; exact get_app rfl
            rw [← this, List.getElem?_eq_getElem hl]
          rcases hB with rfl | hB
          · simp at hB2
          · rw [hB] at hB2
            rw [← Option.some.inj hB2] at hdig
            revert hdig; decide
        · exact hge
      by_cases h5 : n < 1 ∨ 9 < n ∨ 1 < n ∧ c = 48
      · rw [if_pos h5]
        rcases h5 with h5 | h5
        · obtain ⟨a1, a2⟩ := hnd (hd0.1 h5)
          rw [a1, a2]; rfl
        · have hno : ∀ A B, c :: r = A ++ B → (∀ x ∈ A, x ≠ 46) → (B = [] ∨ B.head? = some 46) → numB A = false := by
            intro A B e hA hB
            have hge := hpre A B e hA hB
            rw [Bool.eq_false_iff]; intro h
            obtain ⟨g1, g2, g3, g4⟩ := (numB_iff _).1 h
            rcases h5 with h5 | ⟨h5, rfl⟩
            · omega
            · rcases g4 with g4 | g4
              · omega
              · cases A with
                | nil => exact g1 rfl
                | cons a q => simp at e; exact g4 (by rw [← e.1]; rfl)
          have a1 : numB (c :: r) = false := by
            rw [Bool.eq_false_iff]; intro h
            obtain ⟨g1, g2, g3, g4⟩ := (numB_iff _).1 h
            have hn2 : n = (c :: r).length := by rw [hN]; unfold nDig; exact tw_full (List.all_eq_true.2 g3)
            rcases h5 with h5 | ⟨h5, rfl⟩
            · omega
            · rcases g4 with g4 | g4
              · omega
              · exact g4 rfl
          have a2 : mnyB (c :: r) = false := by
            unfold mnyB
            rcases cut_case (c :: r) with ⟨A, B, e, hA⟩ | hA
            · have := hno A (46 :: B) e hA (.inr rfl)
              rw [e, (cut_at A B hA).1, this]; rfl
            · rw [(cut_none _ hA).1, a1]; rfl
          rw [a1, a2]; rfl
      · rw [if_neg h5]
        have hn1 : 1 ≤ n ∧ n ≤ 9 ∧ (n = 1 ∨ c ≠ 48) := by
          refine ⟨by omega, by omega, ?_⟩
          by_cases hh : n = 1
          · exact .inl hh
          · exact .inr (fun e => h5 (.inr (.inr ⟨by omega, e⟩)))
        by_cases h6 : n = (c :: r).length
        · rw [if_pos h6]
          have hd : ∀ x ∈ c :: r, digB x = true := by rw [h6, List.take_length] at d1; exact d1
          have : numB (c :: r) = true := (numB_iff _).2 ⟨by simp, by omega, hd, by rw [← h6]; simpa using hn1.2.2⟩
          rw [this]; rfl
        · rw [if_neg h6]
          have hlt : n < (c :: r).length := by omega
          have hnd2 := d2 hlt hlt
          have a1 : numB (c :: r) = false := by
            rw [Bool.eq_false_iff]; intro h
            have := ((numB_iff _).1 h).2.2.1 _ (List.getElem_mem hlt)
            rw [hnd2] at this; cases this
          rw [a1]
          have hsp : c :: r = (c :: r).take n ++ (c :: r)[n] :: (c :: r).drop (n + 1) := by
            rw [← List.drop_eq_getElem_cons hlt, List.take_append_drop]
          have hAl : ((c :: r).take n).length = n := by rw [List.length_take]; omega
          have hBl : ((c :: r).drop (n + 1)).length = (c :: r).length - (n + 1) := by rw [List.length_drop]
          have h46 : ∀ x ∈ (c :: r).take n, x ≠ 46 := fun x hx e => by have := d1 x hx; rw [e] at this; revert this; decide
          rw [List.getElem?_eq_getElem hlt]
          by_cases hp : (c :: r)[n] = 46
          · have hcA : cutA (c :: r) = (c :: r).take n ∧ cutB (c :: r) = (c :: r).drop (n + 1) := by
              have := cut_at ((c :: r).take n) ((c :: r).drop (n + 1)) h46
              rw [← hp, ← hsp] at this; exact this
            have hnum : numB ((c :: r).take n) = true := by
              refine (numB_iff _).2 ⟨fun e => by rw [e] at hAl; simp at hAl; omega, by omega, d1, ?_⟩
              rw [hAl]
              rcases hn1.2.2 with h | h
              · exact .inl h
              · refine .inr ?_
                obtain ⟨m, rfl⟩ : ∃ m, n = m + 1 := ⟨n - 1, by omega⟩
                simpa using h
            have hm : mnyB (c :: r) = (decide (((c :: r).drop (n + 1)).length = 2) && amtB ((c :: r).take n ++ (c :: r).drop (n + 1))) := by
              unfold mnyB; rw [hcA.1, hcA.2, hnum]; rfl
            have hdrop : nDig ((c :: r).drop (n + 1)) = ((c :: r).drop (n + 1)).length ↔ ∀ x ∈ (c :: r).drop (n + 1), digB x = true := by
              constructor
              · intro h x hx
                have e : ((c :: r).drop (n + 1)).takeWhile digB = (c :: r).drop (n + 1) := (List.takeWhile_prefix digB).eq_of_length h
                rw [← e] at hx; exact tw_mem hx
              · intro h; exact tw_full (List.all_eq_true.2 h)
            rw [hm]
            have hcen : (∀ x ∈ (c :: r).drop (n + 1), digB x = true) → cents (c :: r) = decF 0 ((c :: r).take n ++ (c :: r).drop (n + 1)) := by
              intro h
              have := cents_cut ((c :: r).take n) ((c :: r).drop (n + 1)) d1 h
              rw [← hp, ← hsp] at this; exact this
            have hamt : ((c :: r).drop (n + 1)).length = 2 → amtB ((c :: r).take n ++ (c :: r).drop (n + 1)) = decide ((∀ x ∈ (c :: r).take n ++ (c :: r).drop (n + 1), digB x = true) ∧ decF 0 ((c :: r).take n ++ (c :: r).drop (n + 1)) ≤ 1000000000) := by
              intro h
              obtain ⟨m, rfl⟩ : ∃ m, n = m + 1 := ⟨n - 1, by omega⟩
              rw [List.take_succ_cons, List.cons_append]
              refine amt_eq _ _ (d1 c (by simp)) ?_
              rw [List.take_succ_cons] at hAl
              rw [← List.cons_append, List.length_append, hAl, h]; omega
            by_cases hlen : (c :: r).length = n + 3
            · have hB2 : ((c :: r).drop (n + 1)).length = 2 := by omega
              have hamt2 := hamt hB2
              have hdrop2 : nDig ((c :: r).drop (n + 1)) = 2 ↔ ∀ x ∈ (c :: r).drop (n + 1), digB x = true := by
                have := hdrop; rw [hB2] at this; exact this
              rw [hamt2, hB2]
              by_cases hdd : nDig ((c :: r).drop (n + 1)) = 2
              · rw [if_neg (by
                  rintro (h | h | h)
                  · exact h (by rw [hp])
                  · exact h hlen
                  · exact h hdd)]
                have hall := hdrop2.1 hdd
                rw [hcen hall]
                by_cases hle : 1000000000 < decF 0 ((c :: r).take n ++ (c :: r).drop (n + 1))
                · rw [if_pos hle]
                  have e : decide ((∀ x ∈ (c :: r).take n ++ (c :: r).drop (n + 1), digB x = true) ∧ decF 0 ((c :: r).take n ++ (c :: r).drop (n + 1)) ≤ 1000000000) = false := by
                    rw [decide_eq_false_iff_not]; exact fun q => by have := q.2; omega
                  rw [e]; rfl
                · rw [if_neg hle]
                  have e : decide ((∀ x ∈ (c :: r).take n ++ (c :: r).drop (n + 1), digB x = true) ∧ decF 0 ((c :: r).take n ++ (c :: r).drop (n + 1)) ≤ 1000000000) = true := by
                    rw [decide_eq_true_eq]
                    refine ⟨fun x hx => ?_, by omega⟩
                    rcases List.mem_append.1 hx with hx | hx
                    · exact d1 x hx
                    · exact hall x hx
                  rw [e]; rfl
              · rw [if_pos (.inr (.inr hdd))]
                have e : decide ((∀ x ∈ (c :: r).take n ++ (c :: r).drop (n + 1), digB x = true) ∧ decF 0 ((c :: r).take n ++ (c :: r).drop (n + 1)) ≤ 1000000000) = false := by
                  rw [decide_eq_false_iff_not]
                  exact fun q => hdd (hdrop2.2 fun x hx => q.1 x (List.mem_append.2 (.inr hx)))
                rw [e]; rfl
            · rw [if_pos (.inr (.inl hlen))]
              have e : decide (((c :: r).drop (n + 1)).length = 2) = false := by rw [decide_eq_false_iff_not]; omega
              rw [e]; rfl
          · rw [if_pos (.inl (by intro e; exact hp (Option.some.inj e)))]
            have a2 : mnyB (c :: r) = false := by
              unfold mnyB
              have : ∀ A B, c :: r = A ++ B → (∀ x ∈ A, x ≠ 46) → (B = [] ∨ B.head? = some 46) → numB A = false := by
                intro A B e hA hB
                have hge := hpre A B e hA hB
                rw [Bool.eq_false_iff]; intro h
                have hA2 : n < A.length := by
                  rcases Nat.lt_or_ge n A.length with h' | h'
                  · exact h'
                  · exfalso
                    have hAn : A.length = n := by omega
                    rcases hB with rfl | hB
                    · rw [List.append_nil] at e; rw [e] at hlt; omega
                    · have : (c :: r)[n]? = B.head? := by rw [e]; exact get_app hAn
                      rw [List.getElem?_eq_getElem hlt, hB] at this
                      exact hp (Option.some.inj this)
                have hx : (c :: r)[n] ∈ A := by
                  have : (c :: r)[n]? = A[n]? := by rw [e, List.getElem?_append_left hA2]
                  rw [List.getElem?_eq_getElem hlt, List.getElem?_eq_getElem hA2] at this
                  rw [Option.some.inj this]; exact List.getElem_mem hA2
                have := ((numB_iff _).1 h).2.2.1 _ hx
                rw [hnd2] at this; cases this
              rcases cut_case (c :: r) with ⟨A, B, e, hA⟩ | hA
              · have h' := this A (46 :: B) e hA (.inr rfl)
                rw [e, (cut_at A B hA).1, h']; rfl
              · rw [(cut_none _ hA).1, a1]; rfl
            rw [a2]; rfl
end Go.Proofs.YtfnclecfldddeaaDoor
