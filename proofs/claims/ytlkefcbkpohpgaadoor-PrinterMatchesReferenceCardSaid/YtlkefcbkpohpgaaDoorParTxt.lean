/-
  The texts of numbers and amounts, plain: their kinds, and what they say.
-/
import Derived.Test.YtlkefcbkpohpgaaDoorLexCents
import Derived.Test.YtlkefcbkpohpgaaDoorLexMath5
import Derived.Lib.ItoaNum
namespace Go.Proofs.YtlkefcbkpohpgaaDoor
set_option maxRecDepth 100000

theorem tdig (k : Nat) (h : k < 10) : digB (UInt8.ofNat (48 + k)) = true ∧ (UInt8.ofNat (48 + k)).toNat = 48 + k := by
  have e : (UInt8.ofNat (48 + k)).toNat = 48 + k := by simp; omega
  exact ⟨by unfold digB; rw [e]; simp; omega, e⟩
/-- the digits of a number: how many, that they are digits, what they say, and that no 0 stands ahead -/
theorem dec_all : ∀ (n : Nat), (∀ x ∈ Lib.decDigits n, digB x = true) ∧ cents (Lib.decDigits n) = n ∧ (∃ c r, Lib.decDigits n = c :: r ∧ (n ≠ 0 → c ≠ 48) ∧ (10 ≤ n ∨ r = [])) := by
  intro n
  induction n using Nat.strongRecOn with
  | _ n ih =>
    rw [Lib.decDigits]
    split
    · next h =>
      obtain ⟨h1, h2⟩ := tdig n h
      refine ⟨fun x hx => ?_, ?_, _, _, rfl, fun h0 he => ?_, .inr rfl⟩
      · rw [List.mem_singleton.1 hx]; exact h1
      · have := cents_snoc [] (UInt8.ofNat (48 + n))
        rw [List.nil_append, if_pos h1, h2] at this
        rw [this]; simp [cents]
      · rw [he] at h2
        have : (48 : UInt8).toNat = 48 := rfl
        omega
    · next h =>
      obtain ⟨g1, g2, c, r, g3, g4, g5⟩ := ih (n / 10) (by omega)
      obtain ⟨h1, h2⟩ := tdig (n % 10) (by omega)
      refine ⟨fun x hx => ?_, ?_, c, r ++ [UInt8.ofNat (48 + n % 10)], by rw [g3]; rfl, fun _ => g4 (by omega), .inl (by omega)⟩
      · rcases List.mem_append.1 hx with hx | hx
        · exact g1 x hx
        · rw [List.mem_singleton.1 hx]; exact h1
      · rw [cents_snoc, if_pos h1, h2, g2]; omega
theorem dec_size : ∀ (k u : Nat), u < 10 ^ (k + 1) → (Lib.decDigits u).length ≤ k + 1 := by
  intro k
  induction k with
  | zero => intro u h; rw [Lib.decDigits, dif_pos (by omega)]; simp
  | succ k ih =>
    intro u h
    rw [Lib.decDigits]
    split
    · simp
    · rw [List.length_append]
      have := ih (u / 10) (by rw [Nat.pow_succ] at h; omega)
      simp; omega
theorem dig_not {c : UInt8} (h : digB c = true) : letB c = false ∧ sgnB c = false ∧ c ≠ 46 := by
  have h1 : 48 ≤ c.toNat ∧ c.toNat ≤ 57 := by simpa [digB] using h
  refine ⟨by simp [letB]; omega, ?_, by rintro rfl; revert h1; decide⟩
  unfold sgnB
  rw [Bool.eq_false_iff]
  intro hs
  have : c ∈ signs := by simpa using hs
  simp only [signs, List.mem_cons, List.not_mem_nil, or_false] at this
  rcases this with rfl | rfl | rfl | rfl | rfl | rfl | rfl | rfl | rfl | rfl | rfl | rfl | rfl <;> revert h1 <;> decide
theorem ndig_all {s : List UInt8} (h : ∀ x ∈ s, digB x = true) : nDig s = s.length := by
  unfold nDig
  rw [show s.takeWhile digB = s by
    have := tw_gap (p := digB) (a := s) (b := []) h (by intro c r e; cases e)
    simpa using this]
/-- the text of a number -/
theorem num_kind (n : Nat) (h : n ≤ 999999999) : kindF (Lib.decDigits n) = 2 ∧ cents (Lib.decDigits n) = n := by
  obtain ⟨g1, g2, c, r, g3, g4, g5⟩ := dec_all n
  have hl := dec_size 8 n (by omega)
  refine ⟨?_, g2⟩
  have hn := ndig_all g1
  rw [g3] at g1 hl hn ⊢
  obtain ⟨k1, k2, _⟩ := dig_not (g1 c (by simp))
  unfold kindF
  simp only
  rw [if_neg (by rw [k2]; simp), if_neg (by rw [k1]; simp), if_neg ?_, if_pos hn]
  rw [hn]
  rintro (h1 | h1 | ⟨h1, h2⟩)
  · simp at h1
  · omega
  · rcases g5 with g5 | g5
    · exact g4 (by omega) h2
    · subst g5; simp at h1
/-- the text of an amount -/
def monT (a : Nat) : List UInt8 := Lib.decDigits (a / 100) ++ [46, UInt8.ofNat (48 + a / 10 % 10), UInt8.ofNat (48 + a % 10)]
theorem mon_kind (a : Nat) (h : a ≤ 1000000000) : kindF (monT a) = 3 ∧ cents (monT a) = a := by
  obtain ⟨g1, g2, c, r, g3, g4, g5⟩ := dec_all (a / 100)
  have hl := dec_size 7 (a / 100) (by omega)
  obtain ⟨h1, h2⟩ := tdig (a / 10 % 10) (by omega)
  obtain ⟨h3, h4⟩ := tdig (a % 10) (by omega)
  have hc : cents (monT a) = a := by
    unfold monT
    rw [show ∀ A : List UInt8, A ++ [46, UInt8.ofNat (48 + a / 10 % 10), UInt8.ofNat (48 + a % 10)] = ((A ++ [46]) ++ [UInt8.ofNat (48 + a / 10 % 10)]) ++ [UInt8.ofNat (48 + a % 10)] from fun A => by simp,
      cents_snoc, if_pos h3, h4, cents_snoc, if_pos h1, h2, cents_snoc, if_neg (by decide), g2]
    omega
  refine ⟨?_, hc⟩
  have hn : nDig (monT a) = (Lib.decDigits (a / 100)).length := by
    unfold nDig monT
    rw [tw_gap g1 (by intro c r e; cases e; decide)]
  have hx : (monT a)[(Lib.decDigits (a / 100)).length]? = some 46 := by unfold monT; simp
  have hz : (monT a).length = (Lib.decDigits (a / 100)).length + 3 := by unfold monT; simp
  have hd : nDig ((monT a).drop ((Lib.decDigits (a / 100)).length + 1)) = 2 := by
    unfold monT
    rw [List.drop_append, List.drop_eq_nil_of_le (by omega), show (Lib.decDigits (a / 100)).length + 1 - (Lib.decDigits (a / 100)).length = 1 by omega]
    simp only [List.nil_append, List.drop_succ_cons, List.drop_zero]
    exact ndig_all (by intro x hx; simp only [List.mem_cons, List.not_mem_nil, or_false] at hx; rcases hx with rfl | rfl <;> assumption)
  obtain ⟨q, hq⟩ : ∃ q, monT a = c :: q := ⟨_, by unfold monT; rw [g3]; rfl⟩
  have k0 := g1 c (by rw [g3]; simp)
  obtain ⟨k1, k2, _⟩ := dig_not k0
  rw [hq] at hn hx hz hd hc ⊢
  have hp : 1 ≤ (Lib.decDigits (a / 100)).length := by rw [g3]; simp
  unfold kindF
  simp only
  rw [if_neg (by rw [k2]; simp), if_neg (by rw [k1]; simp), if_neg ?_, if_neg (by rw [hn, hz]; omega), if_neg ?_, if_neg (by rw [hc]; omega)]
  · rw [hn, hz, hx, hd]; simp
  · rw [hn]
    rintro (e1 | e1 | ⟨e1, e2⟩)
    · omega
    · omega
    · rcases g5 with g5 | g5
      · exact g4 (by omega) e2
      · subst g5; rw [g3] at e1; simp at e1
end Go.Proofs.YtlkefcbkpohpgaaDoor
