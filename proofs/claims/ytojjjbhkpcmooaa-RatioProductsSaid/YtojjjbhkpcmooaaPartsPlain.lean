/-
  Plain arithmetic: parts of integers. No program in sight.
-/
import Derived.Test.YtojjjbhkpcmooaaLaw01Plain
namespace Go.Proofs.Ytojjjbhkpcmooaa
open Go.RowKit
/-- A part of a greater integer is not less, if the part is not negative. -/
theorem rnd_mono (n m d k : Int) (hd : 1 ≤ d) (h : n ≤ m) : rndF n d k ≤ rndF m d k := by
  have h1 := div_bd n d hd
  have h2 := div_bd m d hd
  have hq : n / d ≤ m / d := Int.ediv_le_ediv (by omega) h
  by_cases e : n / d = m / d
  · unfold rndF
    rw [e] at h1 ⊢
    generalize m / d = q at *
    generalize q * d = s at *
    by_cases hk2 : k = 2
    · subst hk2
      simp only [show ¬ ((2 : Int) = 3) from by omega, false_and, true_and, or_false]
      split <;> split <;> omega
    · by_cases hk3 : k = 3
      · subst hk3
        simp only [show ¬ ((3 : Int) = 2) from by omega, false_and, true_and, false_or]
        split <;> split <;> omega
      · simp [hk2, hk3]
  · have e1 : rndF n d k ≤ n / d + 1 := by unfold rndF; split <;> omega
    have e2 : m / d ≤ rndF m d k := by unfold rndF; split <;> omega
    omega
theorem mul_mono (n m a : Int) (h : n ≤ m) (ha : 0 ≤ a) : n * a ≤ m * a := Int.mul_le_mul_of_nonneg_right h ha
/-- The product with an integer as a ratio, rounded, is the part. -/
theorem part_mul {n a b p q k : Int} (hv : vldB a b = true) (hn : wthB n 1000000000 = true) (h : mulF n 1 a b = (p, q, 0)) : vldB p q = true ∧ rndF p q k = rndF (n * a) b k := by
  have h1 : vldB n 1 = true := by
    unfold vldB fitB; simp [wthB] at hn ⊢; exact hn
  unfold mulF at h
  rw [opF_ok h1 hv] at h
  obtain ⟨hx, e⟩ := setl_is (den_ne h1 hv) h
  refine ⟨hx, ?_⟩
  have hb := (vld_bd hv).2.2.1
  have hq := (vld_bd hx).2.2.1
  rw [Int.one_mul] at e
  -- p * b = q * (n * a)
  have d1 := div_bd p q hq
  have d2 := div_bd (n * a) b hb
  generalize hna : n * a = m at *
  have hdiv : p / q = m / b := by
    refine div_uniq hq ?_ ?_
    · -- (m / b) * q ≤ p
      refine Int.le_of_mul_le_mul_right (a := b) ?_ (by omega)
      have : m / b * q * b = m / b * b * q := by ac_rfl
      rw [this, e, Int.mul_comm q m]
      exact Int.mul_le_mul_of_nonneg_right d2.1 (by omega)
    · refine Int.lt_of_mul_lt_mul_right (a := b) ?_ (by omega)
      have : (m / b * q + q) * b = (m / b * b + b) * q := by grind
      rw [this, e, Int.mul_comm q m]
      exact Int.mul_lt_mul_of_pos_right d2.2 (by omega)
  -- the remainders are in proportion
  have hr : (p - p / q * q) * b = (m - m / b * b) * q := by rw [hdiv]; grind
  unfold rndF
  rw [hdiv] at hr ⊢
  generalize m / b = t at *
  generalize p - t * q = r at *
  generalize m - t * b = s at *
  have c1 : r > 0 ↔ s > 0 := by
    constructor
    · intro h
      refine Int.lt_of_mul_lt_mul_right (a := q) ?_ (by omega)
      rw [Int.zero_mul, ← hr]; exact Int.mul_pos h (by omega)
    · intro h
      refine Int.lt_of_mul_lt_mul_right (a := b) ?_ (by omega)
      rw [Int.zero_mul, hr]; exact Int.mul_pos h (by omega)
  have f : (2 * r - q) * b = (2 * s - b) * q := by grind
  have c2 : r > q - r ↔ s > b - s := by
    constructor
    · intro h
      have : 0 < 2 * s - b := by
        refine Int.lt_of_mul_lt_mul_right (a := q) ?_ (by omega)
        rw [Int.zero_mul, ← f]; exact Int.mul_pos (by omega) (by omega)
      omega
    · intro h
      have : 0 < 2 * r - q := by
        refine Int.lt_of_mul_lt_mul_right (a := b) ?_ (by omega)
        rw [Int.zero_mul, f]; exact Int.mul_pos (by omega) (by omega)
      omega
  have c3 : r = q - r ↔ s = b - s := by
    constructor
    · intro h
      have : (2 * s - b) * q = 0 := by rw [← f, show 2 * r - q = 0 from by omega, Int.zero_mul]
      rcases Int.mul_eq_zero.1 this with h | h <;> omega
    · intro h
      have : (2 * r - q) * b = 0 := by rw [f, show 2 * s - b = 0 from by omega, Int.zero_mul]
      rcases Int.mul_eq_zero.1 this with h | h <;> omega
  simp only [c1, c2, c3]
end Go.Proofs.Ytojjjbhkpcmooaa
