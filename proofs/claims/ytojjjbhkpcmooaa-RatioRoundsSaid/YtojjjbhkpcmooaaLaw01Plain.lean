/-
  Plain arithmetic: rounding, as the laws of layer 1 ask for it. No program in sight.
-/
import Derived.Test.YtojjjbhkpcmooaaRatioPlain
namespace Go.Proofs.Ytojjjbhkpcmooaa
open Go.RowKit

theorem rnd_neg3 (n d : Int) (hd : 1 ≤ d) : rndF (-n) d 3 = -(rndF n d 3) := by
  obtain ⟨h1, h2⟩ := div_bd n d hd
  obtain ⟨g1, g2⟩ := div_bd (-n) d hd
  have hq : -((-n) / d) = if n - n / d * d > 0 then n / d + 1 else n / d := neg_floor n d hd
  have hp : (-n) / d * d = -(-((-n) / d) * d) := by rw [Int.neg_mul, Int.neg_neg]
  unfold rndF
  simp only [show ¬ ((3 : Int) = 2) from by omega, false_and, true_and, false_or]
  generalize hqq : n / d = q at *
  generalize hpp : (-n) / d = p at *
  split at hq
  · have e : p = -(q + 1) := by omega
    subst e
    have e2 : -(q + 1) * d = -(q * d) - d := by rw [Int.neg_mul, Int.add_mul, Int.one_mul]; omega
    rw [e2]
    generalize q * d = m at *
    split <;> split <;> omega
  · have e : p = -q := by omega
    subst e
    have e2 : -q * d = -(q * d) := by rw [Int.neg_mul]
    rw [e2]
    generalize q * d = m at *
    split <;> split <;> omega

theorem rnd_neg1 (n d : Int) (hd : 1 ≤ d) : rndF (-n) d 1 = -(rndF n d 2) := by
  have := rnd_up n d hd; omega
theorem rnd_neg2 (n d : Int) (hd : 1 ≤ d) : rndF (-n) d 2 = -(rndF n d 1) := by
  have := rnd_up (-n) d hd; rw [Int.neg_neg] at this; exact this

/-- All that RatioRounds asks of the three values. -/
theorem rounds_fact (n d : Int) (hv : vldB n d = true) : ∃ x1 x2 x3 : Int, rndF n d 1 = x1 ∧ rndF n d 2 = x2 ∧ rndF n d 3 = x3 ∧ rndF (-n) d 1 = -x2 ∧ rndF (-n) d 2 = -x1 ∧ rndF (-n) d 3 = -x3 ∧
    (-1000000000 ≤ x1 ∧ x1 ≤ 1000000000 ∧ x1 ≤ x2 ∧ x2 ≤ x1 + 1) ∧ (n < x1 * d + d ∧ x2 * d < n + d) ∧ x1 * d ≤ n ∧ n ≤ x2 * d ∧ (x3 = x1 ∨ x3 = x2) ∧ (d = 1 → x1 = x2) ∧ (d ≠ 1 → x2 = x1 + 1 ∧ 2 * (n - x3 * d) ≤ d ∧ -d ≤ 2 * (n - x3 * d) ∧ (2 * (n - x3 * d) = d ∨ 2 * (n - x3 * d) = -d → x3 % 2 = 0)) := by
  obtain ⟨hn1, hn2, hd, hd2⟩ := vld_bd hv
  have hg := vld_gcd hv
  obtain ⟨h1, h2⟩ := div_bd n d hd
  have hdl := div_le n d hd 1000000000 hn1 hn2 (by omega)
  refine ⟨_, _, _, rfl, rfl, rfl, rnd_neg1 n d hd, rnd_neg2 n d hd, rnd_neg3 n d hd, ?_⟩
  have e1 : rndF n d 1 = n / d := by simp [rndF]
  have e2 : rndF n d 2 = if n - n / d * d > 0 then n / d + 1 else n / d := by simp [rndF]
  have e3 : rndF n d 3 = if (n - n / d * d > d - (n - n / d * d) ∨ n - n / d * d = d - (n - n / d * d) ∧ n / d % 2 ≠ 0) then n / d + 1 else n / d := by simp [rndF]
  have hr : d ≠ 1 → n - n / d * d ≠ 0 := by
    intro hd1 h0
    have hdv : d ∣ n := ⟨n / d, by rw [Int.mul_comm]; omega⟩
    have h3 : d.natAbs ∣ Int.gcd n d := Nat.dvd_gcd (Int.natAbs_dvd_natAbs.2 hdv) (Nat.dvd_refl _)
    rw [hg] at h3
    have := Nat.le_of_dvd (by omega) h3
    omega
  have f3 : (rndF n d 3 = n / d ∧ 2 * (n - n / d * d) ≤ d ∧ (2 * (n - n / d * d) = d → n / d % 2 = 0)) ∨ (rndF n d 3 = n / d + 1 ∧ 0 < n - n / d * d ∧ d ≤ 2 * (n - n / d * d) ∧ (2 * (n - n / d * d) = d → (n / d + 1) % 2 = 0)) := by
    rw [e3]
    generalize n / d = q at *
    generalize q * d = m at *
    by_cases c : n - m > d - (n - m) ∨ n - m = d - (n - m) ∧ q % 2 ≠ 0
    · right; rw [if_pos c]; refine ⟨rfl, ?_, ?_, ?_⟩ <;> omega
    · left; rw [if_neg c]; refine ⟨rfl, ?_, ?_⟩ <;> omega
  have f2 : (rndF n d 2 = n / d ∧ n - n / d * d = 0) ∨ (rndF n d 2 = n / d + 1 ∧ 0 < n - n / d * d) := by
    rw [e2]
    by_cases c : n - n / d * d > 0
    · right; rw [if_pos c]; exact ⟨rfl, c⟩
    · left; rw [if_neg c]; exact ⟨rfl, by omega⟩
  rw [e1]
  generalize rndF n d 2 = x2 at *
  generalize rndF n d 3 = x3 at *
  clear e1 e2 e3
  generalize n / d = q at *
  have em : (q + 1) * d = q * d + d := by rw [Int.add_mul, Int.one_mul]
  rcases f2 with ⟨rfl, f2⟩ | ⟨rfl, f2⟩
  · rcases f3 with ⟨rfl, f3, f4⟩ | ⟨rfl, f3, f4, f5⟩
    · refine ⟨by omega, by omega, h1, by omega, Or.inl rfl, fun _ => rfl, fun hd1 => absurd f2 (hr hd1)⟩
    · omega
  · rw [em]
    rcases f3 with ⟨rfl, f3, f4⟩ | ⟨rfl, f3, f4, f5⟩
    · refine ⟨by omega, by omega, h1, by omega, Or.inl rfl, fun _ => by omega, fun hd1 => ⟨rfl, by omega, by omega, by omega⟩⟩
    · rw [em]
      refine ⟨by omega, by omega, h1, by omega, Or.inr rfl, fun _ => by omega, fun hd1 => ⟨rfl, by omega, by omega, by omega⟩⟩
theorem vld_neg {n d : Int} (h : vldB n d = true) : vldB (-n) d = true := by
  unfold vldB fitB at h ⊢; simp at h ⊢; exact ⟨by omega, h.2⟩

end Go.Proofs.Ytojjjbhkpcmooaa
