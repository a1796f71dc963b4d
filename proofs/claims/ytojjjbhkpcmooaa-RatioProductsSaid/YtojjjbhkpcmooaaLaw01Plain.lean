/-
  Plain arithmetic: rounding, as the laws of layer 1 ask for it. No program in sight.
-/
import Derived.Test.YtojjjbhkpcmooaaRatioPlain
namespace Go.Proofs.Ytojjjbhkpcmooaa
open Go.RowKit

theorem rnd_neg3 (n d : Int) (hd : 1 ≤ d) : rndF (-n) d 3 = -(rndF n d 3) := by
  obtain ⟨h1, h2⟩ := div_bd n d hd
  obtain ⟨g1, g2⟩ := div_bd (-n) d hd
  have hq : -((-n) / d) = if n - n / d * d > 0 then n / d + 1 else n / d := neg_floor n d hd
  have hp : (-n) / d * d = -(-((-n) / d) * d) := by rw [Int.neg_mul, Int.neg_neg]
  unfold rndF
  simp only [show ¬ ((3 : Int) = 2) from by omega, false_and, true_and, false_or]
  generalize hqq : n / d = q at *
  generalize hpp : (-n) / d = p at *
  split at hq
  · have e : p = -(q + 1) := by omega
    subst e
    have e2 : -(q + 1) * d = -(q * d) - d := by rw [Int.neg_mul, Int.add_mul, Int.one_mul]; omega
    rw [e2]
    generalize q * d = m at *
    split <;> split <;> omega
  · have e : p = -q := by omega
    subst e
    have e2 : -q * d = -(q * d) := by rw [Int.neg_mul]
    rw [e2]
    generalize q * d = m at *
    split <;> split <;> omega

theorem rnd_neg1 (n d : Int) (hd : 1 ≤ d) : rndF (-n) d 1 = -(rndF n d 2) := by
  have := rnd_up n d hd; omega
theorem rnd_neg2 (n d : Int) (hd : 1 ≤ d) : rndF (-n) d 2 = -(rndF n d 1) := by
  have := rnd_up (-n) d hd; rw [Int.neg_neg] at this; exact this

/-- All that RatioRounds asks of the three values. -/
theorem rounds_fact (n d : Int) (hv : vldB n d = true) : ∃ x1 x2 x3 : Int, rndF n d 1 = x1 ∧ rndF n d 2 = x2 ∧ rndF n d 3 = x3 ∧ rndF (-n) d 1 = -x2 ∧ rndF (-n) d 2 = -x1 ∧ rndF (-n) d 3 = -x3 ∧
    (-1000000000 ≤ x1 ∧ x1 ≤ 1000000000 ∧ x1 ≤ x2 ∧ x2 ≤ x1 + 1) ∧ (n < x1 * d + d ∧ x2 * d < n + d) ∧ x1 * d ≤ n ∧ n ≤ x2 * d ∧ (x3 = x1 ∨ x3 = x2) ∧ (d = 1 → x1 = x2) ∧ (d ≠ 1 → x2 = x1 + 1 ∧ 2 * (n - x3 * d) ≤ d ∧ -d ≤ 2 * (n - x3 * d) ∧ (2 * (n - x3 * d) = d ∨ 2 * (n - x3 * d) = -d → x3 % 2 = 0)) := by
  obtain ⟨hn1, hn2, hd, hd2⟩ := vld_bd hv
  have hg := vld_gcd hv
  obtain ⟨h1, h2⟩ := div_bd n d hd
  have hdl := div_le n d hd 1000000000 hn1 hn2 (by omega)
  refine ⟨_, _, _, rfl, rfl, rfl, rnd_neg1 n d hd, rnd_neg2 n d hd, rnd_neg3 n d hd, ?_⟩
  have e1 : rndF n d 1 = n / d := by simp [rndF]
  have e2 : rndF n d 2 = if n - n / d * d > 0 then n / d + 1 else n / d := by simp [rndF]
  have e3 : rndF n d 3 = if (n - n / d * d > d - (n - n / d * d) ∨ n - n / d * d = d - (n - n / d * d) ∧ n / d % 2 ≠ 0) then n / d + 1 else n / d := by simp [rndF]
  have hr : d ≠ 1 → n - n / d * d ≠ 0 := by
    intro hd1 h0
    have hdv : d ∣ n := ⟨n / d, by rw [Int.mul_comm]; omega⟩
    have h3 : d.natAbs ∣ Int.gcd n d := Nat.dvd_gcd (Int.natAbs_dvd_natAbs.2 hdv) (Nat.dvd_refl _)
    rw [hg] at h3
    have := Nat.le_of_dvd (by omega) h3
    omega
  have f3 : (rndF n d 3 = n / d ∧ 2 * (n - n / d * d) ≤ d ∧ (2 * (n - n / d * d) = d → n / d % 2 = 0)) ∨ (rndF n d 3 = n / d + 1 ∧ 0 < n - n / d * d ∧ d ≤ 2 * (n - n / d * d) ∧ (2 * (n - n / d * d) = d → (n / d + 1) % 2 = 0)) := by
    rw [e3]
    generalize n / d = q at *
    generalize q * d = m at *
    by_cases c : n - m > d - (n - m) ∨ n - m = d - (n - m) ∧ q % 2 ≠ 0
    · right; rw [if_pos c]; refine ⟨rfl, ?_, ?_, ?_⟩ <;> omega
    · left; rw [if_neg c]; refine ⟨rfl, ?_, ?_⟩ <;> omega
  have f2 : (rndF n d 2 = n / d ∧ n - n / d * d = 0) ∨ (rndF n d 2 = n / d + 1 ∧ 0 < n - n / d * d) := by
    rw [e2]
    by_cases c : n - n / d * d > 0
    · right; rw [if_pos c]; exact ⟨rfl, c⟩
    · left; rw [if_neg c]; exact ⟨rfl, by omega⟩
  rw [e1]
  generalize rndF n d 2 = x2 at *
  generalize rndF n d 3 = x3 at *
  clear e1 e2 e3
  generalize n / d = q at *
  have em : (q + 1) * d = q * d + d := by rw [Int.add_mul, Int.one_mul]
  rcases f2 with ⟨rfl, f2⟩ | ⟨rfl, f2⟩
  · rcases f3 with ⟨rfl, f3, f4⟩ | ⟨rfl, f3, f4, f5⟩
    · refine ⟨by omega, by omega, h1, by omega, Or.inl rfl, fun _ => rfl, fun hd1 => absurd f2 (hr hd1)⟩
    · omega
  · rw [em]
    rcases f3 with ⟨rfl, f3, f4⟩ | ⟨rfl, f3, f4, f5⟩
    · refine ⟨by omega, by omega, h1, by omega, Or.inl rfl, fun _ => by omega, fun hd1 => ⟨rfl, by omega, by omega, by omega⟩⟩
    · rw [em]
      refine ⟨by omega, by omega, h1, by omega, Or.inr rfl, fun _ => by omega, fun hd1 => ⟨rfl, by omega, by omega, by omega⟩⟩
theorem vld_neg {n d : Int} (h : vldB n d = true) : vldB (-n) d = true := by
  unfold vldB fitB at h ⊢; simp at h ⊢; exact ⟨by omega, h.2⟩

theorem cross_le {a1 a2 b1 b2 c1 c2 : Int} (ha : 1 ≤ a2) (hb : 1 ≤ b2) (hc : 1 ≤ c2) (h1 : a1 * b2 ≤ b1 * a2) (h2 : b1 * c2 ≤ c1 * b2) : a1 * c2 ≤ c1 * a2 := by
  have e1 : a1 * b2 * c2 ≤ b1 * a2 * c2 := Int.mul_le_mul_of_nonneg_right h1 (by omega)
  have e2 : b1 * c2 * a2 ≤ c1 * b2 * a2 := Int.mul_le_mul_of_nonneg_right h2 (by omega)
  refine Int.le_of_mul_le_mul_right (a := b2) ?_ (by omega)
  have f1 : a1 * c2 * b2 = a1 * b2 * c2 := by ac_rfl
  have f2 : c1 * a2 * b2 = c1 * b2 * a2 := by ac_rfl
  have f3 : b1 * a2 * c2 = b1 * c2 * a2 := by ac_rfl
  omega
theorem cross_lt1 {a1 a2 b1 b2 c1 c2 : Int} (ha : 1 ≤ a2) (hb : 1 ≤ b2) (hc : 1 ≤ c2) (h1 : a1 * b2 < b1 * a2) (h2 : b1 * c2 ≤ c1 * b2) : a1 * c2 < c1 * a2 := by
  have e1 : a1 * b2 * c2 < b1 * a2 * c2 := Int.mul_lt_mul_of_pos_right h1 (by omega)
  have e2 : b1 * c2 * a2 ≤ c1 * b2 * a2 := Int.mul_le_mul_of_nonneg_right h2 (by omega)
  refine Int.lt_of_mul_lt_mul_right (a := b2) ?_ (by omega)
  have f1 : a1 * c2 * b2 = a1 * b2 * c2 := by ac_rfl
  have f2 : c1 * a2 * b2 = c1 * b2 * a2 := by ac_rfl
  have f3 : b1 * a2 * c2 = b1 * c2 * a2 := by ac_rfl
  omega
theorem cross_lt2 {a1 a2 b1 b2 c1 c2 : Int} (ha : 1 ≤ a2) (hb : 1 ≤ b2) (hc : 1 ≤ c2) (h1 : a1 * b2 ≤ b1 * a2) (h2 : b1 * c2 < c1 * b2) : a1 * c2 < c1 * a2 := by
  have e1 : a1 * b2 * c2 ≤ b1 * a2 * c2 := Int.mul_le_mul_of_nonneg_right h1 (by omega)
  have e2 : b1 * c2 * a2 < c1 * b2 * a2 := Int.mul_lt_mul_of_pos_right h2 (by omega)
  refine Int.lt_of_mul_lt_mul_right (a := b2) ?_ (by omega)
  have f1 : a1 * c2 * b2 = a1 * b2 * c2 := by ac_rfl
  have f2 : c1 * a2 * b2 = c1 * b2 * a2 := by ac_rfl
  have f3 : b1 * a2 * c2 = b1 * c2 * a2 := by ac_rfl
  omega
theorem cmp_val {a1 a2 b1 b2 : Int} (ha : vldB a1 a2 = true) (hb : vldB b1 b2 = true) :
    (a1 * b2 < b1 * a2 ∧ cmpF a1 a2 b1 b2 = (-1, 0)) ∨ (a1 * b2 = b1 * a2 ∧ cmpF a1 a2 b1 b2 = (0, 0)) ∨ (b1 * a2 < a1 * b2 ∧ cmpF a1 a2 b1 b2 = (1, 0)) := by
  unfold cmpF
  rw [ha, hb]
  simp only [Bool.and_self, if_true]
  by_cases h1 : a1 * b2 < b1 * a2
  · left; exact ⟨h1, by rw [if_pos h1]⟩
  · by_cases h2 : a1 * b2 > b1 * a2
    · right; right; exact ⟨h2, by rw [if_neg h1, if_pos h2]⟩
    · right; left; exact ⟨by omega, by rw [if_neg h1, if_neg h2]⟩
theorem tdiv_sign (n g : Int) (hg : 0 < g) (hd : g ∣ n) : (n.tdiv g < 0 ↔ n < 0) ∧ (0 < n.tdiv g ↔ 0 < n) := by
  obtain ⟨k, rfl⟩ := hd
  rw [Int.mul_tdiv_cancel_left _ (by omega)]
  constructor
  · constructor
    · intro h; exact Int.mul_neg_of_pos_of_neg hg h
    · intro h
      refine Int.lt_of_mul_lt_mul_left (a := g) ?_ (by omega)
      rw [Int.mul_zero]; exact h
  · constructor
    · intro h; exact Int.mul_pos hg h
    · intro h
      refine Int.lt_of_mul_lt_mul_left (a := g) ?_ (by omega)
      rw [Int.mul_zero]; exact h
/-- What settle gives has the sign of the numerator, where the denominator is positive. -/
theorem setl_sign (n d : Int) (hd : 0 < d) : setl n d = (0, 0, 3) ∨ ∃ x y, setl n d = (x, y, 0) ∧ (x < 0 ↔ n < 0) ∧ (0 < x ↔ 0 < n) := by
  unfold setl
  split
  · right
    refine ⟨_, _, rfl, ?_⟩
    unfold redN
    rw [common_eq n d (by omega), if_neg (by omega)]
    exact tdiv_sign _ _ (by have := gcd_pos n d (by omega); omega) (Int.gcd_dvd_left ..)
  · left; rfl
theorem sub_sign {a1 a2 b1 b2 : Int} (ha : vldB a1 a2 = true) (hb : vldB b1 b2 = true) :
    subF a1 a2 b1 b2 = (0, 0, 3) ∨ ∃ x y, subF a1 a2 b1 b2 = (x, y, 0) ∧ (x < 0 ↔ a1 * b2 < b1 * a2) ∧ (0 < x ↔ b1 * a2 < a1 * b2) := by
  obtain ⟨_, _, h1, _⟩ := vld_bd ha
  obtain ⟨_, _, h2, _⟩ := vld_bd hb
  have hp : 0 < a2 * b2 := Int.mul_pos (by omega) (by omega)
  have e : subF a1 a2 b1 b2 = setl (a1 * b2 - b1 * a2) (a2 * b2) := by unfold subF opF; rw [ha, hb]; rfl
  rw [e]
  rcases setl_sign (a1 * b2 - b1 * a2) (a2 * b2) hp with h | ⟨x, y, h, s1, s2⟩
  · left; exact h
  · right; exact ⟨x, y, h, by omega, by omega⟩
theorem neq_of_cross {a1 a2 b1 b2 : Int} (h : a1 * b2 ≠ b1 * a2) : (a1 == b1 && a2 == b2) = false := by
  cases q : (a1 == b1 && a2 == b2) with
  | false => rfl
  | true =>
    simp at q
    obtain ⟨rfl, rfl⟩ := q
    exact absurd rfl h
theorem red_rel (n d : Int) (hd : d ≠ 0) : redN n d * d = redD n d * n ∧ Int.gcd (redN n d) (redD n d) = 1 := by
  have hp := gcd_pos n d hd
  have h1 : (Int.gcd n d : Int) ∣ n := Int.gcd_dvd_left ..
  have h2 : (Int.gcd n d : Int) ∣ d := Int.gcd_dvd_right ..
  have hc : Nat.Coprime (n.natAbs / Int.gcd n d) (d.natAbs / Int.gcd n d) := Nat.coprime_div_gcd_div_gcd hp
  have e1 : (redN n d).natAbs = n.natAbs / Int.gcd n d := by
    unfold redN; rw [Int.natAbs_tdiv, common_eq n d hd]; split <;> simp <;> rfl
  have e2 : (redD n d).natAbs = d.natAbs / Int.gcd n d := by
    unfold redD; rw [Int.natAbs_tdiv, common_eq n d hd]; split <;> simp <;> rfl
  refine ⟨?_, by unfold Int.gcd; rw [e1, e2]; exact hc⟩
  unfold redN redD
  rw [common_eq n d hd]
  generalize hg : (Int.gcd n d : Int) = g at *
  have hg0 : 0 < g := by omega
  obtain ⟨k, rfl⟩ := h1
  obtain ⟨m, rfl⟩ := h2
  split
  · rw [Int.tdiv_neg, Int.tdiv_neg, Int.mul_tdiv_cancel_left _ (by omega), Int.mul_tdiv_cancel_left _ (by omega)]; grind
  · rw [Int.mul_tdiv_cancel_left _ (by omega), Int.mul_tdiv_cancel_left _ (by omega)]; grind
theorem red_pos (n d : Int) (hd : d ≠ 0) : 1 ≤ redD n d := by
  have hp := gcd_pos n d hd
  have h2 : (Int.gcd n d : Int) ∣ d := Int.gcd_dvd_right ..
  unfold redD
  rw [common_eq n d hd]
  generalize hg : (Int.gcd n d : Int) = g at *
  have hg0 : 0 < g := by omega
  obtain ⟨m, rfl⟩ := h2
  split
  · rename_i h
    rw [Int.tdiv_neg, Int.mul_tdiv_cancel_left _ (by omega)]
    have : m < 0 := by
      refine Int.lt_of_mul_lt_mul_left (a := g) ?_ (by omega)
      rw [Int.mul_zero]; exact h
    omega
  · rename_i h
    rw [Int.mul_tdiv_cancel_left _ (by omega)]
    have : 0 < m := by
      refine Int.lt_of_mul_lt_mul_left (a := g) ?_ (by omega)
      rw [Int.mul_zero]; omega
    omega
/-- What settle gives is a valid ratio, and the same number. -/
theorem setl_is {n d x y : Int} (hd : d ≠ 0) (h : setl n d = (x, y, 0)) : vldB x y = true ∧ x * d = y * n := by
  unfold setl at h
  split at h
  · rename_i hf
    simp only [Prod.mk.injEq] at h
    obtain ⟨rfl, rfl, _⟩ := h
    have hr := red_rel n d hd
    exact ⟨by unfold vldB; rw [hf, hr.2]; rfl, hr.1⟩
  · simp at h
/-- A valid ratio that is the same number is what settle gives. -/
theorem setl_of {n d x y : Int} (hd : d ≠ 0) (hv : vldB x y = true) (h : x * d = y * n) : setl n d = (x, y, 0) := by
  obtain ⟨h1, h2⟩ := red_rel n d hd
  have hp := red_pos n d hd
  have hy := (vld_bd hv).2.2.1
  have hc : redN n d * y = x * redD n d := by
    have : (redN n d * y) * d = (x * redD n d) * d := by grind
    exact Int.eq_of_mul_eq_mul_right hd this
  obtain ⟨e1, e2⟩ := rat_eq (redN n d) (redD n d) x y hp hy h2 (vld_gcd hv) hc
  unfold setl
  rw [e1, e2]
  have hf : fitB x y = true := by unfold vldB at hv; simp at hv; exact hv.1
  rw [if_pos hf]
theorem setl_or (n d : Int) : (∃ x y, setl n d = (x, y, 0)) ∨ setl n d = (0, 0, 3) := by
  unfold setl; split
  · left; exact ⟨_, _, rfl⟩
  · right; rfl
/-- The three ways an operation ends. -/
theorem opF_cases (a b c d n m : Int) : (opF a b c d n m = (0, 0, 1) ∧ (vldB a b && vldB c d) = false) ∨ (vldB a b = true ∧ vldB c d = true ∧ (opF a b c d n m = (0, 0, 3) ∨ ∃ x y, opF a b c d n m = (x, y, 0) ∧ setl n m = (x, y, 0))) := by
  unfold opF
  cases h : (vldB a b && vldB c d) with
  | false => left; exact ⟨rfl, rfl⟩
  | true =>
    have ⟨h1, h2⟩ : vldB a b = true ∧ vldB c d = true := by simpa using h
    right
    refine ⟨h1, h2, ?_⟩
    rcases setl_or n m with ⟨x, y, h⟩ | h
    · right; exact ⟨x, y, by simpa using h, h⟩
    · left; simpa using h
theorem opF_ok {a b c d n m : Int} (h1 : vldB a b = true) (h2 : vldB c d = true) : opF a b c d n m = setl n m := by unfold opF; rw [h1, h2]; rfl
theorem den_ne {a b c d : Int} (h1 : vldB a b = true) (h2 : vldB c d = true) : b * d ≠ 0 := by
  have := (vld_bd h1).2.2.1; have := (vld_bd h2).2.2.1
  exact Int.mul_ne_zero (by omega) (by omega)
theorem add_comm' (a b c d : Int) : addF a b c d = addF c d a b := by
  unfold addF opF
  rw [Bool.and_comm, Int.mul_comm b d, Int.add_comm]
theorem mul_comm' (a b c d : Int) : mulF a b c d = mulF c d a b := by
  unfold mulF opF
  rw [Bool.and_comm, Int.mul_comm b d, Int.mul_comm a c]
/-- All that RatioSums asks. -/
theorem sums_back {a1 a2 b1 b2 x1 x2 : Int} (ha : vldB a1 a2 = true) (hb : vldB b1 b2 = true) (h : addF a1 a2 b1 b2 = (x1, x2, 0)) : subF x1 x2 b1 b2 = (a1, a2, 0) := by
  unfold addF at h; rw [opF_ok ha hb] at h
  obtain ⟨hx, e⟩ := setl_is (den_ne ha hb) h
  unfold subF; rw [opF_ok hx hb]
  exact setl_of (den_ne hx hb) ha (by grind)
theorem sums_three {a1 a2 b1 b2 c1 c2 x1 x2 l1 l2 z1 z2 : Int} (ha : vldB a1 a2 = true) (hb : vldB b1 b2 = true) (h : addF a1 a2 b1 b2 = (x1, x2, 0)) (hl : addF x1 x2 c1 c2 = (l1, l2, 0)) (hz : addF b1 b2 c1 c2 = (z1, z2, 0)) : addF a1 a2 z1 z2 = (l1, l2, 0) := by
  have hc : vldB c1 c2 = true := by
    rcases opF_cases b1 b2 c1 c2 (b1 * c2 + c1 * b2) (b2 * c2) with ⟨q, _⟩ | ⟨_, q, _⟩
    · unfold addF at hz; rw [q] at hz; simp at hz
    · exact q
  unfold addF at h hl hz ⊢
  rw [opF_ok ha hb] at h
  obtain ⟨hx, E1⟩ := setl_is (den_ne ha hb) h
  rw [opF_ok hx hc] at hl
  obtain ⟨hlv, E2⟩ := setl_is (den_ne hx hc) hl
  rw [opF_ok hb hc] at hz
  obtain ⟨hzv, E3⟩ := setl_is (den_ne hb hc) hz
  rw [opF_ok ha hzv]
  refine setl_of (den_ne ha hzv) hlv ?_
  have n1 := (vld_bd hx).2.2.1
  have n2 := (vld_bd hc).2.2.1
  have n3 := (vld_bd hb).2.2.1
  have h : (l1*(a2*z2)) * (x2*c2*b2) = (l2*(a1*z2+z1*a2)) * (x2*c2*b2) := by grind
  exact Int.eq_of_mul_eq_mul_right (Int.mul_ne_zero (Int.mul_ne_zero (by omega) (by omega)) (by omega)) h
/-- All that RatioProducts asks. -/
theorem prod_one {a1 a2 : Int} (ha : vldB a1 a2 = true) : mulF a1 a2 1 1 = (a1, a2, 0) := by
  have h1 : vldB 1 1 = true := by decide
  unfold mulF; rw [opF_ok ha h1]
  exact setl_of (den_ne ha h1) ha (by grind)
theorem prod_zero {a1 a2 : Int} (ha : vldB a1 a2 = true) : mulF a1 a2 0 1 = (0, 1, 0) := by
  have h1 : vldB 0 1 = true := by decide
  unfold mulF; rw [opF_ok ha h1]
  exact setl_of (den_ne ha h1) h1 (by grind)
theorem prod_sum {a1 a2 b1 b2 c1 c2 x1 x2 s1 s2 z1 z2 : Int} (ha : vldB a1 a2 = true) (hb : vldB b1 b2 = true) (hc : vldB c1 c2 = true) (hx : mulF a1 a2 b1 b2 = (x1, x2, 0)) (hs : addF b1 b2 c1 c2 = (s1, s2, 0)) (hz : mulF a1 a2 c1 c2 = (z1, z2, 0)) : mulF a1 a2 s1 s2 = addF x1 x2 z1 z2 := by
  unfold addF mulF at *
  rw [opF_ok ha hb] at hx
  obtain ⟨hxv, E1⟩ := setl_is (den_ne ha hb) hx
  rw [opF_ok hb hc] at hs
  obtain ⟨hsv, E2⟩ := setl_is (den_ne hb hc) hs
  rw [opF_ok ha hc] at hz
  obtain ⟨hzv, E3⟩ := setl_is (den_ne ha hc) hz
  rw [opF_ok ha hsv, opF_ok hxv hzv]
  have n1 := (vld_bd hb).2.2.1
  have n2 := (vld_bd hc).2.2.1
  have n3 := (vld_bd ha).2.2.1
  have key : (a1 * s1) * (x2 * z2) = (a2 * s2) * (x1 * z2 + z1 * x2) := by
    have h : ((a1 * s1) * (x2 * z2)) * (b2 * c2 * (a2 * b2) * (a2 * c2)) = ((a2 * s2) * (x1 * z2 + z1 * x2)) * (b2 * c2 * (a2 * b2) * (a2 * c2)) := by grind
    exact Int.eq_of_mul_eq_mul_right (Int.mul_ne_zero (Int.mul_ne_zero (Int.mul_ne_zero (by omega) (by omega)) (Int.mul_ne_zero (by omega) (by omega))) (Int.mul_ne_zero (by omega) (by omega))) h
  have d1 := den_ne ha hsv
  have d2 := den_ne hxv hzv
  rcases setl_or (a1 * s1) (a2 * s2) with ⟨p, q, h⟩ | h
  · rw [h]
    obtain ⟨hv, e⟩ := setl_is d1 h
    rw [setl_of d2 hv]
    have : (p * (x2 * z2)) * (a2 * s2) = (q * (x1 * z2 + z1 * x2)) * (a2 * s2) := by grind
    exact Int.eq_of_mul_eq_mul_right d1 this
  · rw [h]
    rcases setl_or (x1 * z2 + z1 * x2) (x2 * z2) with ⟨p, q, h'⟩ | h'
    · exfalso
      obtain ⟨hv, e⟩ := setl_is d2 h'
      have : setl (a1 * s1) (a2 * s2) = (p, q, 0) := by
        refine setl_of d1 hv ?_
        have : (p * (a2 * s2)) * (x2 * z2) = (q * (a1 * s1)) * (x2 * z2) := by grind
        exact Int.eq_of_mul_eq_mul_right d2 this
      rw [this] at h; simp at h
    · rw [h']
/-- All that RatioMakes asks. -/
theorem make_own {a1 a2 : Int} (ha : vldB a1 a2 = true) : mkF a1 a2 = (a1, a2, 0) := by
  obtain ⟨h1, h2, h3, h4⟩ := vld_bd ha
  have f1 : wthB a1 1000000000000000 = true := by simp [wthB]; omega
  have f2 : wthB a2 1000000000000000 = true := by simp [wthB]; omega
  unfold mkF
  rw [if_pos ⟨by omega, f1, f2⟩]
  exact setl_of (by omega) ha (by grind)
theorem make_factor (n d k : Int) (hd : d ≠ 0) (hk : k ≠ 0) : setl (n * k) (d * k) = setl n d := by
  have hdk : d * k ≠ 0 := Int.mul_ne_zero hd hk
  rcases setl_or n d with ⟨x, y, h⟩ | h
  · rw [h]
    obtain ⟨hv, e⟩ := setl_is hd h
    exact setl_of hdk hv (by grind)
  · rw [h]
    rcases setl_or (n * k) (d * k) with ⟨x, y, h'⟩ | h'
    · exfalso
      obtain ⟨hv, e⟩ := setl_is hdk h'
      have : setl n d = (x, y, 0) := by
        refine setl_of hd hv ?_
        have : (x * d) * k = (y * n) * k := by grind
        exact Int.eq_of_mul_eq_mul_right hk this
      rw [this] at h; simp at h
    · exact h'

end Go.Proofs.Ytojjjbhkpcmooaa
