/-
  Opposite and greater amounts: rounding, conversions.
-/
import Derived.Test.YtnjaedbekogeaaaDoorMonRate
namespace Go.Proofs.YtnjaedbekogeaaaDoor
open Go.RowKit Go.Shelf
set_option maxRecDepth 100000

theorem rnd_uniq (m d q : Int) (hd : 1 ≤ d) (h1 : 2 * (q * d - m) ≤ d) (h2 : -d ≤ 2 * (q * d - m)) (h3 : 2 * (q * d - m) = d ∨ 2 * (q * d - m) = -d → q % 2 = 0) : q = rndF m d 3 := by
  obtain ⟨k1, k2, k3⟩ := rnd_near m d hd
  generalize rndF m d 3 = p at *
  have e : (q - p) * d = q * d - p * d := Int.sub_mul _ _ _
  have u1 : q - p < 2 := by
    refine Int.lt_of_mul_lt_mul_right (a := d) ?_ (by omega)
    omega
  have u2 : p - q < 2 := by
    refine Int.lt_of_mul_lt_mul_right (a := d) ?_ (by omega)
    have : (p - q) * d = p * d - q * d := Int.sub_mul _ _ _
    omega
  rcases (by omega : q - p = 0 ∨ q - p = 1 ∨ q - p = -1) with h | h | h
  · omega
  · rw [h] at e
    have := h3 (by omega)
    have := k3 (by omega)
    omega
  · rw [h] at e
    have := h3 (by omega)
    have := k3 (by omega)
    omega
theorem rnd_neg (m d : Int) (hd : 1 ≤ d) : rndF (-m) d 3 = -rndF m d 3 := by
  obtain ⟨k1, k2, k3⟩ := rnd_near m d hd
  refine (rnd_uniq (-m) d _ hd ?_ ?_ ?_).symm
  · rw [Int.neg_mul]; omega
  · rw [Int.neg_mul]; omega
  · intro h; rw [Int.neg_mul] at h
    have := k3 (by omega)
    omega
theorem rnd_mono (m m2 d : Int) (hd : 1 ≤ d) (h : m ≤ m2) : rndF m d 3 ≤ rndF m2 d 3 := by
  obtain ⟨k1, k2, _⟩ := rnd_near m d hd
  obtain ⟨j1, j2, _⟩ := rnd_near m2 d hd
  by_cases he : m = m2
  · rw [he]; exact Int.le_refl _
  · generalize rndF m d 3 = p at *
    generalize rndF m2 d 3 = q at *
    have e : (p - q) * d = p * d - q * d := Int.sub_mul _ _ _
    have : p - q < 1 := by
      refine Int.lt_of_mul_lt_mul_right (a := d) ?_ (by omega)
      omega
    omega
theorem wth_neg (n m : Int) : wthB (-n) m = wthB n m := by
  unfold wthB
  rw [Bool.eq_iff_iff, decide_eq_true_iff, decide_eq_true_iff]
  omega

theorem conv_neg (l : List Ex) (c k to : Int) : convF l (-c) k to = ((-(convF l c k to).1.1, (convF l c k to).1.2), (convF l c k to).2) := by
  unfold convF
  rw [wth_neg]
  split
  · next h =>
    have hv : vldX l = true := by simp only [Bool.and_eq_true] at h; exact h.1.1.1
    split
    · rfl
    · cases hr : rateOf l k to with
      | none => rfl
      | some x =>
        have hb := vld_bd (exB_vld (vldX_rate hv hr))
        simp only [Int.neg_mul, rnd_neg _ _ hb.2.2.1, wth_neg]
        split <;> rfl
  · rfl
/-- a greater amount, beside one that is converted -/
theorem conv_more (l : List Ex) (c c2 k to : Int) (h : c ≤ c2) (p q : Int) (hp : convF l c k to = ((p, q), 0)) :
    (∃ y, convF l c2 k to = ((y, q), 0) ∧ p ≤ y) ∨ (wthB c2 1000000000 = false ∧ convF l c2 k to = ((0, 0), 1)) ∨ convF l c2 k to = ((0, 0), 3) := by
  cases hc2 : wthB c2 1000000000 with
  | false => exact .inr (.inl ⟨rfl, by unfold convF; rw [hc2]; simp⟩)
  | true =>
    rcases conv_cases l c k to with ⟨e, he, hq⟩ | ⟨he, hc, hq⟩ | ⟨he, x, hr, hx0, hc, hy, hq⟩
    · rw [hp] at hq; cases hq; exact absurd rfl he
    · rw [hp] at hq
      simp only [Prod.mk.injEq, and_true] at hq
      obtain ⟨rfl, rfl⟩ := hq
      refine .inl ⟨c2, ?_, h⟩
      have hcond : (vldX l && wthB p 1000000000 && cur q && cur to) = true := by
        cases hb : (vldX l && wthB p 1000000000 && cur q && cur to) with
        | true => rfl
        | false => unfold convF at hp; rw [hb] at hp; simp at hp
      unfold convF
      rw [hc] at hcond
      rw [hc2, if_pos hcond, if_pos he]
    · rw [hp] at hq
      simp only [Prod.mk.injEq, and_true] at hq
      obtain ⟨rfl, rfl⟩ := hq
      have hcond : (vldX l && wthB c 1000000000 && cur k && cur q) = true := by
        cases hb : (vldX l && wthB c 1000000000 && cur k && cur q) with
        | true => rfl
        | false => unfold convF at hp; rw [hb] at hp; simp at hp
      rw [hc] at hcond
      have hb := vld_bd (exB_vld hx0)
      have hm := rnd_mono (c * x.n) (c2 * x.n) x.d hb.2.2.1 (Int.mul_le_mul_of_nonneg_right h (Int.le_of_lt (exB_pos hx0)))
      have e2 : convF l c2 k q = if wthB (rndF (c2 * x.n) x.d 3) 1000000000 then ((rndF (c2 * x.n) x.d 3, q), 0) else ((0, 0), 3) := by
        unfold convF
        rw [hc2, if_pos hcond, if_neg he, hr]
      rw [e2]
      split
      · exact .inl ⟨_, rfl, hm⟩
      · exact .inr (.inr rfl)
end Go.Proofs.YtnjaedbekogeaaaDoor
