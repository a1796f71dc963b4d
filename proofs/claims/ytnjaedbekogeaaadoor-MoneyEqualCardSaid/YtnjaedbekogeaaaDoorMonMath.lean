/-
  The parts of an amount, plain: their sum, how near they are, equal weights, proportion.
-/
import Derived.Test.YtnjaedbekogeaaaDoorMonShare2
namespace Go.Proofs.YtnjaedbekogeaaaDoor
open Go.RowKit Go.Shelf
set_option maxRecDepth 100000

theorem quot_mono {a b T : Int} (hT : 1 ≤ T) (h : a ≤ b) : a / T ≤ b / T := Int.ediv_le_ediv (by omega) h
theorem parts_pre (c T : Int) (l : List Int) (k : Nat) (hk : k ≤ l.length) : ((partsF c T 0 l).take k).sum = c * (l.take k).sum / T := by
  induction k with
  | zero => simp
  | succ k ih =>
    have h1 : k < (partsF c T 0 l).length := by rw [partsF_len]; omega
    rw [sum_take _ k h1, ih (by omega), parts_get, Int.zero_add, Int.zero_add]
    omega
theorem parts_sum {c : Int} {l : List Int} (hT : 1 ≤ l.sum) : (partsF c l.sum 0 l).sum = c := by
  have h := parts_pre c l.sum l l.length (Nat.le_refl _)
  rw [List.take_length, List.take_of_length_le (by rw [partsF_len]; exact Nat.le_refl _)] at h
  rw [h]
  exact Int.mul_ediv_cancel _ (by omega)
/-- the quotient of a sum so far lies between 0 and the amount -/
theorem quot_in {c S T : Int} (hT : 1 ≤ T) (h0 : 0 ≤ S) (h1 : S ≤ T) : (0 ≤ c → 0 ≤ c * S / T ∧ c * S / T ≤ c) ∧ (c ≤ 0 → c ≤ c * S / T ∧ c * S / T ≤ 0) := by
  have e : c * T / T = c := Int.mul_ediv_cancel _ (by omega)
  have e0 : c * 0 / T = 0 := by simp
  refine ⟨fun hc => ⟨?_, ?_⟩, fun hc => ⟨?_, ?_⟩⟩
  · have := quot_mono (a := c * 0) (b := c * S) hT (Int.mul_le_mul_of_nonneg_left h0 hc); omega
  · have := quot_mono (a := c * S) (b := c * T) hT (Int.mul_le_mul_of_nonneg_left h1 hc); omega
  · have := quot_mono (a := c * T) (b := c * S) hT (Int.mul_le_mul_of_nonpos_left hc h1); omega
  · have := quot_mono (a := c * S) (b := c * 0) hT (Int.mul_le_mul_of_nonpos_left hc h0); omega
theorem part_bd {c S x T : Int} (hc : -1000000000 ≤ c ∧ c ≤ 1000000000) (hT : 1 ≤ T) (hS : 0 ≤ S) (hx : 0 ≤ x) (h : S + x ≤ T) :
    -1000000000 ≤ c * (S + x) / T - c * S / T ∧ c * (S + x) / T - c * S / T ≤ 1000000000 := by
  have q1 := quot_in (c := c) hT hS (show S ≤ T by omega)
  have q2 := quot_in (c := c) hT (show 0 ≤ S + x by omega) h
  rcases Int.le_total 0 c with hc0 | hc0
  · have := q1.1 hc0; have := q2.1 hc0
    omega
  · have := q1.2 hc0; have := q2.2 hc0
    omega
theorem part_near {c S x T : Int} (hT : 1 ≤ T) : (c * (S + x) / T - c * S / T) * T - c * x < T ∧ -T < (c * (S + x) / T - c * S / T) * T - c * x := by
  have h1 := div_bd (c * (S + x)) T hT
  have h2 := div_bd (c * S) T hT
  have e : (c * (S + x) / T - c * S / T) * T = c * (S + x) / T * T - c * S / T * T := Int.sub_mul _ _ _
  have e2 : c * (S + x) = c * S + c * x := Int.mul_add _ _ _
  omega
theorem part_zero {c S x T : Int} (hx : x = 0) : c * (S + x) / T - c * S / T = 0 := by rw [hx, Int.add_zero]; omega
theorem part_equal {c S x S2 T : Int} (hT : 1 ≤ T) : (c * (S + x) / T - c * S / T) - (c * (S2 + x) / T - c * S2 / T) ≤ 1 := by
  have h1 := part_near (c := c) (S := S) (x := x) hT
  have h2 := part_near (c := c) (S := S2) (x := x) hT
  generalize c * (S + x) / T - c * S / T = p at *
  generalize c * (S2 + x) / T - c * S2 / T = q at *
  have h3 : (p - q) * T < 2 * T := by rw [Int.sub_mul]; omega
  have := Int.lt_of_mul_lt_mul_right h3 (by omega)
  omega
theorem part_prop {q S x T : Int} (hT : 1 ≤ T) : q * T * (S + x) / T - q * T * S / T = q * x := by
  have e : ∀ y, q * T * y / T = q * y := fun y => by
    rw [show q * T * y = q * y * T by grind]
    exact Int.mul_ediv_cancel _ (by omega)
  rw [e, e, Int.mul_add]
  omega
/-- the place k of the parts -/
theorem parts_at {c : Int} {l : List Int} (hc : wthB c 1000000000 = true) (hw : wts l = true) (k : Nat) (hk : k < l.length) (h : k < (partsF c l.sum 0 l).length) :
    (partsF c l.sum 0 l)[k] = c * ((l.take k).sum + l[k]) / l.sum - c * (l.take k).sum / l.sum ∧ 0 ≤ (l.take k).sum ∧ 0 ≤ l[k] ∧ l[k] ≤ 1000000 ∧ (l.take k).sum + l[k] ≤ l.sum := by
  obtain ⟨_, _, h3, _, _⟩ := share_ok hc hw
  have a := sum_all_take l h3 k
  have b := sum_all_take l h3 (k + 1)
  have hx := (wOk_iff l[k]).1 (by rw [List.all_eq_true] at h3; exact h3 _ (List.getElem_mem hk))
  rw [parts_get, Int.zero_add, Int.zero_add, sum_take l k hk]
  rw [sum_take l k hk] at b
  exact ⟨rfl, a.1, hx.1, hx.2, b.2⟩
end Go.Proofs.YtnjaedbekogeaaaDoor
