/-
  The printer, plain: the percentage of a ratio; which rates can be written, and their texts; tokens beyond the limit.
-/
import Derived.Test.YtlkefcbkpohpgaaDoorPrnText
import Derived.Test.YtlkefcbkpohpgaaDoorRatioPlain
namespace Go.Proofs.YtlkefcbkpohpgaaDoor

theorem pct_red {kn kd : Int} (hv : vldB kn kd = true) : (redD (kn * 100) (kd * 1) = 1 ↔ 100 % kd = 0) ∧ (100 % kd = 0 → redN (kn * 100) (kd * 1) = kn * (100 / kd)) := by
  obtain ⟨h1, h2, h3, h4⟩ := vld_bd hv
  have hc := vld_gcd hv
  have hg : common (kn * 100) (kd * 1) = (Int.gcd (kn * 100) kd : Int) := by rw [Int.mul_one, common_eq _ _ (by omega), if_neg (by omega)]
  have hp := gcd_pos (kn * 100) kd (by omega)
  have d1 : (Int.gcd (kn * 100) kd : Int) ∣ kn * 100 := Int.gcd_dvd_left ..
  have d2 : (Int.gcd (kn * 100) kd : Int) ∣ kd := Int.gcd_dvd_right ..
  have d3 : kd ∣ kn * 100 → kd ∣ (Int.gcd (kn * 100) kd : Int) := fun h => Int.dvd_coe_gcd h (Int.dvd_refl _)
  unfold redD redN
  rw [hg, Int.mul_one]
  generalize Int.gcd (kn * 100) kd = g at hp d1 d2 d3
  have hg0 : (g : Int) ≠ 0 := by omega
  obtain ⟨q, hq⟩ := d2
  have e1 : kd.tdiv g = q := by rw [hq]; exact Int.mul_tdiv_cancel_left q hg0
  have hdvd : (kd : Int) ∣ 100 ↔ 100 % kd = 0 := Int.dvd_iff_emod_eq_zero
  refine ⟨?_, ?_⟩
  · rw [e1, ← hdvd]
    constructor
    · intro h
      rw [h, Int.mul_one] at hq
      rw [← hq] at d1
      have n1 : kd.natAbs ∣ kn.natAbs * 100 := by have := Int.natAbs_dvd_natAbs.2 d1; rwa [Int.natAbs_mul] at this
      have n2 : Nat.Coprime kd.natAbs kn.natAbs := by
        have : Nat.gcd kn.natAbs kd.natAbs = 1 := hc
        exact (Nat.gcd_comm _ _).trans this
      have n3 := n2.dvd_of_dvd_mul_left n1
      exact Int.natAbs_dvd_natAbs.1 n3
    · intro h
      have hk : kd ∣ (g : Int) := d3 (Int.dvd_trans h (Int.dvd_mul_left _ _))
      have l1 : kd ≤ g := Int.le_of_dvd (by omega) hk
      have l2 : (g : Int) ≤ kd := Int.le_of_dvd (by omega) ⟨q, hq⟩
      have l3 : kd = g := by omega
      have : (g : Int) * q = g * 1 := by rw [Int.mul_one, ← hq, l3]
      exact Int.eq_of_mul_eq_mul_left hg0 this
  · intro h0
    have h := hdvd.2 h0
    have hk : kd ∣ (g : Int) := d3 (Int.dvd_trans h (Int.dvd_mul_left _ _))
    have l1 : kd ≤ g := Int.le_of_dvd (by omega) hk
    have l2 : (g : Int) ≤ kd := Int.le_of_dvd (by omega) ⟨q, hq⟩
    have l3 : (g : Int) = kd := by omega
    rw [l3]
    obtain ⟨m, hm⟩ := h
    have hd0 : kd ≠ 0 := by omega
    have e2 : (100 : Int) / kd = m := by rw [hm]; exact Int.mul_ediv_cancel_left m hd0
    rw [e2, hm, show kn * (kd * m) = kd * (kn * m) by rw [Int.mul_left_comm]]
    exact Int.mul_tdiv_cancel_left _ hd0
/-- the percentage, and whether there is one -/
def pctF (kn kd : Int) : Int × Bool := ((mulF kn kd 100 1).1, decide ((mulF kn kd 100 1).2.2 = 0) && decide ((mulF kn kd 100 1).2.1 = 1))
def nineB (n : Int) : Bool := decide (0 ≤ n) && decide (n ≤ 999999999)
def keepB (kn kd : Int) : Bool := vldB kn kd && decide (100 % kd = 0) && nineB (kn * (100 / kd))
theorem pct_keep (kn kd : Int) : ((pctF kn kd).2 && nineB (pctF kn kd).1) = keepB kn kd ∧ (keepB kn kd = true → (pctF kn kd).1 = kn * (100 / kd)) := by
  have hone : vldB 100 1 = true := by decide
  unfold pctF mulF opF keepB
  cases hv : vldB kn kd with
  | false => simp
  | true =>
    obtain ⟨h1, h2⟩ := pct_red hv
    rw [hone]
    simp only [Bool.and_self, if_true, Bool.true_and]
    unfold setl
    by_cases h0 : 100 % kd = 0
    · have e1 := h1.2 h0
      have e2 := h2 h0
      rw [e1, e2, decide_eq_true h0]
      by_cases hf : fitB (kn * (100 / kd)) 1 = true
      · rw [if_pos hf]; simp
      · rw [if_neg hf]
        have : nineB (kn * (100 / kd)) = false := by
          unfold nineB
          unfold fitB at hf
          rw [decide_eq_true_eq] at hf
          rw [Bool.and_eq_false_iff, decide_eq_false_iff_not, decide_eq_false_iff_not]
          omega
        simp [this]
    · have e1 : redD (kn * 100) (kd * 1) ≠ 1 := fun h => h0 (h1.1 h)
      have e2 : redD (kn * 100) kd ≠ 1 := by rwa [Int.mul_one] at e1
      rw [decide_eq_false h0]
      split
      · simp [e2]
      · simp
/-- a rate's text -/
def rateX (a0 a1 a2 a3 a4 a5 a6 a7 c : Nat) (w p : List UInt8) : List UInt8 :=
  wRate ++ 32 :: (Lib.decDigits a0 ++ 32 :: (wLevel ++ 32 :: (Lib.decDigits a1 ++ 32 :: (wKind ++ 32 :: (Lib.decDigits a2 ++ 32 :: (wNights ++ 32 :: (Lib.decDigits a3 ++ 32 :: (wTo ++ 32 :: (Lib.decDigits a4 ++ 32 :: (wStay ++ 32 :: (Lib.decDigits a5 ++ 32 :: (wTo ++ 32 :: (Lib.decDigits a6 ++ 32 :: (wArrive ++ 32 :: (Lib.decDigits a7 ++ 32 :: (wKeep ++ 32 :: (Lib.decDigits c ++ 37 :: 32 :: (wWhen ++ 32 :: (w ++ 32 :: (wPrice ++ 32 :: (p ++ [59])))))))))))))))))))))
/-- the text of a rate, or an error -/
def rateP (a0 a1 a2 a3 a4 a5 a6 a7 kn kd : Int) (when price : Xp) : List UInt8 × Nat :=
  if (nineB a0 && nineB a1 && nineB a2 && nineB a3 && nineB a4 && nineB a5 && nineB a6 && nineB a7 && keepB kn kd && validF when && validF price) = true
  then (rateX a0.toNat a1.toNat a2.toNat a3.toNat a4.toNat a5.toNat a6.toNat a7.toNat (kn * (100 / kd)).toNat (txtE when) (txtE price), 0) else ([], 1)
def exprP (e : Xp) : List UInt8 × Nat := if validF e = true then (txtE e, 0) else ([], 1)
end Go.Proofs.YtlkefcbkpohpgaaDoor
