/-
  The reference: powers by squares, members, exponents, secrets, Exp, Public.
-/
import Derived.Test.YtgljelkjfipefaaDoorSignD
import Derived.Test.YtgljelkjfipefaaDoorDigRefN
namespace Go.Proofs.YtgljelkjfipefaaDoor
open Go.RowKit Go.Shelf

theorem tmod_nat (a b m : Nat) : ((a : Int) * (b : Int)).tmod (m : Int) = ((a * b % m : Nat) : Int) := by
  rw [← Int.natCast_mul, Int.natCast_emod, Int.tmod_eq_emod_of_nonneg (Int.natCast_nonneg _)]

set_option maxHeartbeats 2000000 in
theorem refPow_any (m : Nat) (hm : 1 < m) (hM : m < 2147483648) (a x : Nat) (ha : a < m) (hx : x < 9223372036854775808) (w : World) : Calls Tryd.prog 24 #[vN a, vN x, vN m] w (Same (vN (a ^ x % m)) w) := by
  unfold vN
  have hm0 : ((m : Int) == 0) = false := by rw [beq_eq_false_iff_ne]; omega
  go_enter Tryd.func24, Tryd.ntmps24
  go_wp2_with fail
  go_loopw [0, 1, 7] (fun va vx vo wr => ∃ b y o : Nat, b < m ∧ o < m ∧ y ≤ x ∧ va = .int .i64 (b : Int) ∧ vx = .int .i64 (y : Int) ∧ vo = .int .i64 (o : Int) ∧ o * b ^ y % m = a ^ x % m ∧ w = wr)
    (fun _ vx _ _ => (intOf vx).toNat)
  case atStart => exact ⟨a, x, 1, ha, hm, Nat.le_refl _, rfl, rfl, rfl, by rw [Nat.one_mul], rfl⟩
  case round =>
    obtain ⟨b, y, o, hb, ho, hy, rfl, rfl, rfl, hinv, rfl⟩ := hrel
    by_cases hy0 : y = 0
    · subst hy0
      rw [Nat.pow_zero, Nat.mul_one, Nat.mod_eq_of_lt ho] at hinv
      clear hm0
      have Hinv := Lib.hid hinv
      clear hinv
      go_wp2_with fail
      go_ret
      exact Same.mk (by rw [← Hinv.out]; rfl) rfl
    · have hs := step_pow m o b y
      rw [hinv] at hs
      have Hs := Lib.hid hs
      clear hs hinv
      have hpos : decide ((0 : Int) < (y : Int)) = true := by simp; omega
      have h1 : 0 ≤ (b : Int) * (b : Int) ∧ (b : Int) * (b : Int) ≤ 2147483648 * 2147483648 := ⟨Int.mul_nonneg (by omega) (by omega), Int.mul_le_mul (by omega) (by omega) (by omega) (by omega)⟩
      have h2 : 0 ≤ (o : Int) * (b : Int) ∧ (o : Int) * (b : Int) ≤ 2147483648 * 2147483648 := ⟨Int.mul_nonneg (by omega) (by omega), Int.mul_le_mul (by omega) (by omega) (by omega) (by omega)⟩
      have hw1 : IntKind.i64.wrap ((b : Int) * (b : Int)) = (b : Int) * (b : Int) := by rw [IntKind.wrap_i64]; omega
      have hw2 : IntKind.i64.wrap ((o : Int) * (b : Int)) = (o : Int) * (b : Int) := by rw [IntKind.wrap_i64]; omega
      have ht1 := tmod_nat b b m
      have ht2 := tmod_nat o b m
      have hy2 : (y : Int).tmod 2 = ((y % 2 : Nat) : Int) := by rw [Int.tmod_eq_emod_of_nonneg (by omega)]; rfl
      have hy3 : (y : Int).tdiv 2 = ((y / 2 : Nat) : Int) := by rw [Int.tdiv_eq_ediv_of_nonneg (by omega)]; rfl
      by_cases hodd : y % 2 = 1
      · rw [if_pos hodd] at Hs
        have ht : ((y : Int).tmod 2 == 1) = true := by rw [hy2, hodd]; rfl
        clear hodd
        go_wp2_with fail
        go_roundw
        case rel => exact ⟨b * b % m, y / 2, o * b % m, Nat.mod_lt _ (by omega), Nat.mod_lt _ (by omega), by omega, by rw [Int.natCast_emod, Int.natCast_mul], rfl, by rw [Int.natCast_emod, Int.natCast_mul], Hs.out, trivial⟩
        case measure => simp [intOf]; omega
      · rw [if_neg hodd] at Hs
        have ht : ((y : Int).tmod 2 == 1) = false := by rw [hy2, show y % 2 = 0 by omega]; rfl
        clear hodd
        go_wp2_with fail
        go_roundw
        case rel => exact ⟨b * b % m, y / 2, o, Nat.mod_lt _ (by omega), ho, by omega, by rw [Int.natCast_emod, Int.natCast_mul], rfl, rfl, Hs.out, trivial⟩
        case measure => simp [intOf]; omega

/-- the same of ints, modulo P -/
theorem refPow_int (a x : Int) (h0 : 0 ≤ a) (h1 : a < 2147483579) (h2 : 0 ≤ x) (h3 : x < 1073741824) (w : World) : Calls Tryd.prog 24 #[.int .i64 a, .int .i64 x, .int .i64 2147483579] w (Same (.int .i64 (pwI a x)) w) := by
  have h := refPow_any 2147483579 (by omega) (by omega) a.toNat x.toNat (by omega) (by omega) w
  unfold vN at h
  rw [show ((a.toNat : Nat) : Int) = a by omega, show ((x.toNat : Nat) : Int) = x by omega] at h
  exact h

theorem refExpo_any (x : Int) (w : World) : Calls Tryd.prog 27 #[.int .i64 x] w (Same (.bool (expB x)) w) := by
  unfold expB
  by_cases hA : 0 ≤ x
  · have hA' : decide (0 ≤ x) = true := by simpa using hA
    go_enter Tryd.func27, Tryd.ntmps27
    go_wp2_with fail
    go_ret
    exact Same.mk (boolV (by simp; omega)) rfl
  · have hA' : decide (0 ≤ x) = false := by simpa using hA
    go_enter Tryd.func27, Tryd.ntmps27
    go_wp2_with fail
    go_ret
    exact Same.mk (boolV (by first | (simp; omega) | simp)) rfl
theorem refSec_any (x : Int) (w : World) : Calls Tryd.prog 29 #[.int .i64 x] w (Same (.bool (secB x)) w) := by
  unfold secB
  by_cases hA : 1 ≤ x
  · have hA' : decide (1 ≤ x) = true := by simpa using hA
    go_enter Tryd.func29, Tryd.ntmps29
    go_wp2_with fail
    go_ret
    exact Same.mk (boolV (by simp; omega)) rfl
  · have hA' : decide (1 ≤ x) = false := by simpa using hA
    go_enter Tryd.func29, Tryd.ntmps29
    go_wp2_with fail
    go_ret
    exact Same.mk (boolV (by first | (simp; omega) | simp)) rfl

set_option maxHeartbeats 1000000 in
theorem refMember_any (a : Int) (w : World) : Calls Tryd.prog 12 #[.int .i64 a] w (Same (.bool (memB a)) w) := by
  by_cases hA : 1 ≤ a
  · have hA' : decide (1 ≤ a) = true := by simpa using hA
    by_cases hB : a < 2147483579
    · have hB' : decide (a < 2147483579) = true := by simpa using hB
      have hp := refPow_int a 1073741789 (by omega) (by omega) (by omega) (by omega) w
      unfold pwI at hp
      unfold memB
      rw [show decide (1 ≤ a ∧ a < 2147483579) = true by simp; omega, Bool.true_and, sQ_eq]
      rw [show (1073741789 : Int).toNat = 1073741789 from rfl] at hp
      generalize pw a.toNat 1073741789 = z at *
      go_enter Tryd.func12, Tryd.ntmps12
      go_wp2_with (go_at_call 24; refine hp.mono ?_; rintro e w2 ⟨rfl, rfl⟩)
      go_ret
      exact Same.mk (boolV (by simp; omega)) rfl
    · have hB' : decide (a < 2147483579) = false := by simpa using hB
      have e : memB a = false := by unfold memB; rw [show decide (1 ≤ a ∧ a < 2147483579) = false by simp; omega, Bool.false_and]
      rw [e]
      clear e
      go_enter Tryd.func12, Tryd.ntmps12
      go_wp2_with fail
      go_ret
      exact Same.mk rfl rfl
  · have hA' : decide (1 ≤ a) = false := by simpa using hA
    have e : memB a = false := by unfold memB; rw [show decide (1 ≤ a ∧ a < 2147483579) = false by simp; omega, Bool.false_and]
    rw [e]
    clear e
    go_enter Tryd.func12, Tryd.ntmps12
    go_wp2_with fail
    go_ret
    exact Same.mk rfl rfl

set_option maxHeartbeats 1000000 in
theorem refExp_any (a x : Int) (w : World) : Calls Tryd.prog 14 #[.int .i64 a, .int .i64 x] w (Ret (twoV (expF a x)) w) := by
  have hm := refMember_any a w
  have he := refExpo_any x w
  unfold expF twoV
  cases hA : memB a with
  | false =>
    rw [hA] at hm
    clear hA
    simp only [Bool.false_and, Bool.false_eq_true, if_false]
    go_enter Tryd.func14, Tryd.ntmps14
    go_wp2_with (first | (go_at_call 27; refine he.mono ?_; rintro e w2 ⟨rfl, rfl⟩) | (go_at_call 12; refine hm.mono ?_; rintro e w2 ⟨rfl, rfl⟩))
    go_ret2
    exact Ret.mk rfl (Below.refl _ _)
  | true =>
    rw [hA] at hm
    cases hX : expB x with
    | false =>
      rw [hX] at he
      clear hA hX
      simp only [Bool.and_false, Bool.false_eq_true, if_false]
      go_enter Tryd.func14, Tryd.ntmps14
      go_wp2_with (first | (go_at_call 27; refine he.mono ?_; rintro e w2 ⟨rfl, rfl⟩) | (go_at_call 12; refine hm.mono ?_; rintro e w2 ⟨rfl, rfl⟩))
      go_ret2
      exact Ret.mk rfl (Below.refl _ _)
    | true =>
      rw [hX] at he
      have ha : 1 ≤ a ∧ a < 2147483579 := by unfold memB at hA; simp at hA; omega
      have hxx : 0 ≤ x ∧ x < 1073741789 := by unfold expB at hX; simpa using hX
      have hp := refPow_int a x (by omega) (by omega) (by omega) (by omega) w
      rw [show ((pw a.toNat x.toNat : Nat) : Int) = pwI a x from rfl]
      clear hA hX ha hxx
      simp only [Bool.and_true, if_true]
      go_enter Tryd.func14, Tryd.ntmps14
      go_wp2_with (first | (go_at_call 24; refine hp.mono ?_; rintro e w3 ⟨rfl, rfl⟩) | (go_at_call 27; refine he.mono ?_; rintro e w2 ⟨rfl, rfl⟩) | (go_at_call 12; refine hm.mono ?_; rintro e w2 ⟨rfl, rfl⟩))
      go_ret2
      exact Ret.mk rfl (Below.refl _ _)

set_option maxHeartbeats 1000000 in
theorem refPublic_any (x : Int) (w : World) : Calls Tryd.prog 16 #[.int .i64 x] w (Ret (twoV (pubF x)) w) := by
  have he := refSec_any x w
  unfold pubF twoV
  cases hX : secB x with
  | false =>
    rw [hX] at he
    clear hX
    simp only [Bool.false_eq_true, if_false]
    go_enter Tryd.func16, Tryd.ntmps16
    go_wp2_with (go_at_call 29; refine he.mono ?_; rintro e w2 ⟨rfl, rfl⟩)
    go_ret2
    exact Ret.mk rfl (Below.refl _ _)
  | true =>
    rw [hX] at he
    have hxx : 1 ≤ x ∧ x < 1073741789 := by unfold secB at hX; simpa using hX
    have hp := refPow_int 4 x (by omega) (by omega) (by omega) (by omega) w
    rw [show ((pw 4 x.toNat : Nat) : Int) = pwI 4 x from rfl]
    clear hX hxx
    simp only [if_true]
    go_enter Tryd.func16, Tryd.ntmps16
    go_wp2_with (first | (go_at_call 24; refine hp.mono ?_; rintro e w3 ⟨rfl, rfl⟩) | (go_at_call 29; refine he.mono ?_; rintro e w2 ⟨rfl, rfl⟩))
    go_ret2
    exact Ret.mk rfl (Below.refl _ _)
end Go.Proofs.YtgljelkjfipefaaDoor
