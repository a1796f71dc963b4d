/-
  Package sign: products, powers (a closure multiplies), exponents and secrets, members.
-/
import Derived.Test.YtgljelkjfipefaaDoorDigA
import Derived.Test.YtgljelkjfipefaaDoorSignMath
import Derived.Shelf.Small.Bits
import Derived.Ground.NamesProg
namespace Go.Proofs
open Go.Shelf
def Tryd.laysLen_ren : Go.Shelf.Ren := ⟨fun | 125 => 36 | 128 => 40 | 129 => 41 | n => n, fun | 46 => 56 | 3 => 3 | 51 => 61 | 53 => 39 | 4 => 4 | 5 => 5 | 9 => 9 | n => n, fun | n => n⟩
theorem Tryd.laysLen : Go.Proofs.Lays.n125 Tryd.prog Tryd.laysLen_ren := {
  mixed := by kernel_rfl
  f125 := Tryd.func36.trans (congrArg some (by kernel_rfl))
  f128 := Tryd.func40.trans (congrArg some (by kernel_rfl))
  f129 := Tryd.func41.trans (congrArg some (by kernel_rfl))
  t3 := Tryd.underlying3
  a3 := Tryd.isAgg3
  z3 := Tryd.sizeOf3
  v3 := Tryd.zeroValue3
  t4 := Tryd.underlying4
  a4 := Tryd.isAgg4
  z4 := Tryd.sizeOf4
  v4 := Tryd.zeroValue4
  t5 := Tryd.underlying5
  a5 := Tryd.isAgg5
  z5 := Tryd.sizeOf5
  v5 := Tryd.zeroValue5
  t9 := Tryd.underlying9
  a9 := Tryd.isAgg9
  z9 := Tryd.sizeOf9
  v9 := Tryd.zeroValue9
  t46 := Tryd.underlying56
  a46 := Tryd.isAgg56
  z46 := Tryd.sizeOf56
  v46 := Tryd.zeroValue56
  t51 := Tryd.underlying61
  a51 := Tryd.isAgg61
  z51 := Tryd.sizeOf61
  v51 := Tryd.zeroValue61
  t53 := Tryd.underlying39
  a53 := Tryd.isAgg39
  z53 := Tryd.sizeOf39
  v53 := Tryd.zeroValue39 }
end Go.Proofs
namespace Go.Proofs.YtgljelkjfipefaaDoor
open Go.RowKit Go.Shelf

theorem len_any (x : Nat) (h : x < 18446744073709551616) (w : World) : Calls Tryd.prog 36 #[.int .u64 (x : Int)] w (Same (.int .i64 (Lib.bitLen x : Int)) w) :=
  (Any.bits_Len Tryd.laysLen (x : Int) w (by omega) (by omega)).mono fun _ _ ⟨he, hw⟩ => ⟨he, hw.symm⟩

theorem bitLen_lt : ∀ (n x : Nat), x < 2 ^ n → n ≤ 64 → x < 2 ^ Lib.bitLen x ∧ Lib.bitLen x ≤ n
  | 0, x, h, _ => by
    obtain rfl : x = 0 := by simpa using h
    decide
  | n + 1, x, h, hn => by
    by_cases hx : x = 0
    · subst hx
      exact ⟨by decide, by rw [show Lib.bitLen 0 = 0 from rfl]; omega⟩
    · have h64 : x < 2 ^ 64 := Nat.lt_of_lt_of_le h (Nat.pow_le_pow_right (by decide) hn)
      have ⟨i1, i2⟩ := bitLen_lt n (x / 2) (by rw [Nat.pow_succ] at h; omega) (by omega)
      rw [Lib.bitLen_half x hx h64, Nat.add_comm 1, Nat.pow_succ]
      omega

/-- a to the power of x, modulo P -/
def pw (a x : Nat) : Nat := a ^ x % sP
theorem pw_lt (a x : Nat) : pw a x < sP := Nat.mod_lt _ (by decide)
theorem pw_zero (a : Nat) : pw a 0 = 1 := by simp [pw, sP]
theorem pw_dbl (a y : Nat) : pw a y * pw a y % sP = pw a (2 * y) := by
  unfold pw
  rw [← Nat.mul_mod, ← Nat.pow_add, Nat.two_mul]
theorem pw_odd (a y : Nat) : pw a y * a % sP = pw a (y + 1) := by
  unfold pw
  rw [Nat.mod_mul_mod, ← Nat.pow_succ]
theorem pw_bit (x k : Nat) : x / 2 ^ k = 2 * (x / 2 ^ (k + 1)) + x / 2 ^ k % 2 := by
  rw [Nat.pow_succ, ← Nat.div_div_eq_div_mul]; omega

/-- an int that is a natural number -/
def vN (n : Nat) : Value := .int .i64 (n : Int)

theorem prod_any (a b : Nat) (ha : a < sP) (hb : b < sP) (w : World) : Calls Tryd.prog 32 #[vN a, vN b] w (Same (vN (a * b % sP)) w) := by
  have hab : a * b ≤ 2147483579 * 2147483579 := Nat.mul_le_mul (by rw [sP_eq] at ha; omega) (by rw [sP_eq] at hb; omega)
  unfold vN
  rw [sP_eq]
  have e : ((a * b % 2147483579 : Nat) : Int) = (a : Int) * (b : Int) % 2147483579 := by rw [Int.natCast_emod, Int.natCast_mul]; rfl
  have e2 : ((a * b : Nat) : Int) = (a : Int) * (b : Int) := Int.natCast_mul ..
  rw [e]
  have h0 : 0 ≤ (a : Int) * (b : Int) := by rw [← e2]; omega
  have h1 : (a : Int) * (b : Int) ≤ 2147483579 * 2147483579 := by rw [← e2]; omega
  have hw : IntKind.i64.wrap ((a : Int) * (b : Int)) = (a : Int) * (b : Int) := by rw [IntKind.wrap_i64]; omega
  go_enter Tryd.func32, Tryd.ntmps32
  go_wp2_with fail
  go_ret
  exact Same.mk rfl rfl

theorem isExp_any (x : Int) (w : World) : Calls Tryd.prog 26 #[.int .i64 x] w (Same (.bool (decide (0 ≤ x ∧ x < 1073741789))) w) := by
  by_cases hA : 0 ≤ x
  · have hA' : decide (0 ≤ x) = true := by simpa using hA
    go_enter Tryd.func26, Tryd.ntmps26
    go_wp2_with fail
    go_ret
    exact Same.mk (boolV (by simp; omega)) rfl
  · have hA' : decide (0 ≤ x) = false := by simpa using hA
    go_enter Tryd.func26, Tryd.ntmps26
    go_wp2_with fail
    go_ret
    exact Same.mk (boolV (by first | (simp; omega) | simp)) rfl
theorem isSec_any (x : Int) (w : World) : Calls Tryd.prog 28 #[.int .i64 x] w (Same (.bool (decide (1 ≤ x ∧ x < 1073741789))) w) := by
  by_cases hA : 1 ≤ x
  · have hA' : decide (1 ≤ x) = true := by simpa using hA
    go_enter Tryd.func28, Tryd.ntmps28
    go_wp2_with fail
    go_ret
    exact Same.mk (boolV (by simp; omega)) rfl
  · have hA' : decide (1 ≤ x) = false := by simpa using hA
    go_enter Tryd.func28, Tryd.ntmps28
    go_wp2_with fail
    go_ret
    exact Same.mk (boolV (by first | (simp; omega) | simp)) rfl

theorem mult_any (B a b : Nat) (ha : a < sP) (hb : b < sP) (w : World) (hc : w.cell? ⟨B, 0, none⟩ = some (vN a)) (hf : w.frozen? ⟨B, 0, none⟩ = false) :
    Calls Tryd.prog 35 #[vN b, .pointer (some ⟨B, 0, none⟩)] w fun e w' => e = .returned (.tuple #[]) ∧ w' = w.setCell ⟨B, 0, none⟩ (vN (a * b % sP)) := by
  have hp := prod_any a b ha hb w
  unfold vN at *
  go_enter Tryd.func35, Tryd.ntmps35
  go_wp2_with (go_at_call 32; refine hp.mono ?_; rintro e w2 ⟨rfl, rfl⟩)
  go_end0
  exact ⟨rfl, rfl⟩
end Go.Proofs.YtgljelkjfipefaaDoor
