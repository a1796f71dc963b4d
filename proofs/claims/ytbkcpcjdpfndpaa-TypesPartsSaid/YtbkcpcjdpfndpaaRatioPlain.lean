/-
  Plain arithmetic for the ratio package: the recursive divisor, reduced fractions, rounding. No program in sight.
-/
import Derived.Test.YtbkcpcjdpfndpaaKit
namespace Go.Proofs.Ytbkcpcjdpfndpaa
open Go.RowKit

/-- The recursive closure of reduce, with fuel. -/
def dv : Nat → Int → Int → Int
  | 0, a, _ => a
  | k + 1, a, b => if b = 0 then a else dv k b (a.tmod b)

theorem tmod_lt (a b : Int) (h : b ≠ 0) : (a.tmod b).natAbs < b.natAbs := by
  rw [Int.natAbs_tmod]; exact Nat.mod_lt _ (by omega)

theorem dv_gcd (k : Nat) : ∀ a b : Int, b.natAbs ≤ k → (dv k a b).natAbs = Int.gcd a b := by
  induction k with
  | zero => intro a b h; obtain rfl : b = 0 := by omega
            simp [dv]
  | succ k ih =>
    intro a b h
    unfold dv
    by_cases hb : b = 0
    · subst hb; simp
    · rw [if_neg hb, ih b (a.tmod b) (by have := tmod_lt a b hb; omega)]
      unfold Int.gcd
      rw [Int.natAbs_tmod, Nat.gcd_comm b.natAbs, ← Nat.gcd_rec, Nat.gcd_comm]

/-- The sign of the divisor follows the denominator's. -/
def common (n d : Int) : Int := if (decide (dv d.natAbs n d < 0) != decide (d < 0)) then -(dv d.natAbs n d) else dv d.natAbs n d
def redN (n d : Int) : Int := n.tdiv (common n d)
def redD (n d : Int) : Int := d.tdiv (common n d)

theorem gcd_pos (n d : Int) (hd : d ≠ 0) : 0 < Int.gcd n d := Nat.gcd_pos_of_pos_right _ (by omega)
theorem gcd_le (n d : Int) (hd : d ≠ 0) : Int.gcd n d ≤ d.natAbs := Nat.gcd_le_right _ (by omega)

theorem common_eq (n d : Int) (hd : d ≠ 0) : common n d = if d < 0 then -(Int.gcd n d : Int) else (Int.gcd n d : Int) := by
  have h := dv_gcd d.natAbs n d (Nat.le_refl _)
  have hp := gcd_pos n d hd
  unfold common
  generalize dv d.natAbs n d = g at *
  by_cases h1 : g < 0 <;> by_cases h2 : d < 0 <;> simp [h1, h2] <;> omega

theorem tdiv_natAbs_le (a b : Int) : (a.tdiv b).natAbs ≤ a.natAbs := by
  rw [Int.natAbs_tdiv]; exact Nat.div_le_self _ _

theorem wrap_tdiv (a b : Int) (h1 : -4000000000000000000 ≤ a) (h2 : a ≤ 4000000000000000000) : wrap64 (a.tdiv b) = a.tdiv b := by
  have := tdiv_natAbs_le a b
  exact IntWalk.wrap64_in _ (by omega)

def fitB (n d : Int) : Bool := decide (-1000000000 ≤ n ∧ n ≤ 1000000000 ∧ 1 ≤ d ∧ d ≤ 1000000)
def vldB (n d : Int) : Bool := fitB n d && decide (Int.gcd n d = 1)

/-- What a call of settle gives: numerator, denominator, error. -/
def setl (n d : Int) : Int × Int × Int := if fitB (redN n d) (redD n d) then (redN n d, redD n d, 0) else (0, 0, 3)

def wthB (n m : Int) : Bool := decide (-m ≤ n ∧ n ≤ m)
def mkF (n d : Int) : Int × Int × Int := if d ≠ 0 ∧ wthB n 1000000000000000 = true ∧ wthB d 1000000000000000 = true then setl n d else (0, 0, 1)
def opF (a b c d n m : Int) : Int × Int × Int := if vldB a b && vldB c d then setl n m else (0, 0, 1)
def addF (a b c d : Int) := opF a b c d (a * d + c * b) (b * d)
def subF (a b c d : Int) := opF a b c d (a * d - c * b) (b * d)
def mulF (a b c d : Int) := opF a b c d (a * c) (b * d)
def cmpF (a b c d : Int) : Int × Int := if vldB a b && vldB c d then (if a * d < c * b then -1 else if a * d > c * b then 1 else 0, 0) else (0, 1)

theorem vld_bd {n d : Int} (h : vldB n d = true) : -1000000000 ≤ n ∧ n ≤ 1000000000 ∧ 1 ≤ d ∧ d ≤ 1000000 := by
  unfold vldB fitB at h; simp at h; omega
theorem mul_bd {x y X Y : Int} (hx1 : -X ≤ x) (hx2 : x ≤ X) (hy1 : -Y ≤ y) (hy2 : y ≤ Y) : -(X * Y) ≤ x * y ∧ x * y ≤ X * Y := by
  have h1 : x.natAbs * y.natAbs ≤ X.toNat * Y.toNat := Nat.mul_le_mul (by omega) (by omega)
  have h2 : (x * y).natAbs = x.natAbs * y.natAbs := Int.natAbs_mul x y
  have h3 : ((X.toNat * Y.toNat : Nat) : Int) = X * Y := by rw [Int.natCast_mul, Int.toNat_of_nonneg (by omega), Int.toNat_of_nonneg (by omega)]
  omega

theorem rat_eq (a b c d : Int) (hb : 1 ≤ b) (hd : 1 ≤ d) (h1 : Int.gcd a b = 1) (h2 : Int.gcd c d = 1) (h : a * d = c * b) : a = c ∧ b = d := by
  have hn : a.natAbs * d.natAbs = c.natAbs * b.natAbs := by rw [← Int.natAbs_mul, ← Int.natAbs_mul, h]
  have e1 : b.natAbs ∣ d.natAbs := by
    have : Nat.Coprime b.natAbs a.natAbs := by unfold Nat.Coprime; rw [Nat.gcd_comm]; exact h1
    exact this.dvd_of_dvd_mul_left ⟨c.natAbs, by rw [hn, Nat.mul_comm]⟩
  have e2 : d.natAbs ∣ b.natAbs := by
    have : Nat.Coprime d.natAbs c.natAbs := by unfold Nat.Coprime; rw [Nat.gcd_comm]; exact h2
    exact this.dvd_of_dvd_mul_left ⟨a.natAbs, by rw [← hn, Nat.mul_comm]⟩
  have e3 : b.natAbs = d.natAbs := Nat.dvd_antisymm e1 e2
  have e4 : b = d := by omega
  subst e4
  exact ⟨Int.eq_of_mul_eq_mul_right (by omega) h, rfl⟩
theorem vld_gcd {n d : Int} (h : vldB n d = true) : Int.gcd n d = 1 := by unfold vldB at h; simp at h; exact h.2
theorem vld_eq {a b c d : Int} (hu : vldB a b = true) (hv : vldB c d = true) (h : a * d = c * b) : a = c ∧ b = d :=
  rat_eq a b c d (vld_bd hu).2.2.1 (vld_bd hv).2.2.1 (vld_gcd hu) (vld_gcd hv) h

def rndF (n d way : Int) : Int := if way = 2 ∧ n - n / d * d > 0 ∨ way = 3 ∧ (n - n / d * d > d - (n - n / d * d) ∨ n - n / d * d = d - (n - n / d * d) ∧ n / d % 2 ≠ 0) then n / d + 1 else n / d

theorem div_bd (n d : Int) (hd : 1 ≤ d) : n / d * d ≤ n ∧ n < n / d * d + d := by
  have h1 := Int.mul_ediv_add_emod n d
  have h2 := Int.emod_nonneg n (b := d) (by omega)
  have h3 := Int.emod_lt_of_pos n (b := d) (by omega)
  have h4 : d * (n / d) = n / d * d := Int.mul_comm _ _
  omega

theorem div_uniq {n d q : Int} (hd : 1 ≤ d) (h1 : q * d ≤ n) (h2 : n < q * d + d) : n / d = q := by
  have hb := div_bd n d hd
  have e1 : n / d < q + 1 := by
    refine Int.lt_of_mul_lt_mul_right (a := d) ?_ (by omega)
    rw [Int.add_mul, Int.one_mul]; omega
  have e2 : q < n / d + 1 := by
    refine Int.lt_of_mul_lt_mul_right (a := d) ?_ (by omega)
    rw [Int.add_mul, Int.one_mul]; omega
  omega

theorem tdiv_floor (n d : Int) (hd : 1 ≤ d) : n / d = if n.tmod d < 0 then n.tdiv d - 1 else n.tdiv d := by
  have h1 := Int.mul_tdiv_add_tmod n d
  have h2 := Int.tmod_lt_of_pos n (b := d) (by omega)
  have h3 : -d < n.tmod d := by
    have : (n.tmod d).natAbs < d.natAbs := by rw [Int.natAbs_tmod]; exact Nat.mod_lt _ (by omega)
    omega
  have h4 : d * n.tdiv d = n.tdiv d * d := Int.mul_comm _ _
  split
  · refine div_uniq hd ?_ ?_ <;> rw [Int.sub_mul, Int.one_mul] <;> omega
  · refine div_uniq hd ?_ ?_ <;> omega

theorem neg_floor (n d : Int) (hd : 1 ≤ d) : -((-n) / d) = if n - n / d * d > 0 then n / d + 1 else n / d := by
  have hb := div_bd n d hd
  split
  · have : (-n) / d = -(n / d + 1) := by
      refine div_uniq hd ?_ ?_ <;> rw [Int.neg_mul, Int.add_mul, Int.one_mul] <;> omega
    omega
  · have : (-n) / d = -(n / d) := by
      refine div_uniq hd ?_ ?_ <;> rw [Int.neg_mul] <;> omega
    omega

theorem div_le (n d : Int) (hd : 1 ≤ d) (X : Int) (h1 : -X ≤ n) (h2 : n ≤ X) (hX : 0 ≤ X) : -X ≤ n / d ∧ n / d ≤ X := by
  have hb := div_bd n d hd
  constructor
  · have : -X - 1 < n / d := by
      refine Int.lt_of_mul_lt_mul_right (a := d) ?_ (by omega)
      have : (-X - 1) * d = -(X * d) - d := by rw [Int.sub_mul, Int.neg_mul, Int.one_mul]
      have h5 : X * 1 ≤ X * d := Int.mul_le_mul_of_nonneg_left hd hX
      omega
    omega
  · have : n / d < X + 1 := by
      refine Int.lt_of_mul_lt_mul_right (a := d) ?_ (by omega)
      have : (X + 1) * d = X * d + d := by rw [Int.add_mul, Int.one_mul]
      have h5 : X * 1 ≤ X * d := Int.mul_le_mul_of_nonneg_left hd hX
      omega
    omega

theorem rnd_down (n d : Int) (hd : 1 ≤ d) : rndF n d 1 = if n.tmod d < 0 then n.tdiv d - 1 else n.tdiv d := by
  rw [← tdiv_floor n d hd]; simp [rndF]
theorem rnd_up (n d : Int) (hd : 1 ≤ d) : rndF n d 2 = -(rndF (-n) d 1) := by
  have h := neg_floor n d hd
  simp [rndF] at h ⊢; omega
def roundF (n d way : Int) : Int × Int := if vldB n d = true ∧ (way = 1 ∨ way = 2 ∨ way = 3) then (rndF n d way, 0) else (0, 1)
def partF (n a b way : Int) : Int × Int :=
  if vldB a b = true ∧ (way = 1 ∨ way = 2 ∨ way = 3) ∧ wthB n 1000000000 = true then (if wthB (rndF (n * a) b way) 1000000000 then (rndF (n * a) b way, 0) else (0, 3)) else (0, 1)

/-- A value whose numbers these are. -/
def ratV (n d : Int) : Value := .agg #[.int .i64 n, .int .i64 d]
def resV (x : Int × Int × Int) : Value := .tuple #[.agg #[.int .i64 x.1, .int .i64 x.2.1], .int .i64 x.2.2]

theorem bcellQ {W w1 : World} (hb : Below W.heap.size W w1) : (∀ b o, b < W.heap.size → w1.cell? ⟨b, o, none⟩ = W.cell? ⟨b, o, none⟩) ∧ (∀ b o, b < W.heap.size → w1.frozen? ⟨b, o, none⟩ = W.frozen? ⟨b, o, none⟩) :=
  ⟨fun b o h => hb.cell (p := ⟨b, o, none⟩) h, fun b o h => hb.frozen (p := ⟨b, o, none⟩) h⟩

/-- The cells of one box of two numbers, in a world that has grown since. -/
theorem hold2 {B : Nat} {x y : Value} {w0 W w1 : World} (h : W.cell? ⟨B, 0, none⟩ = some x ∧ W.cell? ⟨B, 1, none⟩ = some y ∧ B < W.heap.size ∧ Below B w0 W) (hb : Below W.heap.size W w1) :
    w1.cell? ⟨B, 0, none⟩ = some x ∧ w1.cell? ⟨B, 1, none⟩ = some y ∧ B < w1.heap.size ∧ Below B w0 w1 := by
  obtain ⟨h1, h2, h3, h4⟩ := h
  exact ⟨((bcellQ hb).1 _ _ h3).trans h1, ((bcellQ hb).1 _ _ h3).trans h2, Nat.lt_of_lt_of_le h3 hb.size, h4.trans (hb.mono (Nat.le_of_lt h3))⟩

theorem red_self (n d : Int) (hd : 1 ≤ d) : (redN n d == n && redD n d == d) = decide (Int.gcd n d = 1) := by
  have hp := gcd_pos n d (by omega)
  unfold redN redD
  rw [common_eq n d (by omega), if_neg (by omega)]
  by_cases h : Int.gcd n d = 1
  · simp [h]
  · have hne : d.tdiv (Int.gcd n d : Int) ≠ d := by
      intro e
      have h2 : (2 : Int) ≤ (Int.gcd n d : Int) := by omega
      rw [Int.tdiv_eq_ediv_of_nonneg (by omega)] at e
      have := Int.ediv_lt_self_of_pos_of_ne_one (x := d) (y := (Int.gcd n d : Int)) (by omega) (by omega)
      omega
    simp [h, hne]

end Go.Proofs.Ytbkcpcjdpfndpaa
