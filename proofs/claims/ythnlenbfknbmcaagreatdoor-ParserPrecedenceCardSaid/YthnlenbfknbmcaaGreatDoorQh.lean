/-
  Ratios: Make.
-/
import Derived.Test.YthnlenbfknbmcaaGreatDoorQa
import Derived.Test.YthnlenbfknbmcaaGreatDoorProg
import Derived.WalkKit
import Derived.WalkSpells
import Derived.WalkLawsBesides
import Derived.Deep.QuietTactic
import Derived.BigQuiet
import Derived.Lib.Hide
import Derived.Laws.EntriesVeiled
import Derived.Laws.StructEq
import Derived.KernelRfl
import Derived.Deep.RegionHeld3
import Derived.Deep.DeepFit
namespace Go.Proofs.YthnlenbfknbmcaaGreatDoor
open Go.RowKit

/-- The recursive closure of reduce, with fuel. -/
def dv : Nat → Int → Int → Int
  | 0, a, _ => a
  | k + 1, a, b => if b = 0 then a else dv k b (a.tmod b)

theorem tmod_lt (a b : Int) (h : b ≠ 0) : (a.tmod b).natAbs < b.natAbs := by
  rw [Int.natAbs_tmod]; exact Nat.mod_lt _ (by omega)

theorem dv_gcd (k : Nat) : ∀ a b : Int, b.natAbs ≤ k → (dv k a b).natAbs = Int.gcd a b := by
  induction k with
  | zero => intro a b h; obtain rfl : b = 0 := by omega
            simp [dv]
  | succ k ih =>
    intro a b h
    unfold dv
    by_cases hb : b = 0
    · subst hb; simp
    · rw [if_neg hb, ih b (a.tmod b) (by have := tmod_lt a b hb; omega)]
      unfold Int.gcd
      rw [Int.natAbs_tmod, Nat.gcd_comm b.natAbs, ← Nat.gcd_rec, Nat.gcd_comm]

/-- The sign of the divisor follows the denominator's. -/
def common (n d : Int) : Int := if (decide (dv d.natAbs n d < 0) != decide (d < 0)) then -(dv d.natAbs n d) else dv d.natAbs n d
def redN (n d : Int) : Int := n.tdiv (common n d)
def redD (n d : Int) : Int := d.tdiv (common n d)

theorem gcd_pos (n d : Int) (hd : d ≠ 0) : 0 < Int.gcd n d := Nat.gcd_pos_of_pos_right _ (by omega)
theorem gcd_le (n d : Int) (hd : d ≠ 0) : Int.gcd n d ≤ d.natAbs := Nat.gcd_le_right _ (by omega)

theorem common_eq (n d : Int) (hd : d ≠ 0) : common n d = if d < 0 then -(Int.gcd n d : Int) else (Int.gcd n d : Int) := by
  have h := dv_gcd d.natAbs n d (Nat.le_refl _)
  have hp := gcd_pos n d hd
  unfold common
  generalize dv d.natAbs n d = g at *
  by_cases h1 : g < 0 <;> by_cases h2 : d < 0 <;> simp [h1, h2] <;> omega

theorem tdiv_natAbs_le (a b : Int) : (a.tdiv b).natAbs ≤ a.natAbs := by
  rw [Int.natAbs_tdiv]; exact Nat.div_le_self _ _

theorem wrap_tdiv (a b : Int) (h1 : -4000000000000000000 ≤ a) (h2 : a ≤ 4000000000000000000) : wrap64 (a.tdiv b) = a.tdiv b := by
  have := tdiv_natAbs_le a b
  exact IntWalk.wrap64_in _ (by omega)

def fitB (n d : Int) : Bool := decide (-1000000000 ≤ n ∧ n ≤ 1000000000 ∧ 1 ≤ d ∧ d ≤ 1000000)
def vldB (n d : Int) : Bool := fitB n d && decide (Int.gcd n d = 1)

/-- What a call of settle gives: numerator, denominator, error. -/
def setl (n d : Int) : Int × Int × Int := if fitB (redN n d) (redD n d) then (redN n d, redD n d, 0) else (0, 0, 3)

def wthB (n m : Int) : Bool := decide (-m ≤ n ∧ n ≤ m)
def mkF (n d : Int) : Int × Int × Int := if d ≠ 0 ∧ wthB n 1000000000000000 = true ∧ wthB d 1000000000000000 = true then setl n d else (0, 0, 1)
def opF (a b c d n m : Int) : Int × Int × Int := if vldB a b && vldB c d then setl n m else (0, 0, 1)
def addF (a b c d : Int) := opF a b c d (a * d + c * b) (b * d)
def subF (a b c d : Int) := opF a b c d (a * d - c * b) (b * d)
def mulF (a b c d : Int) := opF a b c d (a * c) (b * d)
def cmpF (a b c d : Int) : Int × Int := if vldB a b && vldB c d then (if a * d < c * b then -1 else if a * d > c * b then 1 else 0, 0) else (0, 1)

theorem vld_bd {n d : Int} (h : vldB n d = true) : -1000000000 ≤ n ∧ n ≤ 1000000000 ∧ 1 ≤ d ∧ d ≤ 1000000 := by
  unfold vldB fitB at h; simp at h; omega
theorem mul_bd {x y X Y : Int} (hx1 : -X ≤ x) (hx2 : x ≤ X) (hy1 : -Y ≤ y) (hy2 : y ≤ Y) : -(X * Y) ≤ x * y ∧ x * y ≤ X * Y := by
  have h1 : x.natAbs * y.natAbs ≤ X.toNat * Y.toNat := Nat.mul_le_mul (by omega) (by omega)
  have h2 : (x * y).natAbs = x.natAbs * y.natAbs := Int.natAbs_mul x y
  have h3 : ((X.toNat * Y.toNat : Nat) : Int) = X * Y := by rw [Int.natCast_mul, Int.toNat_of_nonneg (by omega), Int.toNat_of_nonneg (by omega)]
  omega

theorem rat_eq (a b c d : Int) (hb : 1 ≤ b) (hd : 1 ≤ d) (h1 : Int.gcd a b = 1) (h2 : Int.gcd c d = 1) (h : a * d = c * b) : a = c ∧ b = d := by
  have hn : a.natAbs * d.natAbs = c.natAbs * b.natAbs := by rw [← Int.natAbs_mul, ← Int.natAbs_mul, h]
  have e1 : b.natAbs ∣ d.natAbs := by
    have : Nat.Coprime b.natAbs a.natAbs := by unfold Nat.Coprime; rw [Nat.gcd_comm]; exact h1
    exact this.dvd_of_dvd_mul_left ⟨c.natAbs, by rw [hn, Nat.mul_comm]⟩
  have e2 : d.natAbs ∣ b.natAbs := by
    have : Nat.Coprime d.natAbs c.natAbs := by unfold Nat.Coprime; rw [Nat.gcd_comm]; exact h2
    exact this.dvd_of_dvd_mul_left ⟨a.natAbs, by rw [← hn, Nat.mul_comm]⟩
  have e3 : b.natAbs = d.natAbs := Nat.dvd_antisymm e1 e2
  have e4 : b = d := by omega
  subst e4
  exact ⟨Int.eq_of_mul_eq_mul_right (by omega) h, rfl⟩
theorem vld_gcd {n d : Int} (h : vldB n d = true) : Int.gcd n d = 1 := by unfold vldB at h; simp at h; exact h.2
theorem vld_eq {a b c d : Int} (hu : vldB a b = true) (hv : vldB c d = true) (h : a * d = c * b) : a = c ∧ b = d :=
  rat_eq a b c d (vld_bd hu).2.2.1 (vld_bd hv).2.2.1 (vld_gcd hu) (vld_gcd hv) h

def rndF (n d way : Int) : Int := if way = 2 ∧ n - n / d * d > 0 ∨ way = 3 ∧ (n - n / d * d > d - (n - n / d * d) ∨ n - n / d * d = d - (n - n / d * d) ∧ n / d % 2 ≠ 0) then n / d + 1 else n / d

theorem div_bd (n d : Int) (hd : 1 ≤ d) : n / d * d ≤ n ∧ n < n / d * d + d := by
  have h1 := Int.mul_ediv_add_emod n d
  have h2 := Int.emod_nonneg n (b := d) (by omega)
  have h3 := Int.emod_lt_of_pos n (b := d) (by omega)
  have h4 : d * (n / d) = n / d * d := Int.mul_comm _ _
  omega

theorem div_uniq {n d q : Int} (hd : 1 ≤ d) (h1 : q * d ≤ n) (h2 : n < q * d + d) : n / d = q := by
  have hb := div_bd n d hd
  have e1 : n / d < q + 1 := by
    refine Int.lt_of_mul_lt_mul_right (a := d) ?_ (by omega)
    rw [Int.add_mul, Int.one_mul]; omega
  have e2 : q < n / d + 1 := by
    refine Int.lt_of_mul_lt_mul_right (a := d) ?_ (by omega)
    rw [Int.add_mul, Int.one_mul]; omega
  omega

theorem tdiv_floor (n d : Int) (hd : 1 ≤ d) : n / d = if n.tmod d < 0 then n.tdiv d - 1 else n.tdiv d := by
  have h1 := Int.mul_tdiv_add_tmod n d
  have h2 := Int.tmod_lt_of_pos n (b := d) (by omega)
  have h3 : -d < n.tmod d := by
    have : (n.tmod d).natAbs < d.natAbs := by rw [Int.natAbs_tmod]; exact Nat.mod_lt _ (by omega)
    omega
  have h4 : d * n.tdiv d = n.tdiv d * d := Int.mul_comm _ _
  split
  · refine div_uniq hd ?_ ?_ <;> rw [Int.sub_mul, Int.one_mul] <;> omega
  · refine div_uniq hd ?_ ?_ <;> omega

theorem neg_floor (n d : Int) (hd : 1 ≤ d) : -((-n) / d) = if n - n / d * d > 0 then n / d + 1 else n / d := by
  have hb := div_bd n d hd
  split
  · have : (-n) / d = -(n / d + 1) := by
      refine div_uniq hd ?_ ?_ <;> rw [Int.neg_mul, Int.add_mul, Int.one_mul] <;> omega
    omega
  · have : (-n) / d = -(n / d) := by
      refine div_uniq hd ?_ ?_ <;> rw [Int.neg_mul] <;> omega
    omega

theorem div_le (n d : Int) (hd : 1 ≤ d) (X : Int) (h1 : -X ≤ n) (h2 : n ≤ X) (hX : 0 ≤ X) : -X ≤ n / d ∧ n / d ≤ X := by
  have hb := div_bd n d hd
  constructor
  · have : -X - 1 < n / d := by
      refine Int.lt_of_mul_lt_mul_right (a := d) ?_ (by omega)
      have : (-X - 1) * d = -(X * d) - d := by rw [Int.sub_mul, Int.neg_mul, Int.one_mul]
      have h5 : X * 1 ≤ X * d := Int.mul_le_mul_of_nonneg_left hd hX
      omega
    omega
  · have : n / d < X + 1 := by
      refine Int.lt_of_mul_lt_mul_right (a := d) ?_ (by omega)
      have : (X + 1) * d = X * d + d := by rw [Int.add_mul, Int.one_mul]
      have h5 : X * 1 ≤ X * d := Int.mul_le_mul_of_nonneg_left hd hX
      omega
    omega

theorem rnd_down (n d : Int) (hd : 1 ≤ d) : rndF n d 1 = if n.tmod d < 0 then n.tdiv d - 1 else n.tdiv d := by
  rw [← tdiv_floor n d hd]; simp [rndF]
theorem rnd_up (n d : Int) (hd : 1 ≤ d) : rndF n d 2 = -(rndF (-n) d 1) := by
  have h := neg_floor n d hd
  simp [rndF] at h ⊢; omega
def roundF (n d way : Int) : Int × Int := if vldB n d = true ∧ (way = 1 ∨ way = 2 ∨ way = 3) then (rndF n d way, 0) else (0, 1)
def partF (n a b way : Int) : Int × Int :=
  if vldB a b = true ∧ (way = 1 ∨ way = 2 ∨ way = 3) ∧ wthB n 1000000000 = true then (if wthB (rndF (n * a) b way) 1000000000 then (rndF (n * a) b way, 0) else (0, 3)) else (0, 1)

/-- A value whose numbers these are. -/
def ratV (n d : Int) : Value := .agg #[.int .i64 n, .int .i64 d]
def resV (x : Int × Int × Int) : Value := .tuple #[.agg #[.int .i64 x.1, .int .i64 x.2.1], .int .i64 x.2.2]

theorem bcellQ {W w1 : World} (hb : Below W.heap.size W w1) : (∀ b o, b < W.heap.size → w1.cell? ⟨b, o, none⟩ = W.cell? ⟨b, o, none⟩) ∧ (∀ b o, b < W.heap.size → w1.frozen? ⟨b, o, none⟩ = W.frozen? ⟨b, o, none⟩) :=
  ⟨fun b o h => hb.cell (p := ⟨b, o, none⟩) h, fun b o h => hb.frozen (p := ⟨b, o, none⟩) h⟩

/-- The cells of one box of two numbers, in a world that has grown since. -/
theorem hold2 {B : Nat} {x y : Value} {w0 W w1 : World} (h : W.cell? ⟨B, 0, none⟩ = some x ∧ W.cell? ⟨B, 1, none⟩ = some y ∧ B < W.heap.size ∧ Below B w0 W) (hb : Below W.heap.size W w1) :
    w1.cell? ⟨B, 0, none⟩ = some x ∧ w1.cell? ⟨B, 1, none⟩ = some y ∧ B < w1.heap.size ∧ Below B w0 w1 := by
  obtain ⟨h1, h2, h3, h4⟩ := h
  exact ⟨((bcellQ hb).1 _ _ h3).trans h1, ((bcellQ hb).1 _ _ h3).trans h2, Nat.lt_of_lt_of_le h3 hb.size, h4.trans (hb.mono (Nat.le_of_lt h3))⟩

theorem red_self (n d : Int) (hd : 1 ≤ d) : (redN n d == n && redD n d == d) = decide (Int.gcd n d = 1) := by
  have hp := gcd_pos n d (by omega)
  unfold redN redD
  rw [common_eq n d (by omega), if_neg (by omega)]
  by_cases h : Int.gcd n d = 1
  · simp [h]
  · have hne : d.tdiv (Int.gcd n d : Int) ≠ d := by
      intro e
      have h2 : (2 : Int) ≤ (Int.gcd n d : Int) := by omega
      rw [Int.tdiv_eq_ediv_of_nonneg (by omega)] at e
      have := Int.ediv_lt_self_of_pos_of_ne_one (x := d) (y := (Int.gcd n d : Int)) (by omega) (by omega)
      omega
    simp [h, hne]

end Go.Proofs.YthnlenbfknbmcaaGreatDoor
namespace Go.Proofs.YthnlenbfknbmcaaGreatDoor
open Go.RowKit

set_option maxHeartbeats 400000 in
theorem divisor_any (p : Addr) (k : Nat) : ∀ (a b : Int) (w : World), b.natAbs ≤ k → -4611686018427387904 ≤ a → a ≤ 4611686018427387904 → -4611686018427387904 ≤ b → b ≤ 4611686018427387904 →
    w.cell? p = some (.func (.func 134) #[] #[.pointer (some p)]) →
    Calls Tryz.prog 134 #[.int .i64 a, .int .i64 b, .pointer (some p)] w fun e w' => e = .returned (.int .i64 (dv k a b)) ∧ ∃ n, w' = w.drewN n := by
  induction k with
  | zero =>
    intro a b w hk _ _ _ _ hc
    have hb : (b == 0) = true := by rw [beq_iff_eq]; omega
    go_enter Tryz.func134, Tryz.ntmps134
    go_wp2_with fail
    go_ret
    exact ⟨rfl, 0, rfl⟩
  | succ k ih =>
    intro a b w hk h1 h2 h3 h4 hc
    by_cases hb : b = 0
    · subst hb
      go_enter Tryz.func134, Tryz.ntmps134
      go_wp2_with fail
      go_ret
      exact ⟨by simp [dv], 0, rfl⟩
    · have hb' : (b == 0) = false := by simpa using hb
      go_enter Tryz.func134, Tryz.ntmps134
      have hlt := tmod_lt a b hb
      go_wp2_with fail
      go_quiet ((go_at_call 134; exact Calls.quiet_of (ih b (a.tmod b) _ (by omega) (by omega) (by omega) (by omega) (by omega) (by simpa using hc))))
      go_wp2_with fail
      go_ret
      exact ⟨by rw [dv, if_neg hb]; rfl, _, rfl⟩

set_option maxHeartbeats 400000 in
theorem reduce_any (n d : Int) (w : World) (h1 : -4000000000000000000 ≤ n) (h2 : n ≤ 4000000000000000000) (h3 : -4000000000000000000 ≤ d) (h4 : d ≤ 4000000000000000000) (hd : d ≠ 0) :
    Calls Tryz.prog 117 #[.int .i64 n, .int .i64 d] w (Ret (.agg #[.int .i64 (redN n d), .int .i64 (redD n d)]) w) := by
  have hmf : ∀ (fn : Fn) (first cap : Array Value) (w : World), (Instr.makeFunc fn first cap).run Tryz.prog w = .ok (.func fn first cap) w := fun _ _ _ _ => rfl
  go_enter Tryz.func117, Tryz.ntmps117
  have hg1 := dv_gcd d.natAbs n d (Nat.le_refl _)
  have hg2 : Int.gcd n d ≤ d.natAbs := Nat.gcd_le_right _ (by omega)
  have hg3 : 0 < Int.gcd n d := Nat.gcd_pos_of_pos_right _ (by omega)
  go_wp2_with fail
  refine (divisor_any _ d.natAbs n d _ (Nat.le_refl _) (by omega) (by omega) (by omega) (by omega) (by simp)).mono ?_
  rintro e w1 ⟨rfl, nq, rfl⟩
  generalize hgg : dv d.natAbs n d = g at *
  have Hg := Lib.hid hgg
  have hb1 : -4000000000000000000 ≤ g := by omega
  have hb2 : g ≤ 4000000000000000000 := by omega
  have hb3 : g ≠ 0 := by omega
  clear hgg hg1 hg2 hg3
  by_cases hn : g < 0
  · by_cases hd0 : d < 0
    · go_wp2_with fail
      go_region
      all_goals go_wp2_with fail
      refine bodyPost_ret (v := .agg #[.int .i64 (wrap64 (n.tdiv g)), .int .i64 (wrap64 (d.tdiv g))]) (by simp [results, Tryz.results117, go_sem]) rfl (Ret.mk ?_ ?_)
      · rw [wrap_tdiv _ _ (by omega) (by omega), wrap_tdiv _ _ (by omega) (by omega)]; unfold redN redD common; rw [Hg.out]; simp [hn, hd0]
      · (repeat (first | exact Below.refl _ _ | assumption | refine Below.drew ?_ | refine below_drewN ?_ _ | refine Below.setCell ?_ (by first | omega | (simp <;> omega)) _ | refine Below.alloc ?_ (by first | omega | (simp <;> omega)) _))
    · have hdd : decide (d < 0) = false := by simpa using hd0
      go_wp2_with fail
      go_region
      all_goals go_wp2_with fail
      refine bodyPost_ret (v := .agg #[.int .i64 (wrap64 (n.tdiv (-g))), .int .i64 (wrap64 (d.tdiv (-g)))]) (by simp [results, Tryz.results117, go_sem]) rfl (Ret.mk ?_ ?_)
      · rw [wrap_tdiv _ _ (by omega) (by omega), wrap_tdiv _ _ (by omega) (by omega)]; unfold redN redD common; rw [Hg.out]; simp [hn, hd0]
      · (repeat (first | exact Below.refl _ _ | assumption | refine Below.drew ?_ | refine below_drewN ?_ _ | refine Below.setCell ?_ (by first | omega | (simp <;> omega)) _ | refine Below.alloc ?_ (by first | omega | (simp <;> omega)) _))
  · by_cases hd0 : d < 0
    · have hnn : decide (g < 0) = false := by simpa using hn
      go_wp2_with fail
      go_region
      all_goals go_wp2_with fail
      refine bodyPost_ret (v := .agg #[.int .i64 (wrap64 (n.tdiv (-g))), .int .i64 (wrap64 (d.tdiv (-g)))]) (by simp [results, Tryz.results117, go_sem]) rfl (Ret.mk ?_ ?_)
      · rw [wrap_tdiv _ _ (by omega) (by omega), wrap_tdiv _ _ (by omega) (by omega)]; unfold redN redD common; rw [Hg.out]; simp [hn, hd0]
      · (repeat (first | exact Below.refl _ _ | assumption | refine Below.drew ?_ | refine below_drewN ?_ _ | refine Below.setCell ?_ (by first | omega | (simp <;> omega)) _ | refine Below.alloc ?_ (by first | omega | (simp <;> omega)) _))
    · have hnn : decide (g < 0) = false := by simpa using hn
      have hdd : decide (d < 0) = false := by simpa using hd0
      go_wp2_with fail
      go_region
      all_goals go_wp2_with fail
      refine bodyPost_ret (v := .agg #[.int .i64 (n.tdiv g), .int .i64 (d / g)]) (by simp [results, Tryz.results117, go_sem]) rfl (Ret.mk ?_ ?_)
      · rw [show d / g = d.tdiv g from (Int.tdiv_eq_ediv_of_nonneg (by omega)).symm]; unfold redN redD common; rw [Hg.out, hnn, hdd]; rfl
      · (repeat (first | exact Below.refl _ _ | assumption | refine Below.drew ?_ | refine below_drewN ?_ _ | refine Below.setCell ?_ (by first | omega | (simp <;> omega)) _ | refine Below.alloc ?_ (by first | omega | (simp <;> omega)) _))
end Go.Proofs.YthnlenbfknbmcaaGreatDoor
namespace Go.Proofs.YthnlenbfknbmcaaGreatDoor
open Go.RowKit

theorem rat_held : Tryz.prog.stoodInHeld 46 = false := by kernel_rfl
theorem eql_rat (a b c d : Int) (w : World) : (binOp .eql 46 (.agg #[.int .i64 a, .int .i64 b]) (.agg #[.int .i64 c, .int .i64 d])).run Tryz.prog w = .ok (.bool (a == c && b == d)) w := by
  have hu : Tryz.prog.underlying 46 = some (.struct (Tryz.prog.fieldsOf 46)) := by kernel_rfl
  simp only [binOp]
  by_cases h1 : a = c <;> by_cases h2 : b = d <;> simp [Op.equal, Op.maxDepth, run_equalIn_struct _ _ _ _ _ hu rat_held, Op.eqFields, go_sem, h1, h2]
theorem neq_rat (a b c d : Int) (w : World) : (binOp .neq 46 (.agg #[.int .i64 a, .int .i64 b]) (.agg #[.int .i64 c, .int .i64 d])).run Tryz.prog w = .ok (.bool (!(a == c && b == d))) w := by
  have hu : Tryz.prog.underlying 46 = some (.struct (Tryz.prog.fieldsOf 46)) := by kernel_rfl
  simp only [binOp]
  by_cases h1 : a = c <;> by_cases h2 : b = d <;> simp [Op.equal, Op.maxDepth, run_equalIn_struct _ _ _ _ _ hu rat_held, Op.eqFields, go_sem, h1, h2]
end Go.Proofs.YthnlenbfknbmcaaGreatDoor
namespace Go.Proofs.YthnlenbfknbmcaaGreatDoor
open Go.RowKit

set_option maxHeartbeats 400000 in
theorem within_any (n m : Int) (w : World) (h1 : 0 ≤ m) (h2 : m ≤ 1000000000000000) : Calls Tryz.prog 106 #[.int .i64 n, .int .i64 m] w (Same (.bool (wthB n m)) w) := by
  by_cases hA : -m ≤ n
  · go_enter Tryz.func106, Tryz.ntmps106
    go_wp2_with fail
    go_ret
    exact Same.mk (boolV (by unfold wthB; simp; omega)) rfl
  · have hA' : decide (-m ≤ n) = false := by simpa using hA
    go_enter Tryz.func106, Tryz.ntmps106
    go_wp2_with fail
    go_ret
    exact Same.mk (boolV (by unfold wthB; simp; omega)) rfl

set_option maxHeartbeats 400000 in
theorem fits_any (n d : Int) (w : World) : Calls Tryz.prog 118 #[ratV n d] w (Ret (.bool (fitB n d)) w) := by
  unfold ratV
  cases hw : wthB n 1000000000 with
  | false =>
    have Hw := Lib.hid hw
    clear hw
    go_enter Tryz.func118, Tryz.ntmps118
    go_wp2_with (go_at_call 106; refine (within_any _ _ _ (by omega) (by omega)).mono ?_; rw [Hw.out]; rintro e w' ⟨rfl, rfl⟩)
    go_ret
    exact Ret.mk (boolV (by have := Hw.out; unfold wthB at this; unfold fitB; simp at this ⊢; omega)) (by (repeat (first | exact Below.refl _ _ | assumption | refine Below.drew ?_ | refine below_drewN ?_ _ | refine Below.setCell ?_ (by first | omega | (simp <;> omega)) _ | refine Below.alloc ?_ (by first | omega | (simp <;> omega)) _)))
  | true =>
    have Hw := Lib.hid hw
    clear hw
    by_cases hd : 1 ≤ d
    · go_enter Tryz.func118, Tryz.ntmps118
      go_wp2_with (go_at_call 106; refine (within_any _ _ _ (by omega) (by omega)).mono ?_; rw [Hw.out]; rintro e w' ⟨rfl, rfl⟩)
      go_ret
      exact Ret.mk (boolV (by have := Hw.out; unfold wthB at this; unfold fitB; simp at this ⊢; omega)) (by (repeat (first | exact Below.refl _ _ | assumption | refine Below.drew ?_ | refine below_drewN ?_ _ | refine Below.setCell ?_ (by first | omega | (simp <;> omega)) _ | refine Below.alloc ?_ (by first | omega | (simp <;> omega)) _)))
    · have hd' : decide (1 ≤ d) = false := by simpa using hd
      go_enter Tryz.func118, Tryz.ntmps118
      go_wp2_with (go_at_call 106; refine (within_any _ _ _ (by omega) (by omega)).mono ?_; rw [Hw.out]; rintro e w' ⟨rfl, rfl⟩)
      go_ret
      exact Ret.mk (boolV (by have := Hw.out; unfold wthB at this; unfold fitB; simp at this ⊢; omega)) (by (repeat (first | exact Below.refl _ _ | assumption | refine Below.drew ?_ | refine below_drewN ?_ _ | refine Below.setCell ?_ (by first | omega | (simp <;> omega)) _ | refine Below.alloc ?_ (by first | omega | (simp <;> omega)) _)))

theorem fits_at {b : Bool} (n d : Int) (w : World) (h : fitB n d = b) : Calls Tryz.prog 118 #[.agg #[.int .i64 n, .int .i64 d]] w (Ret (.bool b) w) := by subst h; exact fits_any n d w

set_option maxHeartbeats 400000 in
theorem settle_any (n d : Int) (w : World) (h1 : -4000000000000000000 ≤ n) (h2 : n ≤ 4000000000000000000) (h3 : -4000000000000000000 ≤ d) (h4 : d ≤ 4000000000000000000) (hd : d ≠ 0) :
    Calls Tryz.prog 107 #[.int .i64 n, .int .i64 d] w (Ret (resV (setl n d)) w) := by
  cases hw : fitB (redN n d) (redD n d) with
  | false =>
    have Hw := Lib.hid hw
    clear hw
    have hb : Below w.heap.size w w := Below.refl _ _
    go_enter Tryz.func107, Tryz.ntmps107
    go_wp2_with fail
    refine (reduce_any n d _ (by omega) (by omega) (by omega) (by omega) (by omega)).mono ?_
    rintro e w1 ⟨rfl, hx⟩
    try clear c0_o1 c1_o1 f0_o1 f1_o1 z_o1
    first | have o1 := (Own.new w _ _).below hx | have o1 := ((Own.new w _ _).alloc _).below hx | have o1 := (((Own.new w _ _).alloc _).alloc _).below hx | have o1 := ((((Own.new w _ _).alloc _).alloc _).alloc _).below hx | have o1 := ((Own.new w _ _).set2 _ _).below hx | have o1 := (((Own.new w _ _).setCell (by simp <;> omega) _).setCell (by simp <;> omega) _).below hx
    obtain ⟨c0_o1, c1_o1, f0_o1, f1_o1, z_o1⟩ := o1.two
    replace hb : Below w.heap.size w w1 := Below.trans (by (repeat (first | exact Below.refl _ _ | assumption | refine Below.drew ?_ | refine below_drewN ?_ _ | refine Below.setCell ?_ (by first | omega | (simp <;> omega)) _ | refine Below.alloc ?_ (by have := hb.size; first | omega | (simp <;> omega)) _))) (hx.mono (by have := hb.size; first | omega | (simp <;> omega)))
    clear hx
    go_wp2_with fail
    refine (fits_at _ _ _ Hw.out).mono ?_
    rintro e w2 ⟨rfl, hx⟩
    try clear c0_o1 c1_o1 f0_o1 f1_o1 z_o1
    first | replace o1 := o1.below hx | replace o1 := (o1.alloc _).below hx | replace o1 := ((o1.alloc _).alloc _).below hx | replace o1 := (((o1.alloc _).alloc _).alloc _).below hx | replace o1 := (o1.set2 _ _).below hx | replace o1 := ((o1.setCell (by simp <;> omega) _).setCell (by simp <;> omega) _).below hx
    obtain ⟨c0_o1, c1_o1, f0_o1, f1_o1, z_o1⟩ := o1.two
    replace hb : Below w.heap.size w w2 := Below.trans (by (repeat (first | exact Below.refl _ _ | assumption | refine Below.drew ?_ | refine below_drewN ?_ _ | refine Below.setCell ?_ (by first | omega | (simp <;> omega)) _ | refine Below.alloc ?_ (by have := hb.size; first | omega | (simp <;> omega)) _))) (hx.mono (by have := hb.size; first | omega | (simp <;> omega)))
    clear hx
    go_wp2_with fail
    refine bodyPost_ret (v := .tuple #[.agg #[.int .i64 0, .int .i64 0], .int .i64 3]) (by simp [results, Tryz.results107, go_sem, c0_o1, c1_o1]) rfl (Ret.mk (by simp [resV, setl, Hw.out]) (by (have hbs := hb.size; repeat (first | exact Below.refl _ _ | assumption | refine Below.drew ?_ | refine below_drewN ?_ _ | refine Below.setCell ?_ (by first | omega | (simp <;> omega)) _ | refine Below.alloc ?_ (by first | omega | (simp <;> omega)) _))))
  | true =>
    have Hw := Lib.hid hw
    clear hw
    have hb : Below w.heap.size w w := Below.refl _ _
    go_enter Tryz.func107, Tryz.ntmps107
    go_wp2_with fail
    refine (reduce_any n d _ (by omega) (by omega) (by omega) (by omega) (by omega)).mono ?_
    rintro e w1 ⟨rfl, hx⟩
    try clear c0_o1 c1_o1 f0_o1 f1_o1 z_o1
    first | have o1 := (Own.new w _ _).below hx | have o1 := ((Own.new w _ _).alloc _).below hx | have o1 := (((Own.new w _ _).alloc _).alloc _).below hx | have o1 := ((((Own.new w _ _).alloc _).alloc _).alloc _).below hx | have o1 := ((Own.new w _ _).set2 _ _).below hx | have o1 := (((Own.new w _ _).setCell (by simp <;> omega) _).setCell (by simp <;> omega) _).below hx
    obtain ⟨c0_o1, c1_o1, f0_o1, f1_o1, z_o1⟩ := o1.two
    replace hb : Below w.heap.size w w1 := Below.trans (by (repeat (first | exact Below.refl _ _ | assumption | refine Below.drew ?_ | refine below_drewN ?_ _ | refine Below.setCell ?_ (by first | omega | (simp <;> omega)) _ | refine Below.alloc ?_ (by have := hb.size; first | omega | (simp <;> omega)) _))) (hx.mono (by have := hb.size; first | omega | (simp <;> omega)))
    clear hx
    go_wp2_with fail
    refine (fits_at _ _ _ Hw.out).mono ?_
    rintro e w2 ⟨rfl, hx⟩
    try clear c0_o1 c1_o1 f0_o1 f1_o1 z_o1
    first | replace o1 := o1.below hx | replace o1 := (o1.alloc _).below hx | replace o1 := ((o1.alloc _).alloc _).below hx | replace o1 := (((o1.alloc _).alloc _).alloc _).below hx | replace o1 := (o1.set2 _ _).below hx | replace o1 := ((o1.setCell (by simp <;> omega) _).setCell (by simp <;> omega) _).below hx
    obtain ⟨c0_o1, c1_o1, f0_o1, f1_o1, z_o1⟩ := o1.two
    try clear c0_o2 c1_o2 f0_o2 f1_o2 z_o2
    first | have o2 := (Own.new w1 _ _).below hx | have o2 := ((Own.new w1 _ _).alloc _).below hx | have o2 := (((Own.new w1 _ _).alloc _).alloc _).below hx | have o2 := ((((Own.new w1 _ _).alloc _).alloc _).alloc _).below hx | have o2 := ((Own.new w1 _ _).set2 _ _).below hx | have o2 := (((Own.new w1 _ _).setCell (by simp <;> omega) _).setCell (by simp <;> omega) _).below hx
    obtain ⟨c0_o2, c1_o2, f0_o2, f1_o2, z_o2⟩ := o2.two
    replace hb : Below w.heap.size w w2 := Below.trans (by (repeat (first | exact Below.refl _ _ | assumption | refine Below.drew ?_ | refine below_drewN ?_ _ | refine Below.setCell ?_ (by first | omega | (simp <;> omega)) _ | refine Below.alloc ?_ (by have := hb.size; first | omega | (simp <;> omega)) _))) (hx.mono (by have := hb.size; first | omega | (simp <;> omega)))
    clear hx
    go_wp2_with fail
    refine bodyPost_ret (v := .tuple #[.agg #[.int .i64 (redN n d), .int .i64 (redD n d)], .int .i64 0]) (by simp [results, Tryz.results107, go_sem, c0_o1, c1_o1]) rfl (Ret.mk (by simp [resV, setl, Hw.out]) (by (have hbs := hb.size; repeat (first | exact Below.refl _ _ | assumption | refine Below.drew ?_ | refine below_drewN ?_ _ | refine Below.setCell ?_ (by first | omega | (simp <;> omega)) _ | refine Below.alloc ?_ (by first | omega | (simp <;> omega)) _))))
end Go.Proofs.YthnlenbfknbmcaaGreatDoor
namespace Go.Proofs.YthnlenbfknbmcaaGreatDoor
open Go.RowKit

theorem within_at {b : Bool} (n m : Int) (w : World) (h1 : 0 ≤ m) (h2 : m ≤ 1000000000000000) (h : wthB n m = b) : Calls Tryz.prog 106 #[.int .i64 n, .int .i64 m] w (Same (.bool b) w) := by subst h; exact within_any n m w h1 h2
theorem settle_at (n d : Int) (w : World) (h1 : -4000000000000000000 ≤ n) (h2 : n ≤ 4000000000000000000) (h3 : -4000000000000000000 ≤ d) (h4 : d ≤ 4000000000000000000) (hd : d ≠ 0) :
    Calls Tryz.prog 107 #[.int .i64 n, .int .i64 d] w (Ret (.tuple #[.agg #[.int .i64 (setl n d).1, .int .i64 (setl n d).2.1], .int .i64 (setl n d).2.2]) w) := settle_any n d w h1 h2 h3 h4 hd

set_option maxHeartbeats 400000 in
theorem make_any (n d : Int) (w : World) : Calls Tryz.prog 98 #[.int .i64 n, .int .i64 d] w (Ret (resV (mkF n d)) w) := by
  by_cases h0 : d = 0
  · subst h0
    go_enter Tryz.func98, Tryz.ntmps98
    go_wp2_with fail
    refine bodyPost_ret (v := .tuple #[.agg #[.int .i64 0, .int .i64 0], .int .i64 1]) (by simp [results, Tryz.results98, go_sem]) rfl (Ret.mk (by simp [resV, mkF]) (by (repeat (first | exact Below.refl _ _ | assumption | refine Below.drew ?_ | refine below_drewN ?_ _ | refine Below.setCell ?_ (by first | omega | (simp <;> omega)) _ | refine Below.alloc ?_ (by first | omega | (simp <;> omega)) _))))
  · have h0' : (d == 0) = false := by simpa using h0
    cases hn : wthB n 1000000000000000 with
    | false =>
      have Hn := Lib.hid hn
      clear hn
      go_enter Tryz.func98, Tryz.ntmps98
      go_wp2_with fail
      refine (within_at _ _ _ (by omega) (by omega) Hn.out).mono ?_
      rintro e w' ⟨rfl, rfl⟩
      go_wp2_with fail
      refine bodyPost_ret (v := .tuple #[.agg #[.int .i64 0, .int .i64 0], .int .i64 1]) (by simp [results, Tryz.results98, go_sem]) rfl (Ret.mk (by simp [resV, mkF, Hn.out]) (by (repeat (first | exact Below.refl _ _ | assumption | refine Below.drew ?_ | refine below_drewN ?_ _ | refine Below.setCell ?_ (by first | omega | (simp <;> omega)) _ | refine Below.alloc ?_ (by first | omega | (simp <;> omega)) _))))
    | true =>
      have Hn := Lib.hid hn
      clear hn
      cases hd : wthB d 1000000000000000 with
      | false =>
        have Hd := Lib.hid hd
        clear hd
        go_enter Tryz.func98, Tryz.ntmps98
        go_wp2_with fail
        refine (within_at _ _ _ (by omega) (by omega) Hn.out).mono ?_
        rintro e w' ⟨rfl, rfl⟩
        go_wp2_with fail
        refine (within_at _ _ _ (by omega) (by omega) Hd.out).mono ?_
        rintro e w' ⟨rfl, rfl⟩
        go_wp2_with fail
        refine bodyPost_ret (v := .tuple #[.agg #[.int .i64 0, .int .i64 0], .int .i64 1]) (by simp [results, Tryz.results98, go_sem]) rfl (Ret.mk (by simp [resV, mkF, Hd.out]) (by (repeat (first | exact Below.refl _ _ | assumption | refine Below.drew ?_ | refine below_drewN ?_ _ | refine Below.setCell ?_ (by first | omega | (simp <;> omega)) _ | refine Below.alloc ?_ (by first | omega | (simp <;> omega)) _))))
      | true =>
        have Hd := Lib.hid hd
        clear hd
        have bn := Hn.out
        have bd := Hd.out
        simp [wthB] at bn bd
        have hb : Below w.heap.size w w := Below.refl _ _
        go_enter Tryz.func98, Tryz.ntmps98
        go_wp2_with fail
        refine (within_at _ _ _ (by omega) (by omega) Hn.out).mono ?_
        rintro e w' ⟨rfl, rfl⟩
        go_wp2_with fail
        refine (within_at _ _ _ (by omega) (by omega) Hd.out).mono ?_
        rintro e w' ⟨rfl, rfl⟩
        go_wp2_with fail
        refine (settle_at n d _ (by omega) (by omega) (by omega) (by omega) h0).mono ?_
        rintro e w1 ⟨rfl, hx⟩
        try clear c0_o1 c1_o1 f0_o1 f1_o1 z_o1
        first | have o1 := (Own.new w _ _).below hx | have o1 := ((Own.new w _ _).alloc _).below hx | have o1 := (((Own.new w _ _).alloc _).alloc _).below hx | have o1 := ((((Own.new w _ _).alloc _).alloc _).alloc _).below hx | have o1 := ((Own.new w _ _).set2 _ _).below hx | have o1 := (((Own.new w _ _).setCell (by simp <;> omega) _).setCell (by simp <;> omega) _).below hx
        obtain ⟨c0_o1, c1_o1, f0_o1, f1_o1, z_o1⟩ := o1.two
        replace hb : Below w.heap.size w w1 := Below.trans (by (repeat (first | exact Below.refl _ _ | assumption | refine Below.drew ?_ | refine below_drewN ?_ _ | refine Below.setCell ?_ (by first | omega | (simp <;> omega)) _ | refine Below.alloc ?_ (by have := hb.size; first | omega | (simp <;> omega)) _))) (hx.mono (by have := hb.size; first | omega | (simp <;> omega)))
        clear hx
        go_wp2_with fail
        refine bodyPost_ret (v := .tuple #[.agg #[.int .i64 (setl n d).1, .int .i64 (setl n d).2.1], .int .i64 (setl n d).2.2]) (by simp [results, Tryz.results98, go_sem, c0_o1, c1_o1]) rfl (Ret.mk (by simp [resV, mkF, Hn.out, Hd.out, h0]) (by (have hbs := hb.size; repeat (first | exact Below.refl _ _ | assumption | refine Below.drew ?_ | refine below_drewN ?_ _ | refine Below.setCell ?_ (by first | omega | (simp <;> omega)) _ | refine Below.alloc ?_ (by first | omega | (simp <;> omega)) _))))

theorem Ret2.eq {x y : Int} {p : Int × Int} (h : p = (x, y)) : Value.tuple #[.int .i64 x, .int .i64 y] = .tuple #[.int .i64 p.1, .int .i64 p.2] := by rw [h]

end Go.Proofs.YthnlenbfknbmcaaGreatDoor
