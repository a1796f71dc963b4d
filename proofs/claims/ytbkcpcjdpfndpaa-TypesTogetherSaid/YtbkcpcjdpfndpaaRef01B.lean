/-
  The walks of the reference of layer 1: Valid, make0.
-/
import Derived.Test.YtbkcpcjdpfndpaaRef01A
namespace Go.Proofs.Ytbkcpcjdpfndpaa
open Go.RowKit

set_option maxHeartbeats 400000 in
theorem r_valid (n d : Int) (w : World) : Calls Try.prog 38 #[.agg #[.int .i64 n, .int .i64 d]] w (Ret (.bool (vldB n d)) w) := by
  by_cases h1 : d < 1
  · go_enter Try.func38, Try.ntmps38
    go_wp2_with fail
    go_ret
    exact Ret.mk (boolV (by unfold vldB fitB; simp; omega)) (by (repeat (first | exact Below.refl _ _ | assumption | refine Below.drew ?_ | refine below_drewN ?_ _ | refine Below.setCell ?_ (by first | omega | (simp <;> omega)) _ | refine Below.alloc ?_ (by first | omega | (simp <;> omega)) _)))
  · have h1' : decide (d < 1) = false := by simpa using h1
    by_cases h2 : 1000000 < d
    · go_enter Try.func38, Try.ntmps38
      go_wp2_with fail
      go_ret
      exact Ret.mk (boolV (by unfold vldB fitB; simp; omega)) (by (repeat (first | exact Below.refl _ _ | assumption | refine Below.drew ?_ | refine below_drewN ?_ _ | refine Below.setCell ?_ (by first | omega | (simp <;> omega)) _ | refine Below.alloc ?_ (by first | omega | (simp <;> omega)) _)))
    · have h2' : decide (1000000 < d) = false := by simpa using h2
      by_cases h3 : n < -1000000000
      · go_enter Try.func38, Try.ntmps38
        go_wp2_with fail
        go_ret
        exact Ret.mk (boolV (by unfold vldB fitB; simp; omega)) (by (repeat (first | exact Below.refl _ _ | assumption | refine Below.drew ?_ | refine below_drewN ?_ _ | refine Below.setCell ?_ (by first | omega | (simp <;> omega)) _ | refine Below.alloc ?_ (by first | omega | (simp <;> omega)) _)))
      · have h3' : decide (n < -1000000000) = false := by simpa using h3
        by_cases h4 : 1000000000 < n
        · go_enter Try.func38, Try.ntmps38
          go_wp2_with fail
          go_ret
          exact Ret.mk (boolV (by unfold vldB fitB; simp; omega)) (by (repeat (first | exact Below.refl _ _ | assumption | refine Below.drew ?_ | refine below_drewN ?_ _ | refine Below.setCell ?_ (by first | omega | (simp <;> omega)) _ | refine Below.alloc ?_ (by first | omega | (simp <;> omega)) _)))
        · have h4' : decide (1000000000 < n) = false := by simpa using h4
          go_enter Try.func38, Try.ntmps38
          go_wp2_with fail
          refine wp_region_up (by kernel_rfl) (by kernel_rfl) ?_
          repeat (go_big_quiet_step (first | (go_at_call 52; exact Same.up (r_abs n _ (by omega) (by omega))) | (go_at_call 51; exact Same.up (r_gcd _ _ _ (by omega) (by omega) (by omega) (by omega)))))
          refine wpQuiet_nil ?_
          rintro w1 ⟨g, rfl⟩
          go_wp2_with fail
          go_ret
          exact Ret.mk (boolV (by rw [show Int.gcd (n.natAbs : Int) d = Int.gcd n d from by simp [Int.gcd]]; unfold vldB fitB; generalize Int.gcd n d = g; simp; omega)) (((Below.refl _ _).alloc (by simp) _).trans ((up_below _ g).mono (by simp)))

theorem r_neg (n d : Int) (hd : d < 0) : redN n d = -(n.tdiv (Int.gcd n d : Int)) ∧ redD n d = -(d.tdiv (Int.gcd n d : Int)) := by
  unfold redN redD
  rw [common_eq n d (by omega), if_pos hd, Int.tdiv_neg, Int.tdiv_neg]
  exact ⟨rfl, rfl⟩
theorem r_pos (n d : Int) (hd : 0 < d) : redN n d = n.tdiv (Int.gcd n d : Int) ∧ redD n d = d.tdiv (Int.gcd n d : Int) := by
  unfold redN redD
  rw [common_eq n d (by omega), if_neg (by omega)]
  exact ⟨rfl, rfl⟩
theorem red_bd (n d : Int) (hd : d ≠ 0) : (redN n d).natAbs ≤ n.natAbs ∧ (redD n d).natAbs ≤ d.natAbs ∧ 1 ≤ redD n d := by
  have hp := gcd_pos n d hd
  have hdv : (Int.gcd n d : Int) ∣ d := Int.gcd_dvd_right ..
  have h1 : (redD n d).natAbs ≤ d.natAbs := tdiv_natAbs_le _ _
  refine ⟨tdiv_natAbs_le _ _, h1, ?_⟩
  obtain ⟨k, hk⟩ := hdv
  have hq : d.tdiv (Int.gcd n d : Int) = k := by
    have : d.tdiv (Int.gcd n d : Int) = ((Int.gcd n d : Int) * k).tdiv (Int.gcd n d : Int) := by rw [← hk]
    rw [this, Int.mul_tdiv_cancel_left _ (by omega)]
  by_cases hs : d < 0
  · rw [(r_neg n d hs).2, hq]
    have : k < 0 := by
      refine Int.lt_of_mul_lt_mul_left (a := (Int.gcd n d : Int)) ?_ (by omega)
      rw [← hk]; omega
    omega
  · rw [(r_pos n d (by omega)).2, hq]
    have : 0 < k := by
      refine Int.lt_of_mul_lt_mul_left (a := (Int.gcd n d : Int)) ?_ (by omega)
      rw [← hk]; omega
    omega

end Go.Proofs.Ytbkcpcjdpfndpaa
