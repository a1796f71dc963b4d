/-
  The walks of the reference of layer 1: Valid, make0.
-/
import Derived.Test.YthnlenbfknbmcaaGreatDoorRef01A
namespace Go.Proofs.YthnlenbfknbmcaaGreatDoor
open Go.RowKit

theorem r_neg (n d : Int) (hd : d < 0) : redN n d = -(n.tdiv (Int.gcd n d : Int)) ∧ redD n d = -(d.tdiv (Int.gcd n d : Int)) := by
  unfold redN redD
  rw [common_eq n d (by omega), if_pos hd, Int.tdiv_neg, Int.tdiv_neg]
  exact ⟨rfl, rfl⟩
theorem r_pos (n d : Int) (hd : 0 < d) : redN n d = n.tdiv (Int.gcd n d : Int) ∧ redD n d = d.tdiv (Int.gcd n d : Int) := by
  unfold redN redD
  rw [common_eq n d (by omega), if_neg (by omega)]
  exact ⟨rfl, rfl⟩
theorem red_bd (n d : Int) (hd : d ≠ 0) : (redN n d).natAbs ≤ n.natAbs ∧ (redD n d).natAbs ≤ d.natAbs ∧ 1 ≤ redD n d := by
  have hp := gcd_pos n d hd
  have hdv : (Int.gcd n d : Int) ∣ d := Int.gcd_dvd_right ..
  have h1 : (redD n d).natAbs ≤ d.natAbs := tdiv_natAbs_le _ _
  refine ⟨tdiv_natAbs_le _ _, h1, ?_⟩
  obtain ⟨k, hk⟩ := hdv
  have hq : d.tdiv (Int.gcd n d : Int) = k := by
    have : d.tdiv (Int.gcd n d : Int) = ((Int.gcd n d : Int) * k).tdiv (Int.gcd n d : Int) := by rw [← hk]
    rw [this, Int.mul_tdiv_cancel_left _ (by omega)]
  by_cases hs : d < 0
  · rw [(r_neg n d hs).2, hq]
    have : k < 0 := by
      refine Int.lt_of_mul_lt_mul_left (a := (Int.gcd n d : Int)) ?_ (by omega)
      rw [← hk]; omega
    omega
  · rw [(r_pos n d (by omega)).2, hq]
    have : 0 < k := by
      refine Int.lt_of_mul_lt_mul_left (a := (Int.gcd n d : Int)) ?_ (by omega)
      rw [← hk]; omega
    omega

set_option maxHeartbeats 400000 in
theorem r_make0 (n d : Int) (w : World) (h1 : -2000000000000000000 ≤ n) (h2 : n ≤ 2000000000000000000) (h3 : -2000000000000000000 ≤ d) (h4 : d ≤ 2000000000000000000) (hd : d ≠ 0) :
    Calls Tryz.prog 39 #[.int .i64 n, .int .i64 d] w (Ret (.tuple #[.agg #[.int .i64 (setl n d).1, .int .i64 (setl n d).2.1], .int .i64 (setl n d).2.2]) w) := by
  have hg1 := gcd_pos n d hd
  have hg2 := gcd_le n d hd
  obtain ⟨b1, b2, b3⟩ := red_bd n d hd
  by_cases hs : d < 0
  · have HG : Hid (Int.gcd (n.natAbs : Int) (-d) = Int.gcd n d) := Lib.hid (by simp [Int.gcd])
    have HN : Hid (wrap64 (-n.tdiv (Int.gcd n d : Int)) = redN n d) := Lib.hid (by rw [(r_neg n d hs).1]; exact IntWalk.wrap64_in _ (by have := tdiv_natAbs_le n (Int.gcd n d : Int); omega))
    have HD : Hid (wrap64 (-d.tdiv (Int.gcd n d : Int)) = redD n d) := Lib.hid (by rw [(r_neg n d hs).2]; exact IntWalk.wrap64_in _ (by have := tdiv_natAbs_le d (Int.gcd n d : Int); omega))
    go_enter Tryz.func39, Tryz.ntmps39
    go_wp2_with fail
    refine (r_abs (-n) _ (by omega) (by omega)).mono ?_
    rintro e w' ⟨rfl, rfl⟩
    go_wp2_with fail
    refine (r_gcd _ _ _ (by omega) (by omega) (by omega) (by omega)).mono ?_
    rintro e w' ⟨rfl, rfl⟩
    rw [HG.out]
    generalize hgg : Int.gcd n d = g at *
    have HG2 := Lib.hid hgg
    clear hgg
    go_wp2_with fail
    go_region
    rw [HN.out, HD.out]
    generalize hx : redN n d = x at *
    generalize hy : redD n d = y at *
    have HX := Lib.hid hx
    have HY := Lib.hid hy
    clear hx hy
    by_cases c1 : 1000000 < y
    · go_wp2_with fail
      refine bodyPost_ret (v := .tuple #[.agg #[.int .i64 0, .int .i64 0], .int .i64 3]) (by simp [results, Tryz.results39, go_sem]) rfl (Ret.mk (by have hf : fitB x y = false := (by simp [fitB]; omega); simp [setl, HX.out, HY.out, hf]) (by (repeat (first | exact Below.refl _ _ | assumption | refine Below.drew ?_ | refine below_drewN ?_ _ | refine Below.setCell ?_ (by first | omega | (simp <;> omega)) _ | refine Below.alloc ?_ (by first | omega | (simp <;> omega)) _))))
    · have c1' : decide (1000000 < y) = false := by simpa using c1
      by_cases c2 : 1000000000 < (x.natAbs : Int)
      · go_wp2_with fail
        refine (r_abs x _ (by omega) (by omega)).mono ?_
        rintro e w' ⟨rfl, rfl⟩
        go_wp2_with fail
        refine bodyPost_ret (v := .tuple #[.agg #[.int .i64 0, .int .i64 0], .int .i64 3]) (by simp [results, Tryz.results39, go_sem]) rfl (Ret.mk (by have hf : fitB x y = false := (by simp [fitB]; omega); simp [setl, HX.out, HY.out, hf]) (by (repeat (first | exact Below.refl _ _ | assumption | refine Below.drew ?_ | refine below_drewN ?_ _ | refine Below.setCell ?_ (by first | omega | (simp <;> omega)) _ | refine Below.alloc ?_ (by first | omega | (simp <;> omega)) _))))
      · have c2' : decide (1000000000 < (x.natAbs : Int)) = false := by simpa using c2
        go_wp2_with fail
        refine (r_abs x _ (by omega) (by omega)).mono ?_
        rintro e w' ⟨rfl, rfl⟩
        go_wp2_with fail
        refine bodyPost_ret (v := .tuple #[.agg #[.int .i64 x, .int .i64 y], .int .i64 0]) (by simp [results, Tryz.results39, go_sem]) rfl (Ret.mk (by have hf : fitB x y = true := (by simp [fitB]; omega); simp [setl, HX.out, HY.out, hf]) (by (repeat (first | exact Below.refl _ _ | assumption | refine Below.drew ?_ | refine below_drewN ?_ _ | refine Below.setCell ?_ (by first | omega | (simp <;> omega)) _ | refine Below.alloc ?_ (by first | omega | (simp <;> omega)) _))))
  · have hs' : decide (d < 0) = false := by simpa using hs
    have HG : Hid (Int.gcd (n.natAbs : Int) d = Int.gcd n d) := Lib.hid (by simp [Int.gcd])
    have HN : Hid (n.tdiv (Int.gcd n d : Int) = redN n d) := Lib.hid (by rw [(r_pos n d (by omega)).1])
    have HD : Hid (d / (Int.gcd n d : Int) = redD n d) := Lib.hid (by rw [(r_pos n d (by omega)).2]; exact (Int.tdiv_eq_ediv_of_nonneg (by omega)).symm)
    go_enter Tryz.func39, Tryz.ntmps39
    go_wp2_with fail
    refine (r_abs n _ (by omega) (by omega)).mono ?_
    rintro e w' ⟨rfl, rfl⟩
    go_wp2_with fail
    refine (r_gcd _ _ _ (by omega) (by omega) (by omega) (by omega)).mono ?_
    rintro e w' ⟨rfl, rfl⟩
    rw [HG.out]
    generalize hgg : Int.gcd n d = g at *
    have HG2 := Lib.hid hgg
    clear hgg
    go_wp2_with fail
    go_region
    rw [HN.out, HD.out]
    generalize hx : redN n d = x at *
    generalize hy : redD n d = y at *
    have HX := Lib.hid hx
    have HY := Lib.hid hy
    clear hx hy
    by_cases c1 : 1000000 < y
    · go_wp2_with fail
      refine bodyPost_ret (v := .tuple #[.agg #[.int .i64 0, .int .i64 0], .int .i64 3]) (by simp [results, Tryz.results39, go_sem]) rfl (Ret.mk (by have hf : fitB x y = false := (by simp [fitB]; omega); simp [setl, HX.out, HY.out, hf]) (by (repeat (first | exact Below.refl _ _ | assumption | refine Below.drew ?_ | refine below_drewN ?_ _ | refine Below.setCell ?_ (by first | omega | (simp <;> omega)) _ | refine Below.alloc ?_ (by first | omega | (simp <;> omega)) _))))
    · have c1' : decide (1000000 < y) = false := by simpa using c1
      by_cases c2 : 1000000000 < (x.natAbs : Int)
      · go_wp2_with fail
        refine (r_abs x _ (by omega) (by omega)).mono ?_
        rintro e w' ⟨rfl, rfl⟩
        go_wp2_with fail
        refine bodyPost_ret (v := .tuple #[.agg #[.int .i64 0, .int .i64 0], .int .i64 3]) (by simp [results, Tryz.results39, go_sem]) rfl (Ret.mk (by have hf : fitB x y = false := (by simp [fitB]; omega); simp [setl, HX.out, HY.out, hf]) (by (repeat (first | exact Below.refl _ _ | assumption | refine Below.drew ?_ | refine below_drewN ?_ _ | refine Below.setCell ?_ (by first | omega | (simp <;> omega)) _ | refine Below.alloc ?_ (by first | omega | (simp <;> omega)) _))))
      · have c2' : decide (1000000000 < (x.natAbs : Int)) = false := by simpa using c2
        go_wp2_with fail
        refine (r_abs x _ (by omega) (by omega)).mono ?_
        rintro e w' ⟨rfl, rfl⟩
        go_wp2_with fail
        refine bodyPost_ret (v := .tuple #[.agg #[.int .i64 x, .int .i64 y], .int .i64 0]) (by simp [results, Tryz.results39, go_sem]) rfl (Ret.mk (by have hf : fitB x y = true := (by simp [fitB]; omega); simp [setl, HX.out, HY.out, hf]) (by (repeat (first | exact Below.refl _ _ | assumption | refine Below.drew ?_ | refine below_drewN ?_ _ | refine Below.setCell ?_ (by first | omega | (simp <;> omega)) _ | refine Below.alloc ?_ (by first | omega | (simp <;> omega)) _))))
end Go.Proofs.YthnlenbfknbmcaaGreatDoor
