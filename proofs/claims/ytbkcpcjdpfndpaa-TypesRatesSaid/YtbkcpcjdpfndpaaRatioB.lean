/-
  The walks of the ratio package: within, fits, Valid, settle, Make and the three operations.
-/
import Derived.Test.YtbkcpcjdpfndpaaRatioA
import Derived.Test.YtbkcpcjdpfndpaaRatEq
import Derived.Deep.RegionHeld3
import Derived.Deep.DeepFit
namespace Go.Proofs.Ytbkcpcjdpfndpaa
open Go.RowKit

set_option maxHeartbeats 400000 in
theorem within_any (n m : Int) (w : World) (h1 : 0 ≤ m) (h2 : m ≤ 1000000000000000) : Calls Try.prog 57 #[.int .i64 n, .int .i64 m] w (Same (.bool (wthB n m)) w) := by
  by_cases hA : -m ≤ n
  · go_enter Try.func57, Try.ntmps57
    go_wp2_with fail
    go_ret
    exact Same.mk (boolV (by unfold wthB; simp; omega)) rfl
  · have hA' : decide (-m ≤ n) = false := by simpa using hA
    go_enter Try.func57, Try.ntmps57
    go_wp2_with fail
    go_ret
    exact Same.mk (boolV (by unfold wthB; simp; omega)) rfl

set_option maxHeartbeats 400000 in
theorem fits_any (n d : Int) (w : World) : Calls Try.prog 49 #[ratV n d] w (Ret (.bool (fitB n d)) w) := by
  unfold ratV
  cases hw : wthB n 1000000000 with
  | false =>
    have Hw := Lib.hid hw
    clear hw
    go_enter Try.func49, Try.ntmps49
    go_wp2_with (go_at_call 57; refine (within_any _ _ _ (by omega) (by omega)).mono ?_; rw [Hw.out]; rintro e w' ⟨rfl, rfl⟩)
    go_ret
    exact Ret.mk (boolV (by have := Hw.out; unfold wthB at this; unfold fitB; simp at this ⊢; omega)) (by (repeat (first | exact Below.refl _ _ | assumption | refine Below.drew ?_ | refine below_drewN ?_ _ | refine Below.setCell ?_ (by first | omega | (simp <;> omega)) _ | refine Below.alloc ?_ (by first | omega | (simp <;> omega)) _)))
  | true =>
    have Hw := Lib.hid hw
    clear hw
    by_cases hd : 1 ≤ d
    · go_enter Try.func49, Try.ntmps49
      go_wp2_with (go_at_call 57; refine (within_any _ _ _ (by omega) (by omega)).mono ?_; rw [Hw.out]; rintro e w' ⟨rfl, rfl⟩)
      go_ret
      exact Ret.mk (boolV (by have := Hw.out; unfold wthB at this; unfold fitB; simp at this ⊢; omega)) (by (repeat (first | exact Below.refl _ _ | assumption | refine Below.drew ?_ | refine below_drewN ?_ _ | refine Below.setCell ?_ (by first | omega | (simp <;> omega)) _ | refine Below.alloc ?_ (by first | omega | (simp <;> omega)) _)))
    · have hd' : decide (1 ≤ d) = false := by simpa using hd
      go_enter Try.func49, Try.ntmps49
      go_wp2_with (go_at_call 57; refine (within_any _ _ _ (by omega) (by omega)).mono ?_; rw [Hw.out]; rintro e w' ⟨rfl, rfl⟩)
      go_ret
      exact Ret.mk (boolV (by have := Hw.out; unfold wthB at this; unfold fitB; simp at this ⊢; omega)) (by (repeat (first | exact Below.refl _ _ | assumption | refine Below.drew ?_ | refine below_drewN ?_ _ | refine Below.setCell ?_ (by first | omega | (simp <;> omega)) _ | refine Below.alloc ?_ (by first | omega | (simp <;> omega)) _)))

theorem fits_at {b : Bool} (n d : Int) (w : World) (h : fitB n d = b) : Calls Try.prog 49 #[.agg #[.int .i64 n, .int .i64 d]] w (Ret (.bool b) w) := by subst h; exact fits_any n d w

set_option maxHeartbeats 400000 in
theorem valid_any (n d : Int) (w : World) : Calls Try.prog 36 #[ratV n d] w (Ret (.bool (vldB n d)) w) := by
  unfold ratV
  cases hw : fitB n d with
  | false =>
    have Hw := Lib.hid hw
    clear hw
    go_enter Try.func36, Try.ntmps36
    go_wp2_with fail
    refine wp_region_up (by kernel_rfl) (by kernel_rfl) ?_
    repeat (go_big_quiet_step (first | (go_at_call 49; exact Ret.up (fits_at n d _ Hw.out))))
    refine wpQuiet_nil ?_
    rintro w1 ⟨g, rfl⟩
    go_wp2_with fail
    go_ret
    exact Ret.mk (boolV (by simp [vldB, Hw.out])) (((Below.refl _ _).alloc (by simp) _).trans ((up_below _ g).mono (by simp)))
  | true =>
    have Hw := Lib.hid hw
    clear hw
    have he := eql_rat
    have ⟨hb1, hb2, hb3, hb4⟩ : -1000000000 ≤ n ∧ n ≤ 1000000000 ∧ 1 ≤ d ∧ d ≤ 1000000 := by have := Hw.out; unfold fitB at this; simpa using this
    go_enter Try.func36, Try.ntmps36
    go_wp2_with fail
    refine wp_region_up (by kernel_rfl) (by kernel_rfl) ?_
    repeat (go_big_quiet_step (first | (go_at_call 49; exact Ret.up (fits_at n d _ Hw.out)) | (go_at_call 50; exact Ret.up (reduce_any n d _ (by omega) (by omega) (by omega) (by omega) (by omega)))))
    refine wpQuiet_nil ?_
    rintro w1 ⟨g, rfl⟩
    go_wp2_with fail
    go_ret
    exact Ret.mk (boolV (by rw [show (_ && _) = _ from red_self n d hb3]; simp [vldB, Hw.out])) (((Below.refl _ _).alloc (by simp) _).trans ((up_below _ g).mono (by simp)))

end Go.Proofs.Ytbkcpcjdpfndpaa
