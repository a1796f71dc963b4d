/-
  The walks of the ratio package: within, fits, Valid, settle, Make and the three operations.
-/
import Derived.Test.YtlkefcbkpohpgaaDoorRatioA
import Derived.Test.YtlkefcbkpohpgaaDoorRatEq
import Derived.Deep.RegionHeld3
import Derived.Deep.DeepFit
namespace Go.Proofs.YtlkefcbkpohpgaaDoor
open Go.RowKit

set_option maxHeartbeats 400000 in
theorem within_any (n m : Int) (w : World) (h1 : 0 ≤ m) (h2 : m ≤ 1000000000000000) : Calls Tryd.prog 84 #[.int .i64 n, .int .i64 m] w (Same (.bool (wthB n m)) w) := by
  by_cases hA : -m ≤ n
  · go_enter Tryd.func84, Tryd.ntmps84
    go_wp2_with fail
    go_ret
    exact Same.mk (boolV (by unfold wthB; simp; omega)) rfl
  · have hA' : decide (-m ≤ n) = false := by simpa using hA
    go_enter Tryd.func84, Tryd.ntmps84
    go_wp2_with fail
    go_ret
    exact Same.mk (boolV (by unfold wthB; simp; omega)) rfl

set_option maxHeartbeats 400000 in
theorem fits_any (n d : Int) (w : World) : Calls Tryd.prog 74 #[ratV n d] w (Ret (.bool (fitB n d)) w) := by
  unfold ratV
  cases hw : wthB n 1000000000 with
  | false =>
    have Hw := Lib.hid hw
    clear hw
    go_enter Tryd.func74, Tryd.ntmps74
    go_wp2_with (go_at_call 84; refine (within_any _ _ _ (by omega) (by omega)).mono ?_; rw [Hw.out]; rintro e w' ⟨rfl, rfl⟩)
    go_ret
    exact Ret.mk (boolV (by have := Hw.out; unfold wthB at this; unfold fitB; simp at this ⊢; omega)) (by (repeat (first | exact Below.refl _ _ | assumption | refine Below.drew ?_ | refine below_drewN ?_ _ | refine Below.setCell ?_ (by first | omega | (simp <;> omega)) _ | refine Below.alloc ?_ (by first | omega | (simp <;> omega)) _)))
  | true =>
    have Hw := Lib.hid hw
    clear hw
    by_cases hd : 1 ≤ d
    · go_enter Tryd.func74, Tryd.ntmps74
      go_wp2_with (go_at_call 84; refine (within_any _ _ _ (by omega) (by omega)).mono ?_; rw [Hw.out]; rintro e w' ⟨rfl, rfl⟩)
      go_ret
      exact Ret.mk (boolV (by have := Hw.out; unfold wthB at this; unfold fitB; simp at this ⊢; omega)) (by (repeat (first | exact Below.refl _ _ | assumption | refine Below.drew ?_ | refine below_drewN ?_ _ | refine Below.setCell ?_ (by first | omega | (simp <;> omega)) _ | refine Below.alloc ?_ (by first | omega | (simp <;> omega)) _)))
    · have hd' : decide (1 ≤ d) = false := by simpa using hd
      go_enter Tryd.func74, Tryd.ntmps74
      go_wp2_with (go_at_call 84; refine (within_any _ _ _ (by omega) (by omega)).mono ?_; rw [Hw.out]; rintro e w' ⟨rfl, rfl⟩)
      go_ret
      exact Ret.mk (boolV (by have := Hw.out; unfold wthB at this; unfold fitB; simp at this ⊢; omega)) (by (repeat (first | exact Below.refl _ _ | assumption | refine Below.drew ?_ | refine below_drewN ?_ _ | refine Below.setCell ?_ (by first | omega | (simp <;> omega)) _ | refine Below.alloc ?_ (by first | omega | (simp <;> omega)) _)))

theorem fits_at {b : Bool} (n d : Int) (w : World) (h : fitB n d = b) : Calls Tryd.prog 74 #[.agg #[.int .i64 n, .int .i64 d]] w (Ret (.bool b) w) := by subst h; exact fits_any n d w

set_option maxHeartbeats 400000 in
theorem valid_any (n d : Int) (w : World) : Calls Tryd.prog 63 #[ratV n d] w (Ret (.bool (vldB n d)) w) := by
  unfold ratV
  cases hw : fitB n d with
  | false =>
    have Hw := Lib.hid hw
    clear hw
    go_enter Tryd.func63, Tryd.ntmps63
    go_wp2_with fail
    refine wp_region_up (by kernel_rfl) (by kernel_rfl) ?_
    repeat (go_big_quiet_step (first | (go_at_call 74; exact Ret.up (fits_at n d _ Hw.out))))
    refine wpQuiet_nil ?_
    rintro w1 ⟨g, rfl⟩
    go_wp2_with fail
    go_ret
    exact Ret.mk (boolV (by simp [vldB, Hw.out])) (((Below.refl _ _).alloc (by simp) _).trans ((up_below _ g).mono (by simp)))
  | true =>
    have Hw := Lib.hid hw
    clear hw
    have he := eql_rat
    have ⟨hb1, hb2, hb3, hb4⟩ : -1000000000 ≤ n ∧ n ≤ 1000000000 ∧ 1 ≤ d ∧ d ≤ 1000000 := by have := Hw.out; unfold fitB at this; simpa using this
    go_enter Tryd.func63, Tryd.ntmps63
    go_wp2_with fail
    refine wp_region_up (by kernel_rfl) (by kernel_rfl) ?_
    repeat (go_big_quiet_step (first | (go_at_call 74; exact Ret.up (fits_at n d _ Hw.out)) | (go_at_call 75; exact Ret.up (reduce_any n d _ (by omega) (by omega) (by omega) (by omega) (by omega)))))
    refine wpQuiet_nil ?_
    rintro w1 ⟨g, rfl⟩
    go_wp2_with fail
    go_ret
    exact Ret.mk (boolV (by rw [show (_ && _) = _ from red_self n d hb3]; simp [vldB, Hw.out])) (((Below.refl _ _).alloc (by simp) _).trans ((up_below _ g).mono (by simp)))

set_option maxHeartbeats 400000 in
theorem settle_any (n d : Int) (w : World) (h1 : -4000000000000000000 ≤ n) (h2 : n ≤ 4000000000000000000) (h3 : -4000000000000000000 ≤ d) (h4 : d ≤ 4000000000000000000) (hd : d ≠ 0) :
    Calls Tryd.prog 64 #[.int .i64 n, .int .i64 d] w (Ret (resV (setl n d)) w) := by
  cases hw : fitB (redN n d) (redD n d) with
  | false =>
    have Hw := Lib.hid hw
    clear hw
    have hb : Below w.heap.size w w := Below.refl _ _
    go_enter Tryd.func64, Tryd.ntmps64
    go_wp2_with fail
    refine (reduce_any n d _ (by omega) (by omega) (by omega) (by omega) (by omega)).mono ?_
    rintro e w1 ⟨rfl, hx⟩
    try clear c0_o1 c1_o1 f0_o1 f1_o1 z_o1
    first | have o1 := (Own.new w _ _).below hx | have o1 := ((Own.new w _ _).alloc _).below hx | have o1 := (((Own.new w _ _).alloc _).alloc _).below hx | have o1 := ((((Own.new w _ _).alloc _).alloc _).alloc _).below hx | have o1 := ((Own.new w _ _).set2 _ _).below hx | have o1 := (((Own.new w _ _).setCell (by simp <;> omega) _).setCell (by simp <;> omega) _).below hx
    obtain ⟨c0_o1, c1_o1, f0_o1, f1_o1, z_o1⟩ := o1.two
    replace hb : Below w.heap.size w w1 := Below.trans (by (repeat (first | exact Below.refl _ _ | assumption | refine Below.drew ?_ | refine below_drewN ?_ _ | refine Below.setCell ?_ (by first | omega | (simp <;> omega)) _ | refine Below.alloc ?_ (by have := hb.size; first | omega | (simp <;> omega)) _))) (hx.mono (by have := hb.size; first | omega | (simp <;> omega)))
    clear hx
    go_wp2_with fail
    refine (fits_at _ _ _ Hw.out).mono ?_
    rintro e w2 ⟨rfl, hx⟩
    try clear c0_o1 c1_o1 f0_o1 f1_o1 z_o1
    first | replace o1 := o1.below hx | replace o1 := (o1.alloc _).below hx | replace o1 := ((o1.alloc _).alloc _).below hx | replace o1 := (((o1.alloc _).alloc _).alloc _).below hx | replace o1 := (o1.set2 _ _).below hx | replace o1 := ((o1.setCell (by simp <;> omega) _).setCell (by simp <;> omega) _).below hx
    obtain ⟨c0_o1, c1_o1, f0_o1, f1_o1, z_o1⟩ := o1.two
    replace hb : Below w.heap.size w w2 := Below.trans (by (repeat (first | exact Below.refl _ _ | assumption | refine Below.drew ?_ | refine below_drewN ?_ _ | refine Below.setCell ?_ (by first | omega | (simp <;> omega)) _ | refine Below.alloc ?_ (by have := hb.size; first | omega | (simp <;> omega)) _))) (hx.mono (by have := hb.size; first | omega | (simp <;> omega)))
    clear hx
    go_wp2_with fail
    refine bodyPost_ret (v := .tuple #[.agg #[.int .i64 0, .int .i64 0], .int .i64 3]) (by simp [results, Tryd.results64, go_sem, c0_o1, c1_o1]) rfl (Ret.mk (by simp [resV, setl, Hw.out]) (by (have hbs := hb.size; repeat (first | exact Below.refl _ _ | assumption | refine Below.drew ?_ | refine below_drewN ?_ _ | refine Below.setCell ?_ (by first | omega | (simp <;> omega)) _ | refine Below.alloc ?_ (by first | omega | (simp <;> omega)) _))))
  | true =>
    have Hw := Lib.hid hw
    clear hw
    have hb : Below w.heap.size w w := Below.refl _ _
    go_enter Tryd.func64, Tryd.ntmps64
    go_wp2_with fail
    refine (reduce_any n d _ (by omega) (by omega) (by omega) (by omega) (by omega)).mono ?_
    rintro e w1 ⟨rfl, hx⟩
    try clear c0_o1 c1_o1 f0_o1 f1_o1 z_o1
    first | have o1 := (Own.new w _ _).below hx | have o1 := ((Own.new w _ _).alloc _).below hx | have o1 := (((Own.new w _ _).alloc _).alloc _).below hx | have o1 := ((((Own.new w _ _).alloc _).alloc _).alloc _).below hx | have o1 := ((Own.new w _ _).set2 _ _).below hx | have o1 := (((Own.new w _ _).setCell (by simp <;> omega) _).setCell (by simp <;> omega) _).below hx
    obtain ⟨c0_o1, c1_o1, f0_o1, f1_o1, z_o1⟩ := o1.two
    replace hb : Below w.heap.size w w1 := Below.trans (by (repeat (first | exact Below.refl _ _ | assumption | refine Below.drew ?_ | refine below_drewN ?_ _ | refine Below.setCell ?_ (by first | omega | (simp <;> omega)) _ | refine Below.alloc ?_ (by have := hb.size; first | omega | (simp <;> omega)) _))) (hx.mono (by have := hb.size; first | omega | (simp <;> omega)))
    clear hx
    go_wp2_with fail
    refine (fits_at _ _ _ Hw.out).mono ?_
    rintro e w2 ⟨rfl, hx⟩
    try clear c0_o1 c1_o1 f0_o1 f1_o1 z_o1
    first | replace o1 := o1.below hx | replace o1 := (o1.alloc _).below hx | replace o1 := ((o1.alloc _).alloc _).below hx | replace o1 := (((o1.alloc _).alloc _).alloc _).below hx | replace o1 := (o1.set2 _ _).below hx | replace o1 := ((o1.setCell (by simp <;> omega) _).setCell (by simp <;> omega) _).below hx
    obtain ⟨c0_o1, c1_o1, f0_o1, f1_o1, z_o1⟩ := o1.two
    try clear c0_o2 c1_o2 f0_o2 f1_o2 z_o2
    first | have o2 := (Own.new w1 _ _).below hx | have o2 := ((Own.new w1 _ _).alloc _).below hx | have o2 := (((Own.new w1 _ _).alloc _).alloc _).below hx | have o2 := ((((Own.new w1 _ _).alloc _).alloc _).alloc _).below hx | have o2 := ((Own.new w1 _ _).set2 _ _).below hx | have o2 := (((Own.new w1 _ _).setCell (by simp <;> omega) _).setCell (by simp <;> omega) _).below hx
    obtain ⟨c0_o2, c1_o2, f0_o2, f1_o2, z_o2⟩ := o2.two
    replace hb : Below w.heap.size w w2 := Below.trans (by (repeat (first | exact Below.refl _ _ | assumption | refine Below.drew ?_ | refine below_drewN ?_ _ | refine Below.setCell ?_ (by first | omega | (simp <;> omega)) _ | refine Below.alloc ?_ (by have := hb.size; first | omega | (simp <;> omega)) _))) (hx.mono (by have := hb.size; first | omega | (simp <;> omega)))
    clear hx
    go_wp2_with fail
    refine bodyPost_ret (v := .tuple #[.agg #[.int .i64 (redN n d), .int .i64 (redD n d)], .int .i64 0]) (by simp [results, Tryd.results64, go_sem, c0_o1, c1_o1]) rfl (Ret.mk (by simp [resV, setl, Hw.out]) (by (have hbs := hb.size; repeat (first | exact Below.refl _ _ | assumption | refine Below.drew ?_ | refine below_drewN ?_ _ | refine Below.setCell ?_ (by first | omega | (simp <;> omega)) _ | refine Below.alloc ?_ (by first | omega | (simp <;> omega)) _))))
end Go.Proofs.YtlkefcbkpohpgaaDoor
