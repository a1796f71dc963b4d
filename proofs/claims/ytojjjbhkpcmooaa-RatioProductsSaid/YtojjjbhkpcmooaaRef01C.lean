/-
  The walks of the reference of layer 1: Make, both, the operations.
-/
import Derived.Test.YtojjjbhkpcmooaaRef01B
namespace Go.Proofs.Ytojjjbhkpcmooaa
open Go.RowKit

theorem r_valid_at {b : Bool} (n d : Int) (w : World) (h : vldB n d = b) : Calls Try.prog 14 #[.agg #[.int .i64 n, .int .i64 d]] w (Ret (.bool b) w) := by subst h; exact r_valid n d w

set_option maxHeartbeats 400000 in
theorem r_make (n d : Int) (w : World) : Calls Try.prog 12 #[.int .i64 n, .int .i64 d] w (Ret (.tuple #[.agg #[.int .i64 (mkF n d).1, .int .i64 (mkF n d).2.1], .int .i64 (mkF n d).2.2]) w) := by
  by_cases h0 : d = 0
  · subst h0
    go_enter Try.func12, Try.ntmps12
    go_wp2_with fail
    refine bodyPost_ret (v := .tuple #[.agg #[.int .i64 0, .int .i64 0], .int .i64 1]) (by simp [results, Try.results12, go_sem]) rfl (Ret.mk (by simp [mkF]) (by (repeat (first | exact Below.refl _ _ | assumption | refine Below.drew ?_ | refine below_drewN ?_ _ | refine Below.setCell ?_ (by simp <;> omega) _ | refine Below.alloc ?_ (by simp <;> omega) _))))
  · have h0' : (d == 0) = false := by simpa using h0
    by_cases h1 : n < -1000000000000000
    · go_enter Try.func12, Try.ntmps12
      go_wp2_with fail
      refine bodyPost_ret (v := .tuple #[.agg #[.int .i64 0, .int .i64 0], .int .i64 1]) (by simp [results, Try.results12, go_sem]) rfl (Ret.mk (by have hf : wthB n 1000000000000000 = false := (by simp [wthB]; omega); simp [mkF, hf]) (by (repeat (first | exact Below.refl _ _ | assumption | refine Below.drew ?_ | refine below_drewN ?_ _ | refine Below.setCell ?_ (by simp <;> omega) _ | refine Below.alloc ?_ (by simp <;> omega) _))))
    · have h1' : decide (n < -1000000000000000) = false := by simpa using h1
      by_cases h2 : 1000000000000000 < n
      · go_enter Try.func12, Try.ntmps12
        go_wp2_with fail
        refine bodyPost_ret (v := .tuple #[.agg #[.int .i64 0, .int .i64 0], .int .i64 1]) (by simp [results, Try.results12, go_sem]) rfl (Ret.mk (by have hf : wthB n 1000000000000000 = false := (by simp [wthB]; omega); simp [mkF, hf]) (by (repeat (first | exact Below.refl _ _ | assumption | refine Below.drew ?_ | refine below_drewN ?_ _ | refine Below.setCell ?_ (by simp <;> omega) _ | refine Below.alloc ?_ (by simp <;> omega) _))))
      · have h2' : decide (1000000000000000 < n) = false := by simpa using h2
        by_cases h3 : d < -1000000000000000
        · go_enter Try.func12, Try.ntmps12
          go_wp2_with fail
          refine bodyPost_ret (v := .tuple #[.agg #[.int .i64 0, .int .i64 0], .int .i64 1]) (by simp [results, Try.results12, go_sem]) rfl (Ret.mk (by have hf : wthB d 1000000000000000 = false := (by simp [wthB]; omega); simp [mkF, hf]) (by (repeat (first | exact Below.refl _ _ | assumption | refine Below.drew ?_ | refine below_drewN ?_ _ | refine Below.setCell ?_ (by simp <;> omega) _ | refine Below.alloc ?_ (by simp <;> omega) _))))
        · have h3' : decide (d < -1000000000000000) = false := by simpa using h3
          by_cases h4 : 1000000000000000 < d
          · go_enter Try.func12, Try.ntmps12
            go_wp2_with fail
            refine bodyPost_ret (v := .tuple #[.agg #[.int .i64 0, .int .i64 0], .int .i64 1]) (by simp [results, Try.results12, go_sem]) rfl (Ret.mk (by have hf : wthB d 1000000000000000 = false := (by simp [wthB]; omega); simp [mkF, hf]) (by (repeat (first | exact Below.refl _ _ | assumption | refine Below.drew ?_ | refine below_drewN ?_ _ | refine Below.setCell ?_ (by simp <;> omega) _ | refine Below.alloc ?_ (by simp <;> omega) _))))
          · have h4' : decide (1000000000000000 < d) = false := by simpa using h4
            have hb : Below w.heap.size w w := Below.refl _ _
            have hM : Hid (mkF n d = setl n d) := Lib.hid (by
              have f1 : wthB n 1000000000000000 = true := (by simp [wthB]; omega)
              have f2 : wthB d 1000000000000000 = true := (by simp [wthB]; omega)
              simp [mkF, f1, f2, h0])
            go_enter Try.func12, Try.ntmps12
            go_wp2_with fail
            refine (r_make0 n d _ (by omega) (by omega) (by omega) (by omega) h0).mono ?_
            rintro e w1 ⟨rfl, hx⟩
            try clear c0_o1 c1_o1 f0_o1 f1_o1 z_o1
            first | have o1 := (Own.new w _ _).below hx | have o1 := ((Own.new w _ _).alloc _).below hx | have o1 := (((Own.new w _ _).alloc _).alloc _).below hx | have o1 := ((((Own.new w _ _).alloc _).alloc _).alloc _).below hx
            obtain ⟨c0_o1, c1_o1, f0_o1, f1_o1, z_o1⟩ := o1.two
            replace hb : Below w.heap.size w w1 := Below.trans (by (repeat (first | exact Below.refl _ _ | assumption | refine Below.drew ?_ | refine below_drewN ?_ _ | refine Below.setCell ?_ (by simp <;> omega) _ | refine Below.alloc ?_ (by have := hb.size; simp <;> omega) _))) (hx.mono (by have := hb.size; simp <;> omega))
            clear hx
            go_wp2_with fail
            refine bodyPost_ret (v := .tuple #[.agg #[.int .i64 (setl n d).1, .int .i64 (setl n d).2.1], .int .i64 (setl n d).2.2]) (by simp [results, Try.results12, go_sem, c0_o1, c1_o1, z_o1]) rfl (Ret.mk (by rw [hM.out]) (by (have hbs := hb.size; repeat (first | exact Below.refl _ _ | assumption | refine Below.drew ?_ | refine below_drewN ?_ _ | refine Below.setCell ?_ (by simp <;> omega) _ | refine Below.alloc ?_ (by simp <;> omega) _))))

set_option maxHeartbeats 400000 in
theorem r_both (a b c d : Int) (w : World) : Calls Try.prog 35 #[.agg #[.int .i64 a, .int .i64 b], .agg #[.int .i64 c, .int .i64 d]] w (Ret (.bool (vldB a b && vldB c d)) w) := by
  have hb : Below w.heap.size w w := Below.refl _ _
  cases hu : vldB a b with
  | false =>
    have Hu := Lib.hid hu
    clear hu
    go_enter Try.func35, Try.ntmps35
    go_wp2_with fail
    refine (r_valid_at _ _ _ Hu.out).mono ?_
    rintro e w1 ⟨rfl, hx⟩
    try clear c0_o2 c1_o2 f0_o2 f1_o2 z_o2
    first | have o2 := (Own.at (w.alloc _) _ _ (w.heap.size + 1) (by simp)).below hx | have o2 := ((Own.at (w.alloc _) _ _ (w.heap.size + 1) (by simp)).alloc _).below hx | have o2 := (((Own.at (w.alloc _) _ _ (w.heap.size + 1) (by simp)).alloc _).alloc _).below hx | have o2 := ((((Own.at (w.alloc _) _ _ (w.heap.size + 1) (by simp)).alloc _).alloc _).alloc _).below hx
    obtain ⟨c0_o2, c1_o2, f0_o2, f1_o2, z_o2⟩ := o2.two
    replace hb : Below w.heap.size w w1 := Below.trans (by (repeat (first | exact Below.refl _ _ | assumption | refine Below.drew ?_ | refine below_drewN ?_ _ | refine Below.setCell ?_ (by simp <;> omega) _ | refine Below.alloc ?_ (by have := hb.size; simp <;> omega) _))) (hx.mono (by have := hb.size; simp <;> omega))
    clear hx
    go_wp2_with fail
    refine (r_valid _ _ _).mono ?_
    rintro e w2 ⟨rfl, hx⟩
    replace hb : Below w.heap.size w w2 := Below.trans (by (repeat (first | exact Below.refl _ _ | assumption | refine Below.drew ?_ | refine below_drewN ?_ _ | refine Below.setCell ?_ (by simp <;> omega) _ | refine Below.alloc ?_ (by have := hb.size; simp <;> omega) _))) (hx.mono (by have := hb.size; simp <;> omega))
    clear hx
    go_wp2_with fail
    go_ret
    exact Ret.mk (by simp) hb
  | true =>
    have Hu := Lib.hid hu
    clear hu
    generalize hv : vldB c d = v
    have Hv := Lib.hid hv
    clear hv
    go_enter Try.func35, Try.ntmps35
    go_wp2_with fail
    refine (r_valid_at _ _ _ Hu.out).mono ?_
    rintro e w1 ⟨rfl, hx⟩
    try clear c0_o2 c1_o2 f0_o2 f1_o2 z_o2
    first | have o2 := (Own.at (w.alloc _) _ _ (w.heap.size + 1) (by simp)).below hx | have o2 := ((Own.at (w.alloc _) _ _ (w.heap.size + 1) (by simp)).alloc _).below hx | have o2 := (((Own.at (w.alloc _) _ _ (w.heap.size + 1) (by simp)).alloc _).alloc _).below hx | have o2 := ((((Own.at (w.alloc _) _ _ (w.heap.size + 1) (by simp)).alloc _).alloc _).alloc _).below hx
    obtain ⟨c0_o2, c1_o2, f0_o2, f1_o2, z_o2⟩ := o2.two
    replace hb : Below w.heap.size w w1 := Below.trans (by (repeat (first | exact Below.refl _ _ | assumption | refine Below.drew ?_ | refine below_drewN ?_ _ | refine Below.setCell ?_ (by simp <;> omega) _ | refine Below.alloc ?_ (by have := hb.size; simp <;> omega) _))) (hx.mono (by have := hb.size; simp <;> omega))
    clear hx
    go_wp2_with fail
    refine (r_valid_at _ _ _ Hv.out).mono ?_
    rintro e w2 ⟨rfl, hx⟩
    replace hb : Below w.heap.size w w2 := Below.trans (by (repeat (first | exact Below.refl _ _ | assumption | refine Below.drew ?_ | refine below_drewN ?_ _ | refine Below.setCell ?_ (by simp <;> omega) _ | refine Below.alloc ?_ (by have := hb.size; simp <;> omega) _))) (hx.mono (by have := hb.size; simp <;> omega))
    clear hx
    go_wp2_with fail
    go_ret
    exact Ret.mk (by simp) hb

theorem r_both_at {x : Bool} (a b c d : Int) (w : World) (h : (vldB a b && vldB c d) = x) : Calls Try.prog 35 #[.agg #[.int .i64 a, .int .i64 b], .agg #[.int .i64 c, .int .i64 d]] w (Ret (.bool x) w) := by subst h; exact r_both a b c d w

set_option maxHeartbeats 400000 in
theorem r_add (a b c d : Int) (w : World) : Calls Try.prog 16 #[.agg #[.int .i64 a, .int .i64 b], .agg #[.int .i64 c, .int .i64 d]] w (Ret (resV (addF a b c d)) w) := by
  have hb : Below w.heap.size w w := Below.refl _ _
  cases hu : (vldB a b && vldB c d) with
  | false =>
    have Hu := Lib.hid hu
    clear hu
    go_enter Try.func16, Try.ntmps16
    go_wp2_with fail
    refine (r_both_at _ _ _ _ _ Hu.out).mono ?_
    rintro e w1 ⟨rfl, hx⟩
    try clear c0_o3 c1_o3 f0_o3 f1_o3 z_o3
    first | have o3 := (Own.at ((w.alloc _).alloc _) _ _ (w.heap.size + 1 + 1) (by simp)).below hx | have o3 := ((Own.at ((w.alloc _).alloc _) _ _ (w.heap.size + 1 + 1) (by simp)).alloc _).below hx | have o3 := (((Own.at ((w.alloc _).alloc _) _ _ (w.heap.size + 1 + 1) (by simp)).alloc _).alloc _).below hx | have o3 := ((((Own.at ((w.alloc _).alloc _) _ _ (w.heap.size + 1 + 1) (by simp)).alloc _).alloc _).alloc _).below hx
    obtain ⟨c0_o3, c1_o3, f0_o3, f1_o3, z_o3⟩ := o3.two
    replace hb : Below w.heap.size w w1 := Below.trans (by (repeat (first | exact Below.refl _ _ | assumption | refine Below.drew ?_ | refine below_drewN ?_ _ | refine Below.setCell ?_ (by simp <;> omega) _ | refine Below.alloc ?_ (by have := hb.size; simp <;> omega) _))) (hx.mono (by have := hb.size; simp <;> omega))
    clear hx
    go_wp2_with fail
    refine bodyPost_ret (v := .tuple #[.agg #[.int .i64 0, .int .i64 0], .int .i64 1]) (by simp [results, Try.results16, go_sem, c0_o3, c1_o3]) rfl (Ret.mk (by simp only [resV, addF, opF]; rw [Hu.out]; rfl) (by (have hbs := hb.size; repeat (first | exact Below.refl _ _ | assumption | refine Below.drew ?_ | refine below_drewN ?_ _ | refine Below.setCell ?_ (by simp <;> omega) _ | refine Below.alloc ?_ (by simp <;> omega) _))))
  | true =>
    have ⟨hv1, hv2⟩ : vldB a b = true ∧ vldB c d = true := by simpa using hu
    have ⟨hu1, hu2, hu3, hu4⟩ := vld_bd hv1
    have ⟨hw1, hw2, hw3, hw4⟩ := vld_bd hv2
    have Hu := Lib.hid hu
    clear hu hv1 hv2
    have ⟨m1, m2⟩ := mul_bd (X := 1000000000) (Y := 1000000) hu1 hu2 (by omega : -1000000 ≤ d) hw4
    have ⟨m3, m4⟩ := mul_bd (X := 1000000000) (Y := 1000000) hw1 hw2 (by omega : -1000000 ≤ b) hu4
    have ⟨m5, m6⟩ := mul_bd (X := 1000000) (Y := 1000000) (by omega : -1000000 ≤ b) hu4 (by omega : -1000000 ≤ d) hw4
    have ⟨m7, m8⟩ := mul_bd (X := 1000000000) (Y := 1000000000) hu1 hu2 hw1 hw2
    have m9 : b * d ≠ 0 := Int.mul_ne_zero (by omega) (by omega)
    go_enter Try.func16, Try.ntmps16
    go_wp2_with fail
    refine (r_both_at _ _ _ _ _ Hu.out).mono ?_
    rintro e w1 ⟨rfl, hx⟩
    try clear c0_o1 c1_o1 f0_o1 f1_o1 z_o1
    first | have o1 := (Own.new w _ _).below hx | have o1 := ((Own.new w _ _).alloc _).below hx | have o1 := (((Own.new w _ _).alloc _).alloc _).below hx | have o1 := ((((Own.new w _ _).alloc _).alloc _).alloc _).below hx
    obtain ⟨c0_o1, c1_o1, f0_o1, f1_o1, z_o1⟩ := o1.two
    try clear c0_o2 c1_o2 f0_o2 f1_o2 z_o2
    first | have o2 := (Own.at (w.alloc _) _ _ (w.heap.size + 1) (by simp)).below hx | have o2 := ((Own.at (w.alloc _) _ _ (w.heap.size + 1) (by simp)).alloc _).below hx | have o2 := (((Own.at (w.alloc _) _ _ (w.heap.size + 1) (by simp)).alloc _).alloc _).below hx | have o2 := ((((Own.at (w.alloc _) _ _ (w.heap.size + 1) (by simp)).alloc _).alloc _).alloc _).below hx
    obtain ⟨c0_o2, c1_o2, f0_o2, f1_o2, z_o2⟩ := o2.two
    try clear c0_o3 c1_o3 f0_o3 f1_o3 z_o3
    first | have o3 := (Own.at ((w.alloc _).alloc _) _ _ (w.heap.size + 1 + 1) (by simp)).below hx | have o3 := ((Own.at ((w.alloc _).alloc _) _ _ (w.heap.size + 1 + 1) (by simp)).alloc _).below hx | have o3 := (((Own.at ((w.alloc _).alloc _) _ _ (w.heap.size + 1 + 1) (by simp)).alloc _).alloc _).below hx | have o3 := ((((Own.at ((w.alloc _).alloc _) _ _ (w.heap.size + 1 + 1) (by simp)).alloc _).alloc _).alloc _).below hx
    obtain ⟨c0_o3, c1_o3, f0_o3, f1_o3, z_o3⟩ := o3.two
    replace hb : Below w.heap.size w w1 := Below.trans (by (repeat (first | exact Below.refl _ _ | assumption | refine Below.drew ?_ | refine below_drewN ?_ _ | refine Below.setCell ?_ (by simp <;> omega) _ | refine Below.alloc ?_ (by have := hb.size; simp <;> omega) _))) (hx.mono (by have := hb.size; simp <;> omega))
    clear hx
    go_wp2_with fail
    refine (r_make0 (a * d + c * b) (b * d) _ (by omega) (by omega) (by omega) (by omega) m9).mono ?_
    rintro e w2 ⟨rfl, hx⟩
    try clear c0_o3 c1_o3 f0_o3 f1_o3 z_o3
    first | replace o3 := o3.below hx | replace o3 := (o3.alloc _).below hx | replace o3 := ((o3.alloc _).alloc _).below hx | replace o3 := (((o3.alloc _).alloc _).alloc _).below hx
    obtain ⟨c0_o3, c1_o3, f0_o3, f1_o3, z_o3⟩ := o3.two
    replace hb : Below w.heap.size w w2 := Below.trans (by (repeat (first | exact Below.refl _ _ | assumption | refine Below.drew ?_ | refine below_drewN ?_ _ | refine Below.setCell ?_ (by simp <;> omega) _ | refine Below.alloc ?_ (by have := hb.size; simp <;> omega) _))) (hx.mono (by have := hb.size; simp <;> omega))
    clear hx
    go_wp2_with fail
    refine bodyPost_ret (v := .tuple #[.agg #[.int .i64 (setl (a * d + c * b) (b * d)).1, .int .i64 (setl (a * d + c * b) (b * d)).2.1], .int .i64 (setl (a * d + c * b) (b * d)).2.2]) (by simp [results, Try.results16, go_sem, c0_o3, c1_o3, z_o3]) rfl (Ret.mk (by simp only [resV, addF, opF]; rw [Hu.out]; rfl) (by (have hbs := hb.size; repeat (first | exact Below.refl _ _ | assumption | refine Below.drew ?_ | refine below_drewN ?_ _ | refine Below.setCell ?_ (by simp <;> omega) _ | refine Below.alloc ?_ (by simp <;> omega) _))))

set_option maxHeartbeats 400000 in
theorem r_sub (a b c d : Int) (w : World) : Calls Try.prog 18 #[.agg #[.int .i64 a, .int .i64 b], .agg #[.int .i64 c, .int .i64 d]] w (Ret (resV (subF a b c d)) w) := by
  have hb : Below w.heap.size w w := Below.refl _ _
  cases hu : (vldB a b && vldB c d) with
  | false =>
    have Hu := Lib.hid hu
    clear hu
    go_enter Try.func18, Try.ntmps18
    go_wp2_with fail
    refine (r_both_at _ _ _ _ _ Hu.out).mono ?_
    rintro e w1 ⟨rfl, hx⟩
    try clear c0_o3 c1_o3 f0_o3 f1_o3 z_o3
    first | have o3 := (Own.at ((w.alloc _).alloc _) _ _ (w.heap.size + 1 + 1) (by simp)).below hx | have o3 := ((Own.at ((w.alloc _).alloc _) _ _ (w.heap.size + 1 + 1) (by simp)).alloc _).below hx | have o3 := (((Own.at ((w.alloc _).alloc _) _ _ (w.heap.size + 1 + 1) (by simp)).alloc _).alloc _).below hx | have o3 := ((((Own.at ((w.alloc _).alloc _) _ _ (w.heap.size + 1 + 1) (by simp)).alloc _).alloc _).alloc _).below hx
    obtain ⟨c0_o3, c1_o3, f0_o3, f1_o3, z_o3⟩ := o3.two
    replace hb : Below w.heap.size w w1 := Below.trans (by (repeat (first | exact Below.refl _ _ | assumption | refine Below.drew ?_ | refine below_drewN ?_ _ | refine Below.setCell ?_ (by simp <;> omega) _ | refine Below.alloc ?_ (by have := hb.size; simp <;> omega) _))) (hx.mono (by have := hb.size; simp <;> omega))
    clear hx
    go_wp2_with fail
    refine bodyPost_ret (v := .tuple #[.agg #[.int .i64 0, .int .i64 0], .int .i64 1]) (by simp [results, Try.results18, go_sem, c0_o3, c1_o3]) rfl (Ret.mk (by simp only [resV, subF, opF]; rw [Hu.out]; rfl) (by (have hbs := hb.size; repeat (first | exact Below.refl _ _ | assumption | refine Below.drew ?_ | refine below_drewN ?_ _ | refine Below.setCell ?_ (by simp <;> omega) _ | refine Below.alloc ?_ (by simp <;> omega) _))))
  | true =>
    have ⟨hv1, hv2⟩ : vldB a b = true ∧ vldB c d = true := by simpa using hu
    have ⟨hu1, hu2, hu3, hu4⟩ := vld_bd hv1
    have ⟨hw1, hw2, hw3, hw4⟩ := vld_bd hv2
    have Hu := Lib.hid hu
    clear hu hv1 hv2
    have ⟨m1, m2⟩ := mul_bd (X := 1000000000) (Y := 1000000) hu1 hu2 (by omega : -1000000 ≤ d) hw4
    have ⟨m3, m4⟩ := mul_bd (X := 1000000000) (Y := 1000000) hw1 hw2 (by omega : -1000000 ≤ b) hu4
    have ⟨m5, m6⟩ := mul_bd (X := 1000000) (Y := 1000000) (by omega : -1000000 ≤ b) hu4 (by omega : -1000000 ≤ d) hw4
    have ⟨m7, m8⟩ := mul_bd (X := 1000000000) (Y := 1000000000) hu1 hu2 hw1 hw2
    have m9 : b * d ≠ 0 := Int.mul_ne_zero (by omega) (by omega)
    go_enter Try.func18, Try.ntmps18
    go_wp2_with fail
    refine (r_both_at _ _ _ _ _ Hu.out).mono ?_
    rintro e w1 ⟨rfl, hx⟩
    try clear c0_o1 c1_o1 f0_o1 f1_o1 z_o1
    first | have o1 := (Own.new w _ _).below hx | have o1 := ((Own.new w _ _).alloc _).below hx | have o1 := (((Own.new w _ _).alloc _).alloc _).below hx | have o1 := ((((Own.new w _ _).alloc _).alloc _).alloc _).below hx
    obtain ⟨c0_o1, c1_o1, f0_o1, f1_o1, z_o1⟩ := o1.two
    try clear c0_o2 c1_o2 f0_o2 f1_o2 z_o2
    first | have o2 := (Own.at (w.alloc _) _ _ (w.heap.size + 1) (by simp)).below hx | have o2 := ((Own.at (w.alloc _) _ _ (w.heap.size + 1) (by simp)).alloc _).below hx | have o2 := (((Own.at (w.alloc _) _ _ (w.heap.size + 1) (by simp)).alloc _).alloc _).below hx | have o2 := ((((Own.at (w.alloc _) _ _ (w.heap.size + 1) (by simp)).alloc _).alloc _).alloc _).below hx
    obtain ⟨c0_o2, c1_o2, f0_o2, f1_o2, z_o2⟩ := o2.two
    try clear c0_o3 c1_o3 f0_o3 f1_o3 z_o3
    first | have o3 := (Own.at ((w.alloc _).alloc _) _ _ (w.heap.size + 1 + 1) (by simp)).below hx | have o3 := ((Own.at ((w.alloc _).alloc _) _ _ (w.heap.size + 1 + 1) (by simp)).alloc _).below hx | have o3 := (((Own.at ((w.alloc _).alloc _) _ _ (w.heap.size + 1 + 1) (by simp)).alloc _).alloc _).below hx | have o3 := ((((Own.at ((w.alloc _).alloc _) _ _ (w.heap.size + 1 + 1) (by simp)).alloc _).alloc _).alloc _).below hx
    obtain ⟨c0_o3, c1_o3, f0_o3, f1_o3, z_o3⟩ := o3.two
    replace hb : Below w.heap.size w w1 := Below.trans (by (repeat (first | exact Below.refl _ _ | assumption | refine Below.drew ?_ | refine below_drewN ?_ _ | refine Below.setCell ?_ (by simp <;> omega) _ | refine Below.alloc ?_ (by have := hb.size; simp <;> omega) _))) (hx.mono (by have := hb.size; simp <;> omega))
    clear hx
    go_wp2_with fail
    refine (r_make0 (a * d - c * b) (b * d) _ (by omega) (by omega) (by omega) (by omega) m9).mono ?_
    rintro e w2 ⟨rfl, hx⟩
    try clear c0_o3 c1_o3 f0_o3 f1_o3 z_o3
    first | replace o3 := o3.below hx | replace o3 := (o3.alloc _).below hx | replace o3 := ((o3.alloc _).alloc _).below hx | replace o3 := (((o3.alloc _).alloc _).alloc _).below hx
    obtain ⟨c0_o3, c1_o3, f0_o3, f1_o3, z_o3⟩ := o3.two
    replace hb : Below w.heap.size w w2 := Below.trans (by (repeat (first | exact Below.refl _ _ | assumption | refine Below.drew ?_ | refine below_drewN ?_ _ | refine Below.setCell ?_ (by simp <;> omega) _ | refine Below.alloc ?_ (by have := hb.size; simp <;> omega) _))) (hx.mono (by have := hb.size; simp <;> omega))
    clear hx
    go_wp2_with fail
    refine bodyPost_ret (v := .tuple #[.agg #[.int .i64 (setl (a * d - c * b) (b * d)).1, .int .i64 (setl (a * d - c * b) (b * d)).2.1], .int .i64 (setl (a * d - c * b) (b * d)).2.2]) (by simp [results, Try.results18, go_sem, c0_o3, c1_o3, z_o3]) rfl (Ret.mk (by simp only [resV, subF, opF]; rw [Hu.out]; rfl) (by (have hbs := hb.size; repeat (first | exact Below.refl _ _ | assumption | refine Below.drew ?_ | refine below_drewN ?_ _ | refine Below.setCell ?_ (by simp <;> omega) _ | refine Below.alloc ?_ (by simp <;> omega) _))))

set_option maxHeartbeats 400000 in
theorem r_mul (a b c d : Int) (w : World) : Calls Try.prog 20 #[.agg #[.int .i64 a, .int .i64 b], .agg #[.int .i64 c, .int .i64 d]] w (Ret (resV (mulF a b c d)) w) := by
  have hb : Below w.heap.size w w := Below.refl _ _
  cases hu : (vldB a b && vldB c d) with
  | false =>
    have Hu := Lib.hid hu
    clear hu
    go_enter Try.func20, Try.ntmps20
    go_wp2_with fail
    refine (r_both_at _ _ _ _ _ Hu.out).mono ?_
    rintro e w1 ⟨rfl, hx⟩
    try clear c0_o3 c1_o3 f0_o3 f1_o3 z_o3
    first | have o3 := (Own.at ((w.alloc _).alloc _) _ _ (w.heap.size + 1 + 1) (by simp)).below hx | have o3 := ((Own.at ((w.alloc _).alloc _) _ _ (w.heap.size + 1 + 1) (by simp)).alloc _).below hx | have o3 := (((Own.at ((w.alloc _).alloc _) _ _ (w.heap.size + 1 + 1) (by simp)).alloc _).alloc _).below hx | have o3 := ((((Own.at ((w.alloc _).alloc _) _ _ (w.heap.size + 1 + 1) (by simp)).alloc _).alloc _).alloc _).below hx
    obtain ⟨c0_o3, c1_o3, f0_o3, f1_o3, z_o3⟩ := o3.two
    replace hb : Below w.heap.size w w1 := Below.trans (by (repeat (first | exact Below.refl _ _ | assumption | refine Below.drew ?_ | refine below_drewN ?_ _ | refine Below.setCell ?_ (by simp <;> omega) _ | refine Below.alloc ?_ (by have := hb.size; simp <;> omega) _))) (hx.mono (by have := hb.size; simp <;> omega))
    clear hx
    go_wp2_with fail
    refine bodyPost_ret (v := .tuple #[.agg #[.int .i64 0, .int .i64 0], .int .i64 1]) (by simp [results, Try.results20, go_sem, c0_o3, c1_o3]) rfl (Ret.mk (by simp only [resV, mulF, opF]; rw [Hu.out]; rfl) (by (have hbs := hb.size; repeat (first | exact Below.refl _ _ | assumption | refine Below.drew ?_ | refine below_drewN ?_ _ | refine Below.setCell ?_ (by simp <;> omega) _ | refine Below.alloc ?_ (by simp <;> omega) _))))
  | true =>
    have ⟨hv1, hv2⟩ : vldB a b = true ∧ vldB c d = true := by simpa using hu
    have ⟨hu1, hu2, hu3, hu4⟩ := vld_bd hv1
    have ⟨hw1, hw2, hw3, hw4⟩ := vld_bd hv2
    have Hu := Lib.hid hu
    clear hu hv1 hv2
    have ⟨m1, m2⟩ := mul_bd (X := 1000000000) (Y := 1000000) hu1 hu2 (by omega : -1000000 ≤ d) hw4
    have ⟨m3, m4⟩ := mul_bd (X := 1000000000) (Y := 1000000) hw1 hw2 (by omega : -1000000 ≤ b) hu4
    have ⟨m5, m6⟩ := mul_bd (X := 1000000) (Y := 1000000) (by omega : -1000000 ≤ b) hu4 (by omega : -1000000 ≤ d) hw4
    have ⟨m7, m8⟩ := mul_bd (X := 1000000000) (Y := 1000000000) hu1 hu2 hw1 hw2
    have m9 : b * d ≠ 0 := Int.mul_ne_zero (by omega) (by omega)
    go_enter Try.func20, Try.ntmps20
    go_wp2_with fail
    refine (r_both_at _ _ _ _ _ Hu.out).mono ?_
    rintro e w1 ⟨rfl, hx⟩
    try clear c0_o1 c1_o1 f0_o1 f1_o1 z_o1
    first | have o1 := (Own.new w _ _).below hx | have o1 := ((Own.new w _ _).alloc _).below hx | have o1 := (((Own.new w _ _).alloc _).alloc _).below hx | have o1 := ((((Own.new w _ _).alloc _).alloc _).alloc _).below hx
    obtain ⟨c0_o1, c1_o1, f0_o1, f1_o1, z_o1⟩ := o1.two
    try clear c0_o2 c1_o2 f0_o2 f1_o2 z_o2
    first | have o2 := (Own.at (w.alloc _) _ _ (w.heap.size + 1) (by simp)).below hx | have o2 := ((Own.at (w.alloc _) _ _ (w.heap.size + 1) (by simp)).alloc _).below hx | have o2 := (((Own.at (w.alloc _) _ _ (w.heap.size + 1) (by simp)).alloc _).alloc _).below hx | have o2 := ((((Own.at (w.alloc _) _ _ (w.heap.size + 1) (by simp)).alloc _).alloc _).alloc _).below hx
    obtain ⟨c0_o2, c1_o2, f0_o2, f1_o2, z_o2⟩ := o2.two
    try clear c0_o3 c1_o3 f0_o3 f1_o3 z_o3
    first | have o3 := (Own.at ((w.alloc _).alloc _) _ _ (w.heap.size + 1 + 1) (by simp)).below hx | have o3 := ((Own.at ((w.alloc _).alloc _) _ _ (w.heap.size + 1 + 1) (by simp)).alloc _).below hx | have o3 := (((Own.at ((w.alloc _).alloc _) _ _ (w.heap.size + 1 + 1) (by simp)).alloc _).alloc _).below hx | have o3 := ((((Own.at ((w.alloc _).alloc _) _ _ (w.heap.size + 1 + 1) (by simp)).alloc _).alloc _).alloc _).below hx
    obtain ⟨c0_o3, c1_o3, f0_o3, f1_o3, z_o3⟩ := o3.two
    replace hb : Below w.heap.size w w1 := Below.trans (by (repeat (first | exact Below.refl _ _ | assumption | refine Below.drew ?_ | refine below_drewN ?_ _ | refine Below.setCell ?_ (by simp <;> omega) _ | refine Below.alloc ?_ (by have := hb.size; simp <;> omega) _))) (hx.mono (by have := hb.size; simp <;> omega))
    clear hx
    go_wp2_with fail
    refine (r_make0 (a * c) (b * d) _ (by omega) (by omega) (by omega) (by omega) m9).mono ?_
    rintro e w2 ⟨rfl, hx⟩
    try clear c0_o3 c1_o3 f0_o3 f1_o3 z_o3
    first | replace o3 := o3.below hx | replace o3 := (o3.alloc _).below hx | replace o3 := ((o3.alloc _).alloc _).below hx | replace o3 := (((o3.alloc _).alloc _).alloc _).below hx
    obtain ⟨c0_o3, c1_o3, f0_o3, f1_o3, z_o3⟩ := o3.two
    replace hb : Below w.heap.size w w2 := Below.trans (by (repeat (first | exact Below.refl _ _ | assumption | refine Below.drew ?_ | refine below_drewN ?_ _ | refine Below.setCell ?_ (by simp <;> omega) _ | refine Below.alloc ?_ (by have := hb.size; simp <;> omega) _))) (hx.mono (by have := hb.size; simp <;> omega))
    clear hx
    go_wp2_with fail
    refine bodyPost_ret (v := .tuple #[.agg #[.int .i64 (setl (a * c) (b * d)).1, .int .i64 (setl (a * c) (b * d)).2.1], .int .i64 (setl (a * c) (b * d)).2.2]) (by simp [results, Try.results20, go_sem, c0_o3, c1_o3, z_o3]) rfl (Ret.mk (by simp only [resV, mulF, opF]; rw [Hu.out]; rfl) (by (have hbs := hb.size; repeat (first | exact Below.refl _ _ | assumption | refine Below.drew ?_ | refine below_drewN ?_ _ | refine Below.setCell ?_ (by simp <;> omega) _ | refine Below.alloc ?_ (by simp <;> omega) _))))

set_option maxHeartbeats 400000 in
theorem r_compare (a b c d : Int) (w : World) : Calls Try.prog 22 #[.agg #[.int .i64 a, .int .i64 b], .agg #[.int .i64 c, .int .i64 d]] w (Ret (.tuple #[.int .i64 (cmpF a b c d).1, .int .i64 (cmpF a b c d).2]) w) := by
  have hb : Below w.heap.size w w := Below.refl _ _
  cases hu : (vldB a b && vldB c d) with
  | false =>
    have Hu := Lib.hid hu
    clear hu
    go_enter Try.func22, Try.ntmps22
    go_wp2_with fail
    refine (r_both_at _ _ _ _ _ Hu.out).mono ?_
    rintro e w1 ⟨rfl, hx⟩
    replace hb : Below w.heap.size w w1 := Below.trans (by (repeat (first | exact Below.refl _ _ | assumption | refine Below.drew ?_ | refine below_drewN ?_ _ | refine Below.setCell ?_ (by simp <;> omega) _ | refine Below.alloc ?_ (by have := hb.size; simp <;> omega) _))) (hx.mono (by have := hb.size; simp <;> omega))
    clear hx
    go_wp2_with fail
    go_ret2
    exact Ret.mk (Ret2.eq (by unfold cmpF; rw [Hu.out]; rfl)) hb
  | true =>
    have ⟨hv1, hv2⟩ : vldB a b = true ∧ vldB c d = true := by simpa using hu
    have ⟨hu1, hu2, hu3, hu4⟩ := vld_bd hv1
    have ⟨hw1, hw2, hw3, hw4⟩ := vld_bd hv2
    have HC : Hid (cmpF a b c d = (if a * d < c * b then -1 else if a * d > c * b then 1 else 0, 0)) := Lib.hid (by unfold cmpF; rw [hu]; rfl)
    have Hu := Lib.hid hu
    clear hu hv1 hv2
    have ⟨m1, m2⟩ := mul_bd (X := 1000000000) (Y := 1000000) hu1 hu2 (by omega : -1000000 ≤ d) hw4
    have ⟨m3, m4⟩ := mul_bd (X := 1000000000) (Y := 1000000) hw1 hw2 (by omega : -1000000 ≤ b) hu4
    by_cases h1 : a * d < c * b
    · go_enter Try.func22, Try.ntmps22
      go_wp2_with fail
      refine (r_both_at _ _ _ _ _ Hu.out).mono ?_
      rintro e w1 ⟨rfl, hx⟩
      try clear c0_o1 c1_o1 f0_o1 f1_o1 z_o1
      first | have o1 := (Own.new w _ _).below hx | have o1 := ((Own.new w _ _).alloc _).below hx | have o1 := (((Own.new w _ _).alloc _).alloc _).below hx | have o1 := ((((Own.new w _ _).alloc _).alloc _).alloc _).below hx
      obtain ⟨c0_o1, c1_o1, f0_o1, f1_o1, z_o1⟩ := o1.two
      try clear c0_o2 c1_o2 f0_o2 f1_o2 z_o2
      first | have o2 := (Own.at (w.alloc _) _ _ (w.heap.size + 1) (by simp)).below hx | have o2 := ((Own.at (w.alloc _) _ _ (w.heap.size + 1) (by simp)).alloc _).below hx | have o2 := (((Own.at (w.alloc _) _ _ (w.heap.size + 1) (by simp)).alloc _).alloc _).below hx | have o2 := ((((Own.at (w.alloc _) _ _ (w.heap.size + 1) (by simp)).alloc _).alloc _).alloc _).below hx
      obtain ⟨c0_o2, c1_o2, f0_o2, f1_o2, z_o2⟩ := o2.two
      replace hb : Below w.heap.size w w1 := Below.trans (by (repeat (first | exact Below.refl _ _ | assumption | refine Below.drew ?_ | refine below_drewN ?_ _ | refine Below.setCell ?_ (by simp <;> omega) _ | refine Below.alloc ?_ (by have := hb.size; simp <;> omega) _))) (hx.mono (by have := hb.size; simp <;> omega))
      clear hx
      go_wp2_with fail
      go_ret2
      exact Ret.mk (Ret2.eq (by rw [HC.out, if_pos h1])) hb
    · have h1' : decide (a * d < c * b) = false := by simpa using h1
      by_cases h2 : c * b < a * d
      · go_enter Try.func22, Try.ntmps22
        go_wp2_with fail
        refine (r_both_at _ _ _ _ _ Hu.out).mono ?_
        rintro e w1 ⟨rfl, hx⟩
        try clear c0_o1 c1_o1 f0_o1 f1_o1 z_o1
        first | have o1 := (Own.new w _ _).below hx | have o1 := ((Own.new w _ _).alloc _).below hx | have o1 := (((Own.new w _ _).alloc _).alloc _).below hx | have o1 := ((((Own.new w _ _).alloc _).alloc _).alloc _).below hx
        obtain ⟨c0_o1, c1_o1, f0_o1, f1_o1, z_o1⟩ := o1.two
        try clear c0_o2 c1_o2 f0_o2 f1_o2 z_o2
        first | have o2 := (Own.at (w.alloc _) _ _ (w.heap.size + 1) (by simp)).below hx | have o2 := ((Own.at (w.alloc _) _ _ (w.heap.size + 1) (by simp)).alloc _).below hx | have o2 := (((Own.at (w.alloc _) _ _ (w.heap.size + 1) (by simp)).alloc _).alloc _).below hx | have o2 := ((((Own.at (w.alloc _) _ _ (w.heap.size + 1) (by simp)).alloc _).alloc _).alloc _).below hx
        obtain ⟨c0_o2, c1_o2, f0_o2, f1_o2, z_o2⟩ := o2.two
        replace hb : Below w.heap.size w w1 := Below.trans (by (repeat (first | exact Below.refl _ _ | assumption | refine Below.drew ?_ | refine below_drewN ?_ _ | refine Below.setCell ?_ (by simp <;> omega) _ | refine Below.alloc ?_ (by have := hb.size; simp <;> omega) _))) (hx.mono (by have := hb.size; simp <;> omega))
        clear hx
        go_wp2_with fail
        go_ret2
        exact Ret.mk (Ret2.eq (by rw [HC.out, if_neg (by omega), if_pos (by omega)])) hb
      · have h2' : decide (c * b < a * d) = false := by simpa using h2
        go_enter Try.func22, Try.ntmps22
        go_wp2_with fail
        refine (r_both_at _ _ _ _ _ Hu.out).mono ?_
        rintro e w1 ⟨rfl, hx⟩
        try clear c0_o1 c1_o1 f0_o1 f1_o1 z_o1
        first | have o1 := (Own.new w _ _).below hx | have o1 := ((Own.new w _ _).alloc _).below hx | have o1 := (((Own.new w _ _).alloc _).alloc _).below hx | have o1 := ((((Own.new w _ _).alloc _).alloc _).alloc _).below hx
        obtain ⟨c0_o1, c1_o1, f0_o1, f1_o1, z_o1⟩ := o1.two
        try clear c0_o2 c1_o2 f0_o2 f1_o2 z_o2
        first | have o2 := (Own.at (w.alloc _) _ _ (w.heap.size + 1) (by simp)).below hx | have o2 := ((Own.at (w.alloc _) _ _ (w.heap.size + 1) (by simp)).alloc _).below hx | have o2 := (((Own.at (w.alloc _) _ _ (w.heap.size + 1) (by simp)).alloc _).alloc _).below hx | have o2 := ((((Own.at (w.alloc _) _ _ (w.heap.size + 1) (by simp)).alloc _).alloc _).alloc _).below hx
        obtain ⟨c0_o2, c1_o2, f0_o2, f1_o2, z_o2⟩ := o2.two
        replace hb : Below w.heap.size w w1 := Below.trans (by (repeat (first | exact Below.refl _ _ | assumption | refine Below.drew ?_ | refine below_drewN ?_ _ | refine Below.setCell ?_ (by simp <;> omega) _ | refine Below.alloc ?_ (by have := hb.size; simp <;> omega) _))) (hx.mono (by have := hb.size; simp <;> omega))
        clear hx
        go_wp2_with fail
        go_ret2
        exact Ret.mk (Ret2.eq (by rw [HC.out, if_neg (by omega), if_neg (by omega)])) hb
end Go.Proofs.Ytojjjbhkpcmooaa
