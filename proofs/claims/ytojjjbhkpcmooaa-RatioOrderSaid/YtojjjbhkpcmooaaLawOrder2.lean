/-
  RatioOrder: walks, one a case.
-/
import Derived.Test.YtojjjbhkpcmooaaLaw01At
namespace Go.Proofs.Ytojjjbhkpcmooaa
open Go.ChangeShapes Go.WideShapes Go.ChangeAt Go.RowKit Go.Joins
set_option linter.unusedVariables false

set_option maxHeartbeats 1600000 in
set_option maxRecDepth 100000 in
theorem order_2_0 (a1 a2 b1 b2 c1 c2 s1 s2 : Int) (w : World) (VA : Hid (vldB a1 a2 = true)) (VB : Hid (vldB b1 b2 = true)) (VC : Hid (vldB c1 c2 = true))
    (H1 : Hid (cmpF a1 a2 b1 b2 = (0, 0))) (H2 : Hid (cmpF b1 b2 a1 a2 = (0, 0))) (H3 : Hid (cmpF b1 b2 c1 c2 = (-1, 0))) (H4 : Hid (cmpF a1 a2 c1 c2 = (-1, 0)))
    (HE : (a1 == b1 && a2 == b2) = true) (HS : Hid (subF a1 a2 b1 b2 = (s1, s2, 0))) (s1' : decide (s1 < 0) = false) (s2' : decide (0 < s1) = false) : Calls Try.prog 7 #[.agg #[.int .i64 a1, .int .i64 a2], .agg #[.int .i64 b1, .int .i64 b2], .agg #[.int .i64 c1, .int .i64 c2]] w (Ret (.bool true) w) := by
  have hb : Below w.heap.size w w := Below.refl _ _
  have he := eql_rat
  go_enter Try.func7, Try.ntmps7
  go_wp2_with fail
  refine (head_any _).mono ?_
  rintro e w1 ⟨rfl, hx⟩
  try clear c0_oa c1_oa f0_oa f1_oa z_oa
  first | have oa := (Own.new w _ _).below hx | have oa := ((Own.new w _ _).alloc _).below hx | have oa := (((Own.new w _ _).alloc _).alloc _).below hx | have oa := ((((Own.new w _ _).alloc _).alloc _).alloc _).below hx
  obtain ⟨c0_oa, c1_oa, f0_oa, f1_oa, z_oa⟩ := oa.two
  try clear c0_ob c1_ob f0_ob f1_ob z_ob
  first | have ob := (Own.at (w.alloc _) _ _ (w.heap.size + 1) (by simp)).below hx | have ob := ((Own.at (w.alloc _) _ _ (w.heap.size + 1) (by simp)).alloc _).below hx | have ob := (((Own.at (w.alloc _) _ _ (w.heap.size + 1) (by simp)).alloc _).alloc _).below hx | have ob := ((((Own.at (w.alloc _) _ _ (w.heap.size + 1) (by simp)).alloc _).alloc _).alloc _).below hx
  obtain ⟨c0_ob, c1_ob, f0_ob, f1_ob, z_ob⟩ := ob.two
  try clear c0_oc c1_oc f0_oc f1_oc z_oc
  first | have oc := (Own.at ((w.alloc _).alloc _) _ _ (w.heap.size + 1 + 1) (by simp)).below hx | have oc := ((Own.at ((w.alloc _).alloc _) _ _ (w.heap.size + 1 + 1) (by simp)).alloc _).below hx | have oc := (((Own.at ((w.alloc _).alloc _) _ _ (w.heap.size + 1 + 1) (by simp)).alloc _).alloc _).below hx | have oc := ((((Own.at ((w.alloc _).alloc _) _ _ (w.heap.size + 1 + 1) (by simp)).alloc _).alloc _).alloc _).below hx
  obtain ⟨c0_oc, c1_oc, f0_oc, f1_oc, z_oc⟩ := oc.two
  replace hb : Below w.heap.size w w1 := Below.trans (by (repeat (first | exact Below.refl _ _ | assumption | refine Below.drew ?_ | refine below_drewN ?_ _ | refine Below.setCell ?_ (by first | omega | (simp <;> omega)) _ | refine Below.alloc ?_ (by have := hb.size; first | omega | (simp <;> omega)) _))) (hx.mono (by have := hb.size; first | omega | (simp <;> omega)))
  clear hx
  go_wp2_with fail
  refine (r_valid_at _ _ _ VA.out).mono ?_
  rintro e w2 ⟨rfl, hx⟩
  try clear c0_oa c1_oa f0_oa f1_oa z_oa
  first | replace oa := oa.below hx | replace oa := (oa.alloc _).below hx | replace oa := ((oa.alloc _).alloc _).below hx | replace oa := (((oa.alloc _).alloc _).alloc _).below hx
  obtain ⟨c0_oa, c1_oa, f0_oa, f1_oa, z_oa⟩ := oa.two
  try clear c0_ob c1_ob f0_ob f1_ob z_ob
  first | replace ob := ob.below hx | replace ob := (ob.alloc _).below hx | replace ob := ((ob.alloc _).alloc _).below hx | replace ob := (((ob.alloc _).alloc _).alloc _).below hx
  obtain ⟨c0_ob, c1_ob, f0_ob, f1_ob, z_ob⟩ := ob.two
  try clear c0_oc c1_oc f0_oc f1_oc z_oc
  first | replace oc := oc.below hx | replace oc := (oc.alloc _).below hx | replace oc := ((oc.alloc _).alloc _).below hx | replace oc := (((oc.alloc _).alloc _).alloc _).below hx
  obtain ⟨c0_oc, c1_oc, f0_oc, f1_oc, z_oc⟩ := oc.two
  replace hb : Below w.heap.size w w2 := Below.trans (by (repeat (first | exact Below.refl _ _ | assumption | refine Below.drew ?_ | refine below_drewN ?_ _ | refine Below.setCell ?_ (by first | omega | (simp <;> omega)) _ | refine Below.alloc ?_ (by have := hb.size; first | omega | (simp <;> omega)) _))) (hx.mono (by have := hb.size; first | omega | (simp <;> omega)))
  clear hx
  go_wp2_with fail
  refine (r_valid_at _ _ _ VB.out).mono ?_
  rintro e w3 ⟨rfl, hx⟩
  try clear c0_oa c1_oa f0_oa f1_oa z_oa
  first | replace oa := oa.below hx | replace oa := (oa.alloc _).below hx | replace oa := ((oa.alloc _).alloc _).below hx | replace oa := (((oa.alloc _).alloc _).alloc _).below hx
  obtain ⟨c0_oa, c1_oa, f0_oa, f1_oa, z_oa⟩ := oa.two
  try clear c0_ob c1_ob f0_ob f1_ob z_ob
  first | replace ob := ob.below hx | replace ob := (ob.alloc _).below hx | replace ob := ((ob.alloc _).alloc _).below hx | replace ob := (((ob.alloc _).alloc _).alloc _).below hx
  obtain ⟨c0_ob, c1_ob, f0_ob, f1_ob, z_ob⟩ := ob.two
  try clear c0_oc c1_oc f0_oc f1_oc z_oc
  first | replace oc := oc.below hx | replace oc := (oc.alloc _).below hx | replace oc := ((oc.alloc _).alloc _).below hx | replace oc := (((oc.alloc _).alloc _).alloc _).below hx
  obtain ⟨c0_oc, c1_oc, f0_oc, f1_oc, z_oc⟩ := oc.two
  replace hb : Below w.heap.size w w3 := Below.trans (by (repeat (first | exact Below.refl _ _ | assumption | refine Below.drew ?_ | refine below_drewN ?_ _ | refine Below.setCell ?_ (by first | omega | (simp <;> omega)) _ | refine Below.alloc ?_ (by have := hb.size; first | omega | (simp <;> omega)) _))) (hx.mono (by have := hb.size; first | omega | (simp <;> omega)))
  clear hx
  go_wp2_with fail
  refine (r_valid_at _ _ _ VC.out).mono ?_
  rintro e w4 ⟨rfl, hx⟩
  try clear c0_oa c1_oa f0_oa f1_oa z_oa
  first | replace oa := oa.below hx | replace oa := (oa.alloc _).below hx | replace oa := ((oa.alloc _).alloc _).below hx | replace oa := (((oa.alloc _).alloc _).alloc _).below hx
  obtain ⟨c0_oa, c1_oa, f0_oa, f1_oa, z_oa⟩ := oa.two
  try clear c0_ob c1_ob f0_ob f1_ob z_ob
  first | replace ob := ob.below hx | replace ob := (ob.alloc _).below hx | replace ob := ((ob.alloc _).alloc _).below hx | replace ob := (((ob.alloc _).alloc _).alloc _).below hx
  obtain ⟨c0_ob, c1_ob, f0_ob, f1_ob, z_ob⟩ := ob.two
  try clear c0_oc c1_oc f0_oc f1_oc z_oc
  first | replace oc := oc.below hx | replace oc := (oc.alloc _).below hx | replace oc := ((oc.alloc _).alloc _).below hx | replace oc := (((oc.alloc _).alloc _).alloc _).below hx
  obtain ⟨c0_oc, c1_oc, f0_oc, f1_oc, z_oc⟩ := oc.two
  replace hb : Below w.heap.size w w4 := Below.trans (by (repeat (first | exact Below.refl _ _ | assumption | refine Below.drew ?_ | refine below_drewN ?_ _ | refine Below.setCell ?_ (by first | omega | (simp <;> omega)) _ | refine Below.alloc ?_ (by have := hb.size; first | omega | (simp <;> omega)) _))) (hx.mono (by have := hb.size; first | omega | (simp <;> omega)))
  clear hx
  go_wp2_with fail
  refine (cmp_at H1.out).mono ?_
  rintro e w5 ⟨rfl, hx⟩
  try clear c0_oa c1_oa f0_oa f1_oa z_oa
  first | replace oa := oa.below hx | replace oa := (oa.alloc _).below hx | replace oa := ((oa.alloc _).alloc _).below hx | replace oa := (((oa.alloc _).alloc _).alloc _).below hx
  obtain ⟨c0_oa, c1_oa, f0_oa, f1_oa, z_oa⟩ := oa.two
  try clear c0_ob c1_ob f0_ob f1_ob z_ob
  first | replace ob := ob.below hx | replace ob := (ob.alloc _).below hx | replace ob := ((ob.alloc _).alloc _).below hx | replace ob := (((ob.alloc _).alloc _).alloc _).below hx
  obtain ⟨c0_ob, c1_ob, f0_ob, f1_ob, z_ob⟩ := ob.two
  try clear c0_oc c1_oc f0_oc f1_oc z_oc
  first | replace oc := oc.below hx | replace oc := (oc.alloc _).below hx | replace oc := ((oc.alloc _).alloc _).below hx | replace oc := (((oc.alloc _).alloc _).alloc _).below hx
  obtain ⟨c0_oc, c1_oc, f0_oc, f1_oc, z_oc⟩ := oc.two
  replace hb : Below w.heap.size w w5 := Below.trans (by (repeat (first | exact Below.refl _ _ | assumption | refine Below.drew ?_ | refine below_drewN ?_ _ | refine Below.setCell ?_ (by first | omega | (simp <;> omega)) _ | refine Below.alloc ?_ (by have := hb.size; first | omega | (simp <;> omega)) _))) (hx.mono (by have := hb.size; first | omega | (simp <;> omega)))
  clear hx
  go_wp2_with fail
  refine (cmp_at H2.out).mono ?_
  rintro e w6 ⟨rfl, hx⟩
  try clear c0_oa c1_oa f0_oa f1_oa z_oa
  first | replace oa := oa.below hx | replace oa := (oa.alloc _).below hx | replace oa := ((oa.alloc _).alloc _).below hx | replace oa := (((oa.alloc _).alloc _).alloc _).below hx
  obtain ⟨c0_oa, c1_oa, f0_oa, f1_oa, z_oa⟩ := oa.two
  try clear c0_ob c1_ob f0_ob f1_ob z_ob
  first | replace ob := ob.below hx | replace ob := (ob.alloc _).below hx | replace ob := ((ob.alloc _).alloc _).below hx | replace ob := (((ob.alloc _).alloc _).alloc _).below hx
  obtain ⟨c0_ob, c1_ob, f0_ob, f1_ob, z_ob⟩ := ob.two
  try clear c0_oc c1_oc f0_oc f1_oc z_oc
  first | replace oc := oc.below hx | replace oc := (oc.alloc _).below hx | replace oc := ((oc.alloc _).alloc _).below hx | replace oc := (((oc.alloc _).alloc _).alloc _).below hx
  obtain ⟨c0_oc, c1_oc, f0_oc, f1_oc, z_oc⟩ := oc.two
  replace hb : Below w.heap.size w w6 := Below.trans (by (repeat (first | exact Below.refl _ _ | assumption | refine Below.drew ?_ | refine below_drewN ?_ _ | refine Below.setCell ?_ (by first | omega | (simp <;> omega)) _ | refine Below.alloc ?_ (by have := hb.size; first | omega | (simp <;> omega)) _))) (hx.mono (by have := hb.size; first | omega | (simp <;> omega)))
  clear hx
  go_wp2_with fail
  refine (cmp_at H3.out).mono ?_
  rintro e w7 ⟨rfl, hx⟩
  try clear c0_oa c1_oa f0_oa f1_oa z_oa
  first | replace oa := oa.below hx | replace oa := (oa.alloc _).below hx | replace oa := ((oa.alloc _).alloc _).below hx | replace oa := (((oa.alloc _).alloc _).alloc _).below hx
  obtain ⟨c0_oa, c1_oa, f0_oa, f1_oa, z_oa⟩ := oa.two
  try clear c0_ob c1_ob f0_ob f1_ob z_ob
  first | replace ob := ob.below hx | replace ob := (ob.alloc _).below hx | replace ob := ((ob.alloc _).alloc _).below hx | replace ob := (((ob.alloc _).alloc _).alloc _).below hx
  obtain ⟨c0_ob, c1_ob, f0_ob, f1_ob, z_ob⟩ := ob.two
  try clear c0_oc c1_oc f0_oc f1_oc z_oc
  first | replace oc := oc.below hx | replace oc := (oc.alloc _).below hx | replace oc := ((oc.alloc _).alloc _).below hx | replace oc := (((oc.alloc _).alloc _).alloc _).below hx
  obtain ⟨c0_oc, c1_oc, f0_oc, f1_oc, z_oc⟩ := oc.two
  replace hb : Below w.heap.size w w7 := Below.trans (by (repeat (first | exact Below.refl _ _ | assumption | refine Below.drew ?_ | refine below_drewN ?_ _ | refine Below.setCell ?_ (by first | omega | (simp <;> omega)) _ | refine Below.alloc ?_ (by have := hb.size; first | omega | (simp <;> omega)) _))) (hx.mono (by have := hb.size; first | omega | (simp <;> omega)))
  clear hx
  go_wp2_with fail
  refine (cmp_at H4.out).mono ?_
  rintro e w8 ⟨rfl, hx⟩
  try clear c0_oa c1_oa f0_oa f1_oa z_oa
  first | replace oa := oa.below hx | replace oa := (oa.alloc _).below hx | replace oa := ((oa.alloc _).alloc _).below hx | replace oa := (((oa.alloc _).alloc _).alloc _).below hx
  obtain ⟨c0_oa, c1_oa, f0_oa, f1_oa, z_oa⟩ := oa.two
  try clear c0_ob c1_ob f0_ob f1_ob z_ob
  first | replace ob := ob.below hx | replace ob := (ob.alloc _).below hx | replace ob := ((ob.alloc _).alloc _).below hx | replace ob := (((ob.alloc _).alloc _).alloc _).below hx
  obtain ⟨c0_ob, c1_ob, f0_ob, f1_ob, z_ob⟩ := ob.two
  try clear c0_oc c1_oc f0_oc f1_oc z_oc
  first | replace oc := oc.below hx | replace oc := (oc.alloc _).below hx | replace oc := ((oc.alloc _).alloc _).below hx | replace oc := (((oc.alloc _).alloc _).alloc _).below hx
  obtain ⟨c0_oc, c1_oc, f0_oc, f1_oc, z_oc⟩ := oc.two
  replace hb : Below w.heap.size w w8 := Below.trans (by (repeat (first | exact Below.refl _ _ | assumption | refine Below.drew ?_ | refine below_drewN ?_ _ | refine Below.setCell ?_ (by first | omega | (simp <;> omega)) _ | refine Below.alloc ?_ (by have := hb.size; first | omega | (simp <;> omega)) _))) (hx.mono (by have := hb.size; first | omega | (simp <;> omega)))
  clear hx
  go_wp2_with fail
  refine (sub_at HS.out).mono ?_
  rintro e w9 ⟨rfl, hx⟩
  try clear c0_oa c1_oa f0_oa f1_oa z_oa
  first | replace oa := oa.below hx | replace oa := (oa.alloc _).below hx | replace oa := ((oa.alloc _).alloc _).below hx | replace oa := (((oa.alloc _).alloc _).alloc _).below hx
  obtain ⟨c0_oa, c1_oa, f0_oa, f1_oa, z_oa⟩ := oa.two
  try clear c0_ob c1_ob f0_ob f1_ob z_ob
  first | replace ob := ob.below hx | replace ob := (ob.alloc _).below hx | replace ob := ((ob.alloc _).alloc _).below hx | replace ob := (((ob.alloc _).alloc _).alloc _).below hx
  obtain ⟨c0_ob, c1_ob, f0_ob, f1_ob, z_ob⟩ := ob.two
  try clear c0_oc c1_oc f0_oc f1_oc z_oc
  first | replace oc := oc.below hx | replace oc := (oc.alloc _).below hx | replace oc := ((oc.alloc _).alloc _).below hx | replace oc := (((oc.alloc _).alloc _).alloc _).below hx
  obtain ⟨c0_oc, c1_oc, f0_oc, f1_oc, z_oc⟩ := oc.two
  replace hb : Below w.heap.size w w9 := Below.trans (by (repeat (first | exact Below.refl _ _ | assumption | refine Below.drew ?_ | refine below_drewN ?_ _ | refine Below.setCell ?_ (by first | omega | (simp <;> omega)) _ | refine Below.alloc ?_ (by have := hb.size; first | omega | (simp <;> omega)) _))) (hx.mono (by have := hb.size; first | omega | (simp <;> omega)))
  clear hx
  go_wp2_with fail
  go_ret
  exact Ret.mk rfl (by (have hbs := hb.size; repeat (first | exact Below.refl _ _ | assumption | refine Below.drew ?_ | refine below_drewN ?_ _ | refine Below.setCell ?_ (by first | omega | (simp <;> omega)) _ | refine Below.alloc ?_ (by first | omega | (simp <;> omega)) _)))

set_option maxHeartbeats 1600000 in
set_option maxRecDepth 100000 in
theorem order_2_3 (a1 a2 b1 b2 c1 c2 s1 s2 : Int) (w : World) (VA : Hid (vldB a1 a2 = true)) (VB : Hid (vldB b1 b2 = true)) (VC : Hid (vldB c1 c2 = true))
    (H1 : Hid (cmpF a1 a2 b1 b2 = (0, 0))) (H2 : Hid (cmpF b1 b2 a1 a2 = (0, 0))) (H3 : Hid (cmpF b1 b2 c1 c2 = (-1, 0))) (H4 : Hid (cmpF a1 a2 c1 c2 = (-1, 0)))
    (HE : (a1 == b1 && a2 == b2) = true) (HS : Hid (subF a1 a2 b1 b2 = (s1, s2, 3))) : Calls Try.prog 7 #[.agg #[.int .i64 a1, .int .i64 a2], .agg #[.int .i64 b1, .int .i64 b2], .agg #[.int .i64 c1, .int .i64 c2]] w (Ret (.bool true) w) := by
  have hb : Below w.heap.size w w := Below.refl _ _
  have he := eql_rat
  go_enter Try.func7, Try.ntmps7
  go_wp2_with fail
  refine (head_any _).mono ?_
  rintro e w1 ⟨rfl, hx⟩
  try clear c0_oa c1_oa f0_oa f1_oa z_oa
  first | have oa := (Own.new w _ _).below hx | have oa := ((Own.new w _ _).alloc _).below hx | have oa := (((Own.new w _ _).alloc _).alloc _).below hx | have oa := ((((Own.new w _ _).alloc _).alloc _).alloc _).below hx
  obtain ⟨c0_oa, c1_oa, f0_oa, f1_oa, z_oa⟩ := oa.two
  try clear c0_ob c1_ob f0_ob f1_ob z_ob
  first | have ob := (Own.at (w.alloc _) _ _ (w.heap.size + 1) (by simp)).below hx | have ob := ((Own.at (w.alloc _) _ _ (w.heap.size + 1) (by simp)).alloc _).below hx | have ob := (((Own.at (w.alloc _) _ _ (w.heap.size + 1) (by simp)).alloc _).alloc _).below hx | have ob := ((((Own.at (w.alloc _) _ _ (w.heap.size + 1) (by simp)).alloc _).alloc _).alloc _).below hx
  obtain ⟨c0_ob, c1_ob, f0_ob, f1_ob, z_ob⟩ := ob.two
  try clear c0_oc c1_oc f0_oc f1_oc z_oc
  first | have oc := (Own.at ((w.alloc _).alloc _) _ _ (w.heap.size + 1 + 1) (by simp)).below hx | have oc := ((Own.at ((w.alloc _).alloc _) _ _ (w.heap.size + 1 + 1) (by simp)).alloc _).below hx | have oc := (((Own.at ((w.alloc _).alloc _) _ _ (w.heap.size + 1 + 1) (by simp)).alloc _).alloc _).below hx | have oc := ((((Own.at ((w.alloc _).alloc _) _ _ (w.heap.size + 1 + 1) (by simp)).alloc _).alloc _).alloc _).below hx
  obtain ⟨c0_oc, c1_oc, f0_oc, f1_oc, z_oc⟩ := oc.two
  replace hb : Below w.heap.size w w1 := Below.trans (by (repeat (first | exact Below.refl _ _ | assumption | refine Below.drew ?_ | refine below_drewN ?_ _ | refine Below.setCell ?_ (by first | omega | (simp <;> omega)) _ | refine Below.alloc ?_ (by have := hb.size; first | omega | (simp <;> omega)) _))) (hx.mono (by have := hb.size; first | omega | (simp <;> omega)))
  clear hx
  go_wp2_with fail
  refine (r_valid_at _ _ _ VA.out).mono ?_
  rintro e w2 ⟨rfl, hx⟩
  try clear c0_oa c1_oa f0_oa f1_oa z_oa
  first | replace oa := oa.below hx | replace oa := (oa.alloc _).below hx | replace oa := ((oa.alloc _).alloc _).below hx | replace oa := (((oa.alloc _).alloc _).alloc _).below hx
  obtain ⟨c0_oa, c1_oa, f0_oa, f1_oa, z_oa⟩ := oa.two
  try clear c0_ob c1_ob f0_ob f1_ob z_ob
  first | replace ob := ob.below hx | replace ob := (ob.alloc _).below hx | replace ob := ((ob.alloc _).alloc _).below hx | replace ob := (((ob.alloc _).alloc _).alloc _).below hx
  obtain ⟨c0_ob, c1_ob, f0_ob, f1_ob, z_ob⟩ := ob.two
  try clear c0_oc c1_oc f0_oc f1_oc z_oc
  first | replace oc := oc.below hx | replace oc := (oc.alloc _).below hx | replace oc := ((oc.alloc _).alloc _).below hx | replace oc := (((oc.alloc _).alloc _).alloc _).below hx
  obtain ⟨c0_oc, c1_oc, f0_oc, f1_oc, z_oc⟩ := oc.two
  replace hb : Below w.heap.size w w2 := Below.trans (by (repeat (first | exact Below.refl _ _ | assumption | refine Below.drew ?_ | refine below_drewN ?_ _ | refine Below.setCell ?_ (by first | omega | (simp <;> omega)) _ | refine Below.alloc ?_ (by have := hb.size; first | omega | (simp <;> omega)) _))) (hx.mono (by have := hb.size; first | omega | (simp <;> omega)))
  clear hx
  go_wp2_with fail
  refine (r_valid_at _ _ _ VB.out).mono ?_
  rintro e w3 ⟨rfl, hx⟩
  try clear c0_oa c1_oa f0_oa f1_oa z_oa
  first | replace oa := oa.below hx | replace oa := (oa.alloc _).below hx | replace oa := ((oa.alloc _).alloc _).below hx | replace oa := (((oa.alloc _).alloc _).alloc _).below hx
  obtain ⟨c0_oa, c1_oa, f0_oa, f1_oa, z_oa⟩ := oa.two
  try clear c0_ob c1_ob f0_ob f1_ob z_ob
  first | replace ob := ob.below hx | replace ob := (ob.alloc _).below hx | replace ob := ((ob.alloc _).alloc _).below hx | replace ob := (((ob.alloc _).alloc _).alloc _).below hx
  obtain ⟨c0_ob, c1_ob, f0_ob, f1_ob, z_ob⟩ := ob.two
  try clear c0_oc c1_oc f0_oc f1_oc z_oc
  first | replace oc := oc.below hx | replace oc := (oc.alloc _).below hx | replace oc := ((oc.alloc _).alloc _).below hx | replace oc := (((oc.alloc _).alloc _).alloc _).below hx
  obtain ⟨c0_oc, c1_oc, f0_oc, f1_oc, z_oc⟩ := oc.two
  replace hb : Below w.heap.size w w3 := Below.trans (by (repeat (first | exact Below.refl _ _ | assumption | refine Below.drew ?_ | refine below_drewN ?_ _ | refine Below.setCell ?_ (by first | omega | (simp <;> omega)) _ | refine Below.alloc ?_ (by have := hb.size; first | omega | (simp <;> omega)) _))) (hx.mono (by have := hb.size; first | omega | (simp <;> omega)))
  clear hx
  go_wp2_with fail
  refine (r_valid_at _ _ _ VC.out).mono ?_
  rintro e w4 ⟨rfl, hx⟩
  try clear c0_oa c1_oa f0_oa f1_oa z_oa
  first | replace oa := oa.below hx | replace oa := (oa.alloc _).below hx | replace oa := ((oa.alloc _).alloc _).below hx | replace oa := (((oa.alloc _).alloc _).alloc _).below hx
  obtain ⟨c0_oa, c1_oa, f0_oa, f1_oa, z_oa⟩ := oa.two
  try clear c0_ob c1_ob f0_ob f1_ob z_ob
  first | replace ob := ob.below hx | replace ob := (ob.alloc _).below hx | replace ob := ((ob.alloc _).alloc _).below hx | replace ob := (((ob.alloc _).alloc _).alloc _).below hx
  obtain ⟨c0_ob, c1_ob, f0_ob, f1_ob, z_ob⟩ := ob.two
  try clear c0_oc c1_oc f0_oc f1_oc z_oc
  first | replace oc := oc.below hx | replace oc := (oc.alloc _).below hx | replace oc := ((oc.alloc _).alloc _).below hx | replace oc := (((oc.alloc _).alloc _).alloc _).below hx
  obtain ⟨c0_oc, c1_oc, f0_oc, f1_oc, z_oc⟩ := oc.two
  replace hb : Below w.heap.size w w4 := Below.trans (by (repeat (first | exact Below.refl _ _ | assumption | refine Below.drew ?_ | refine below_drewN ?_ _ | refine Below.setCell ?_ (by first | omega | (simp <;> omega)) _ | refine Below.alloc ?_ (by have := hb.size; first | omega | (simp <;> omega)) _))) (hx.mono (by have := hb.size; first | omega | (simp <;> omega)))
  clear hx
  go_wp2_with fail
  refine (cmp_at H1.out).mono ?_
  rintro e w5 ⟨rfl, hx⟩
  try clear c0_oa c1_oa f0_oa f1_oa z_oa
  first | replace oa := oa.below hx | replace oa := (oa.alloc _).below hx | replace oa := ((oa.alloc _).alloc _).below hx | replace oa := (((oa.alloc _).alloc _).alloc _).below hx
  obtain ⟨c0_oa, c1_oa, f0_oa, f1_oa, z_oa⟩ := oa.two
  try clear c0_ob c1_ob f0_ob f1_ob z_ob
  first | replace ob := ob.below hx | replace ob := (ob.alloc _).below hx | replace ob := ((ob.alloc _).alloc _).below hx | replace ob := (((ob.alloc _).alloc _).alloc _).below hx
  obtain ⟨c0_ob, c1_ob, f0_ob, f1_ob, z_ob⟩ := ob.two
  try clear c0_oc c1_oc f0_oc f1_oc z_oc
  first | replace oc := oc.below hx | replace oc := (oc.alloc _).below hx | replace oc := ((oc.alloc _).alloc _).below hx | replace oc := (((oc.alloc _).alloc _).alloc _).below hx
  obtain ⟨c0_oc, c1_oc, f0_oc, f1_oc, z_oc⟩ := oc.two
  replace hb : Below w.heap.size w w5 := Below.trans (by (repeat (first | exact Below.refl _ _ | assumption | refine Below.drew ?_ | refine below_drewN ?_ _ | refine Below.setCell ?_ (by first | omega | (simp <;> omega)) _ | refine Below.alloc ?_ (by have := hb.size; first | omega | (simp <;> omega)) _))) (hx.mono (by have := hb.size; first | omega | (simp <;> omega)))
  clear hx
  go_wp2_with fail
  refine (cmp_at H2.out).mono ?_
  rintro e w6 ⟨rfl, hx⟩
  try clear c0_oa c1_oa f0_oa f1_oa z_oa
  first | replace oa := oa.below hx | replace oa := (oa.alloc _).below hx | replace oa := ((oa.alloc _).alloc _).below hx | replace oa := (((oa.alloc _).alloc _).alloc _).below hx
  obtain ⟨c0_oa, c1_oa, f0_oa, f1_oa, z_oa⟩ := oa.two
  try clear c0_ob c1_ob f0_ob f1_ob z_ob
  first | replace ob := ob.below hx | replace ob := (ob.alloc _).below hx | replace ob := ((ob.alloc _).alloc _).below hx | replace ob := (((ob.alloc _).alloc _).alloc _).below hx
  obtain ⟨c0_ob, c1_ob, f0_ob, f1_ob, z_ob⟩ := ob.two
  try clear c0_oc c1_oc f0_oc f1_oc z_oc
  first | replace oc := oc.below hx | replace oc := (oc.alloc _).below hx | replace oc := ((oc.alloc _).alloc _).below hx | replace oc := (((oc.alloc _).alloc _).alloc _).below hx
  obtain ⟨c0_oc, c1_oc, f0_oc, f1_oc, z_oc⟩ := oc.two
  replace hb : Below w.heap.size w w6 := Below.trans (by (repeat (first | exact Below.refl _ _ | assumption | refine Below.drew ?_ | refine below_drewN ?_ _ | refine Below.setCell ?_ (by first | omega | (simp <;> omega)) _ | refine Below.alloc ?_ (by have := hb.size; first | omega | (simp <;> omega)) _))) (hx.mono (by have := hb.size; first | omega | (simp <;> omega)))
  clear hx
  go_wp2_with fail
  refine (cmp_at H3.out).mono ?_
  rintro e w7 ⟨rfl, hx⟩
  try clear c0_oa c1_oa f0_oa f1_oa z_oa
  first | replace oa := oa.below hx | replace oa := (oa.alloc _).below hx | replace oa := ((oa.alloc _).alloc _).below hx | replace oa := (((oa.alloc _).alloc _).alloc _).below hx
  obtain ⟨c0_oa, c1_oa, f0_oa, f1_oa, z_oa⟩ := oa.two
  try clear c0_ob c1_ob f0_ob f1_ob z_ob
  first | replace ob := ob.below hx | replace ob := (ob.alloc _).below hx | replace ob := ((ob.alloc _).alloc _).below hx | replace ob := (((ob.alloc _).alloc _).alloc _).below hx
  obtain ⟨c0_ob, c1_ob, f0_ob, f1_ob, z_ob⟩ := ob.two
  try clear c0_oc c1_oc f0_oc f1_oc z_oc
  first | replace oc := oc.below hx | replace oc := (oc.alloc _).below hx | replace oc := ((oc.alloc _).alloc _).below hx | replace oc := (((oc.alloc _).alloc _).alloc _).below hx
  obtain ⟨c0_oc, c1_oc, f0_oc, f1_oc, z_oc⟩ := oc.two
  replace hb : Below w.heap.size w w7 := Below.trans (by (repeat (first | exact Below.refl _ _ | assumption | refine Below.drew ?_ | refine below_drewN ?_ _ | refine Below.setCell ?_ (by first | omega | (simp <;> omega)) _ | refine Below.alloc ?_ (by have := hb.size; first | omega | (simp <;> omega)) _))) (hx.mono (by have := hb.size; first | omega | (simp <;> omega)))
  clear hx
  go_wp2_with fail
  refine (cmp_at H4.out).mono ?_
  rintro e w8 ⟨rfl, hx⟩
  try clear c0_oa c1_oa f0_oa f1_oa z_oa
  first | replace oa := oa.below hx | replace oa := (oa.alloc _).below hx | replace oa := ((oa.alloc _).alloc _).below hx | replace oa := (((oa.alloc _).alloc _).alloc _).below hx
  obtain ⟨c0_oa, c1_oa, f0_oa, f1_oa, z_oa⟩ := oa.two
  try clear c0_ob c1_ob f0_ob f1_ob z_ob
  first | replace ob := ob.below hx | replace ob := (ob.alloc _).below hx | replace ob := ((ob.alloc _).alloc _).below hx | replace ob := (((ob.alloc _).alloc _).alloc _).below hx
  obtain ⟨c0_ob, c1_ob, f0_ob, f1_ob, z_ob⟩ := ob.two
  try clear c0_oc c1_oc f0_oc f1_oc z_oc
  first | replace oc := oc.below hx | replace oc := (oc.alloc _).below hx | replace oc := ((oc.alloc _).alloc _).below hx | replace oc := (((oc.alloc _).alloc _).alloc _).below hx
  obtain ⟨c0_oc, c1_oc, f0_oc, f1_oc, z_oc⟩ := oc.two
  replace hb : Below w.heap.size w w8 := Below.trans (by (repeat (first | exact Below.refl _ _ | assumption | refine Below.drew ?_ | refine below_drewN ?_ _ | refine Below.setCell ?_ (by first | omega | (simp <;> omega)) _ | refine Below.alloc ?_ (by have := hb.size; first | omega | (simp <;> omega)) _))) (hx.mono (by have := hb.size; first | omega | (simp <;> omega)))
  clear hx
  go_wp2_with fail
  refine (sub_at HS.out).mono ?_
  rintro e w9 ⟨rfl, hx⟩
  try clear c0_oa c1_oa f0_oa f1_oa z_oa
  first | replace oa := oa.below hx | replace oa := (oa.alloc _).below hx | replace oa := ((oa.alloc _).alloc _).below hx | replace oa := (((oa.alloc _).alloc _).alloc _).below hx
  obtain ⟨c0_oa, c1_oa, f0_oa, f1_oa, z_oa⟩ := oa.two
  try clear c0_ob c1_ob f0_ob f1_ob z_ob
  first | replace ob := ob.below hx | replace ob := (ob.alloc _).below hx | replace ob := ((ob.alloc _).alloc _).below hx | replace ob := (((ob.alloc _).alloc _).alloc _).below hx
  obtain ⟨c0_ob, c1_ob, f0_ob, f1_ob, z_ob⟩ := ob.two
  try clear c0_oc c1_oc f0_oc f1_oc z_oc
  first | replace oc := oc.below hx | replace oc := (oc.alloc _).below hx | replace oc := ((oc.alloc _).alloc _).below hx | replace oc := (((oc.alloc _).alloc _).alloc _).below hx
  obtain ⟨c0_oc, c1_oc, f0_oc, f1_oc, z_oc⟩ := oc.two
  replace hb : Below w.heap.size w w9 := Below.trans (by (repeat (first | exact Below.refl _ _ | assumption | refine Below.drew ?_ | refine below_drewN ?_ _ | refine Below.setCell ?_ (by first | omega | (simp <;> omega)) _ | refine Below.alloc ?_ (by have := hb.size; first | omega | (simp <;> omega)) _))) (hx.mono (by have := hb.size; first | omega | (simp <;> omega)))
  clear hx
  go_wp2_with fail
  go_ret
  exact Ret.mk rfl (by (have hbs := hb.size; repeat (first | exact Below.refl _ _ | assumption | refine Below.drew ?_ | refine below_drewN ?_ _ | refine Below.setCell ?_ (by first | omega | (simp <;> omega)) _ | refine Below.alloc ?_ (by first | omega | (simp <;> omega)) _)))

set_option maxHeartbeats 1600000 in
set_option maxRecDepth 100000 in
theorem order_5_0 (a1 a2 b1 b2 c1 c2 s1 s2 : Int) (w : World) (VA : Hid (vldB a1 a2 = true)) (VB : Hid (vldB b1 b2 = true)) (VC : Hid (vldB c1 c2 = true))
    (H1 : Hid (cmpF a1 a2 b1 b2 = (1, 0))) (H2 : Hid (cmpF b1 b2 a1 a2 = (-1, 0))) (H3 : Hid (cmpF b1 b2 c1 c2 = (0, 0))) (H4 : Hid (cmpF a1 a2 c1 c2 = (1, 0)))
    (HE : (a1 == b1 && a2 == b2) = false) (HS : Hid (subF a1 a2 b1 b2 = (s1, s2, 0))) (s1' : decide (s1 < 0) = false) (s2' : decide (0 < s1) = true) : Calls Try.prog 7 #[.agg #[.int .i64 a1, .int .i64 a2], .agg #[.int .i64 b1, .int .i64 b2], .agg #[.int .i64 c1, .int .i64 c2]] w (Ret (.bool true) w) := by
  have hb : Below w.heap.size w w := Below.refl _ _
  have he := eql_rat
  go_enter Try.func7, Try.ntmps7
  go_wp2_with fail
  refine (head_any _).mono ?_
  rintro e w1 ⟨rfl, hx⟩
  try clear c0_oa c1_oa f0_oa f1_oa z_oa
  first | have oa := (Own.new w _ _).below hx | have oa := ((Own.new w _ _).alloc _).below hx | have oa := (((Own.new w _ _).alloc _).alloc _).below hx | have oa := ((((Own.new w _ _).alloc _).alloc _).alloc _).below hx
  obtain ⟨c0_oa, c1_oa, f0_oa, f1_oa, z_oa⟩ := oa.two
  try clear c0_ob c1_ob f0_ob f1_ob z_ob
  first | have ob := (Own.at (w.alloc _) _ _ (w.heap.size + 1) (by simp)).below hx | have ob := ((Own.at (w.alloc _) _ _ (w.heap.size + 1) (by simp)).alloc _).below hx | have ob := (((Own.at (w.alloc _) _ _ (w.heap.size + 1) (by simp)).alloc _).alloc _).below hx | have ob := ((((Own.at (w.alloc _) _ _ (w.heap.size + 1) (by simp)).alloc _).alloc _).alloc _).below hx
  obtain ⟨c0_ob, c1_ob, f0_ob, f1_ob, z_ob⟩ := ob.two
  try clear c0_oc c1_oc f0_oc f1_oc z_oc
  first | have oc := (Own.at ((w.alloc _).alloc _) _ _ (w.heap.size + 1 + 1) (by simp)).below hx | have oc := ((Own.at ((w.alloc _).alloc _) _ _ (w.heap.size + 1 + 1) (by simp)).alloc _).below hx | have oc := (((Own.at ((w.alloc _).alloc _) _ _ (w.heap.size + 1 + 1) (by simp)).alloc _).alloc _).below hx | have oc := ((((Own.at ((w.alloc _).alloc _) _ _ (w.heap.size + 1 + 1) (by simp)).alloc _).alloc _).alloc _).below hx
  obtain ⟨c0_oc, c1_oc, f0_oc, f1_oc, z_oc⟩ := oc.two
  replace hb : Below w.heap.size w w1 := Below.trans (by (repeat (first | exact Below.refl _ _ | assumption | refine Below.drew ?_ | refine below_drewN ?_ _ | refine Below.setCell ?_ (by first | omega | (simp <;> omega)) _ | refine Below.alloc ?_ (by have := hb.size; first | omega | (simp <;> omega)) _))) (hx.mono (by have := hb.size; first | omega | (simp <;> omega)))
  clear hx
  go_wp2_with fail
  refine (r_valid_at _ _ _ VA.out).mono ?_
  rintro e w2 ⟨rfl, hx⟩
  try clear c0_oa c1_oa f0_oa f1_oa z_oa
  first | replace oa := oa.below hx | replace oa := (oa.alloc _).below hx | replace oa := ((oa.alloc _).alloc _).below hx | replace oa := (((oa.alloc _).alloc _).alloc _).below hx
  obtain ⟨c0_oa, c1_oa, f0_oa, f1_oa, z_oa⟩ := oa.two
  try clear c0_ob c1_ob f0_ob f1_ob z_ob
  first | replace ob := ob.below hx | replace ob := (ob.alloc _).below hx | replace ob := ((ob.alloc _).alloc _).below hx | replace ob := (((ob.alloc _).alloc _).alloc _).below hx
  obtain ⟨c0_ob, c1_ob, f0_ob, f1_ob, z_ob⟩ := ob.two
  try clear c0_oc c1_oc f0_oc f1_oc z_oc
  first | replace oc := oc.below hx | replace oc := (oc.alloc _).below hx | replace oc := ((oc.alloc _).alloc _).below hx | replace oc := (((oc.alloc _).alloc _).alloc _).below hx
  obtain ⟨c0_oc, c1_oc, f0_oc, f1_oc, z_oc⟩ := oc.two
  replace hb : Below w.heap.size w w2 := Below.trans (by (repeat (first | exact Below.refl _ _ | assumption | refine Below.drew ?_ | refine below_drewN ?_ _ | refine Below.setCell ?_ (by first | omega | (simp <;> omega)) _ | refine Below.alloc ?_ (by have := hb.size; first | omega | (simp <;> omega)) _))) (hx.mono (by have := hb.size; first | omega | (simp <;> omega)))
  clear hx
  go_wp2_with fail
  refine (r_valid_at _ _ _ VB.out).mono ?_
  rintro e w3 ⟨rfl, hx⟩
  try clear c0_oa c1_oa f0_oa f1_oa z_oa
  first | replace oa := oa.below hx | replace oa := (oa.alloc _).below hx | replace oa := ((oa.alloc _).alloc _).below hx | replace oa := (((oa.alloc _).alloc _).alloc _).below hx
  obtain ⟨c0_oa, c1_oa, f0_oa, f1_oa, z_oa⟩ := oa.two
  try clear c0_ob c1_ob f0_ob f1_ob z_ob
  first | replace ob := ob.below hx | replace ob := (ob.alloc _).below hx | replace ob := ((ob.alloc _).alloc _).below hx | replace ob := (((ob.alloc _).alloc _).alloc _).below hx
  obtain ⟨c0_ob, c1_ob, f0_ob, f1_ob, z_ob⟩ := ob.two
  try clear c0_oc c1_oc f0_oc f1_oc z_oc
  first | replace oc := oc.below hx | replace oc := (oc.alloc _).below hx | replace oc := ((oc.alloc _).alloc _).below hx | replace oc := (((oc.alloc _).alloc _).alloc _).below hx
  obtain ⟨c0_oc, c1_oc, f0_oc, f1_oc, z_oc⟩ := oc.two
  replace hb : Below w.heap.size w w3 := Below.trans (by (repeat (first | exact Below.refl _ _ | assumption | refine Below.drew ?_ | refine below_drewN ?_ _ | refine Below.setCell ?_ (by first | omega | (simp <;> omega)) _ | refine Below.alloc ?_ (by have := hb.size; first | omega | (simp <;> omega)) _))) (hx.mono (by have := hb.size; first | omega | (simp <;> omega)))
  clear hx
  go_wp2_with fail
  refine (r_valid_at _ _ _ VC.out).mono ?_
  rintro e w4 ⟨rfl, hx⟩
  try clear c0_oa c1_oa f0_oa f1_oa z_oa
  first | replace oa := oa.below hx | replace oa := (oa.alloc _).below hx | replace oa := ((oa.alloc _).alloc _).below hx | replace oa := (((oa.alloc _).alloc _).alloc _).below hx
  obtain ⟨c0_oa, c1_oa, f0_oa, f1_oa, z_oa⟩ := oa.two
  try clear c0_ob c1_ob f0_ob f1_ob z_ob
  first | replace ob := ob.below hx | replace ob := (ob.alloc _).below hx | replace ob := ((ob.alloc _).alloc _).below hx | replace ob := (((ob.alloc _).alloc _).alloc _).below hx
  obtain ⟨c0_ob, c1_ob, f0_ob, f1_ob, z_ob⟩ := ob.two
  try clear c0_oc c1_oc f0_oc f1_oc z_oc
  first | replace oc := oc.below hx | replace oc := (oc.alloc _).below hx | replace oc := ((oc.alloc _).alloc _).below hx | replace oc := (((oc.alloc _).alloc _).alloc _).below hx
  obtain ⟨c0_oc, c1_oc, f0_oc, f1_oc, z_oc⟩ := oc.two
  replace hb : Below w.heap.size w w4 := Below.trans (by (repeat (first | exact Below.refl _ _ | assumption | refine Below.drew ?_ | refine below_drewN ?_ _ | refine Below.setCell ?_ (by first | omega | (simp <;> omega)) _ | refine Below.alloc ?_ (by have := hb.size; first | omega | (simp <;> omega)) _))) (hx.mono (by have := hb.size; first | omega | (simp <;> omega)))
  clear hx
  go_wp2_with fail
  refine (cmp_at H1.out).mono ?_
  rintro e w5 ⟨rfl, hx⟩
  try clear c0_oa c1_oa f0_oa f1_oa z_oa
  first | replace oa := oa.below hx | replace oa := (oa.alloc _).below hx | replace oa := ((oa.alloc _).alloc _).below hx | replace oa := (((oa.alloc _).alloc _).alloc _).below hx
  obtain ⟨c0_oa, c1_oa, f0_oa, f1_oa, z_oa⟩ := oa.two
  try clear c0_ob c1_ob f0_ob f1_ob z_ob
  first | replace ob := ob.below hx | replace ob := (ob.alloc _).below hx | replace ob := ((ob.alloc _).alloc _).below hx | replace ob := (((ob.alloc _).alloc _).alloc _).below hx
  obtain ⟨c0_ob, c1_ob, f0_ob, f1_ob, z_ob⟩ := ob.two
  try clear c0_oc c1_oc f0_oc f1_oc z_oc
  first | replace oc := oc.below hx | replace oc := (oc.alloc _).below hx | replace oc := ((oc.alloc _).alloc _).below hx | replace oc := (((oc.alloc _).alloc _).alloc _).below hx
  obtain ⟨c0_oc, c1_oc, f0_oc, f1_oc, z_oc⟩ := oc.two
  replace hb : Below w.heap.size w w5 := Below.trans (by (repeat (first | exact Below.refl _ _ | assumption | refine Below.drew ?_ | refine below_drewN ?_ _ | refine Below.setCell ?_ (by first | omega | (simp <;> omega)) _ | refine Below.alloc ?_ (by have := hb.size; first | omega | (simp <;> omega)) _))) (hx.mono (by have := hb.size; first | omega | (simp <;> omega)))
  clear hx
  go_wp2_with fail
  refine (cmp_at H2.out).mono ?_
  rintro e w6 ⟨rfl, hx⟩
  try clear c0_oa c1_oa f0_oa f1_oa z_oa
  first | replace oa := oa.below hx | replace oa := (oa.alloc _).below hx | replace oa := ((oa.alloc _).alloc _).below hx | replace oa := (((oa.alloc _).alloc _).alloc _).below hx
  obtain ⟨c0_oa, c1_oa, f0_oa, f1_oa, z_oa⟩ := oa.two
  try clear c0_ob c1_ob f0_ob f1_ob z_ob
  first | replace ob := ob.below hx | replace ob := (ob.alloc _).below hx | replace ob := ((ob.alloc _).alloc _).below hx | replace ob := (((ob.alloc _).alloc _).alloc _).below hx
  obtain ⟨c0_ob, c1_ob, f0_ob, f1_ob, z_ob⟩ := ob.two
  try clear c0_oc c1_oc f0_oc f1_oc z_oc
  first | replace oc := oc.below hx | replace oc := (oc.alloc _).below hx | replace oc := ((oc.alloc _).alloc _).below hx | replace oc := (((oc.alloc _).alloc _).alloc _).below hx
  obtain ⟨c0_oc, c1_oc, f0_oc, f1_oc, z_oc⟩ := oc.two
  replace hb : Below w.heap.size w w6 := Below.trans (by (repeat (first | exact Below.refl _ _ | assumption | refine Below.drew ?_ | refine below_drewN ?_ _ | refine Below.setCell ?_ (by first | omega | (simp <;> omega)) _ | refine Below.alloc ?_ (by have := hb.size; first | omega | (simp <;> omega)) _))) (hx.mono (by have := hb.size; first | omega | (simp <;> omega)))
  clear hx
  go_wp2_with fail
  refine (cmp_at H3.out).mono ?_
  rintro e w7 ⟨rfl, hx⟩
  try clear c0_oa c1_oa f0_oa f1_oa z_oa
  first | replace oa := oa.below hx | replace oa := (oa.alloc _).below hx | replace oa := ((oa.alloc _).alloc _).below hx | replace oa := (((oa.alloc _).alloc _).alloc _).below hx
  obtain ⟨c0_oa, c1_oa, f0_oa, f1_oa, z_oa⟩ := oa.two
  try clear c0_ob c1_ob f0_ob f1_ob z_ob
  first | replace ob := ob.below hx | replace ob := (ob.alloc _).below hx | replace ob := ((ob.alloc _).alloc _).below hx | replace ob := (((ob.alloc _).alloc _).alloc _).below hx
  obtain ⟨c0_ob, c1_ob, f0_ob, f1_ob, z_ob⟩ := ob.two
  try clear c0_oc c1_oc f0_oc f1_oc z_oc
  first | replace oc := oc.below hx | replace oc := (oc.alloc _).below hx | replace oc := ((oc.alloc _).alloc _).below hx | replace oc := (((oc.alloc _).alloc _).alloc _).below hx
  obtain ⟨c0_oc, c1_oc, f0_oc, f1_oc, z_oc⟩ := oc.two
  replace hb : Below w.heap.size w w7 := Below.trans (by (repeat (first | exact Below.refl _ _ | assumption | refine Below.drew ?_ | refine below_drewN ?_ _ | refine Below.setCell ?_ (by first | omega | (simp <;> omega)) _ | refine Below.alloc ?_ (by have := hb.size; first | omega | (simp <;> omega)) _))) (hx.mono (by have := hb.size; first | omega | (simp <;> omega)))
  clear hx
  go_wp2_with fail
  refine (cmp_at H4.out).mono ?_
  rintro e w8 ⟨rfl, hx⟩
  try clear c0_oa c1_oa f0_oa f1_oa z_oa
  first | replace oa := oa.below hx | replace oa := (oa.alloc _).below hx | replace oa := ((oa.alloc _).alloc _).below hx | replace oa := (((oa.alloc _).alloc _).alloc _).below hx
  obtain ⟨c0_oa, c1_oa, f0_oa, f1_oa, z_oa⟩ := oa.two
  try clear c0_ob c1_ob f0_ob f1_ob z_ob
  first | replace ob := ob.below hx | replace ob := (ob.alloc _).below hx | replace ob := ((ob.alloc _).alloc _).below hx | replace ob := (((ob.alloc _).alloc _).alloc _).below hx
  obtain ⟨c0_ob, c1_ob, f0_ob, f1_ob, z_ob⟩ := ob.two
  try clear c0_oc c1_oc f0_oc f1_oc z_oc
  first | replace oc := oc.below hx | replace oc := (oc.alloc _).below hx | replace oc := ((oc.alloc _).alloc _).below hx | replace oc := (((oc.alloc _).alloc _).alloc _).below hx
  obtain ⟨c0_oc, c1_oc, f0_oc, f1_oc, z_oc⟩ := oc.two
  replace hb : Below w.heap.size w w8 := Below.trans (by (repeat (first | exact Below.refl _ _ | assumption | refine Below.drew ?_ | refine below_drewN ?_ _ | refine Below.setCell ?_ (by first | omega | (simp <;> omega)) _ | refine Below.alloc ?_ (by have := hb.size; first | omega | (simp <;> omega)) _))) (hx.mono (by have := hb.size; first | omega | (simp <;> omega)))
  clear hx
  go_wp2_with fail
  refine (sub_at HS.out).mono ?_
  rintro e w9 ⟨rfl, hx⟩
  try clear c0_oa c1_oa f0_oa f1_oa z_oa
  first | replace oa := oa.below hx | replace oa := (oa.alloc _).below hx | replace oa := ((oa.alloc _).alloc _).below hx | replace oa := (((oa.alloc _).alloc _).alloc _).below hx
  obtain ⟨c0_oa, c1_oa, f0_oa, f1_oa, z_oa⟩ := oa.two
  try clear c0_ob c1_ob f0_ob f1_ob z_ob
  first | replace ob := ob.below hx | replace ob := (ob.alloc _).below hx | replace ob := ((ob.alloc _).alloc _).below hx | replace ob := (((ob.alloc _).alloc _).alloc _).below hx
  obtain ⟨c0_ob, c1_ob, f0_ob, f1_ob, z_ob⟩ := ob.two
  try clear c0_oc c1_oc f0_oc f1_oc z_oc
  first | replace oc := oc.below hx | replace oc := (oc.alloc _).below hx | replace oc := ((oc.alloc _).alloc _).below hx | replace oc := (((oc.alloc _).alloc _).alloc _).below hx
  obtain ⟨c0_oc, c1_oc, f0_oc, f1_oc, z_oc⟩ := oc.two
  replace hb : Below w.heap.size w w9 := Below.trans (by (repeat (first | exact Below.refl _ _ | assumption | refine Below.drew ?_ | refine below_drewN ?_ _ | refine Below.setCell ?_ (by first | omega | (simp <;> omega)) _ | refine Below.alloc ?_ (by have := hb.size; first | omega | (simp <;> omega)) _))) (hx.mono (by have := hb.size; first | omega | (simp <;> omega)))
  clear hx
  go_wp2_with fail
  go_ret
  exact Ret.mk rfl (by (have hbs := hb.size; repeat (first | exact Below.refl _ _ | assumption | refine Below.drew ?_ | refine below_drewN ?_ _ | refine Below.setCell ?_ (by first | omega | (simp <;> omega)) _ | refine Below.alloc ?_ (by first | omega | (simp <;> omega)) _)))

set_option maxHeartbeats 1600000 in
set_option maxRecDepth 100000 in
theorem order_5_3 (a1 a2 b1 b2 c1 c2 s1 s2 : Int) (w : World) (VA : Hid (vldB a1 a2 = true)) (VB : Hid (vldB b1 b2 = true)) (VC : Hid (vldB c1 c2 = true))
    (H1 : Hid (cmpF a1 a2 b1 b2 = (1, 0))) (H2 : Hid (cmpF b1 b2 a1 a2 = (-1, 0))) (H3 : Hid (cmpF b1 b2 c1 c2 = (0, 0))) (H4 : Hid (cmpF a1 a2 c1 c2 = (1, 0)))
    (HE : (a1 == b1 && a2 == b2) = false) (HS : Hid (subF a1 a2 b1 b2 = (s1, s2, 3))) : Calls Try.prog 7 #[.agg #[.int .i64 a1, .int .i64 a2], .agg #[.int .i64 b1, .int .i64 b2], .agg #[.int .i64 c1, .int .i64 c2]] w (Ret (.bool true) w) := by
  have hb : Below w.heap.size w w := Below.refl _ _
  have he := eql_rat
  go_enter Try.func7, Try.ntmps7
  go_wp2_with fail
  refine (head_any _).mono ?_
  rintro e w1 ⟨rfl, hx⟩
  try clear c0_oa c1_oa f0_oa f1_oa z_oa
  first | have oa := (Own.new w _ _).below hx | have oa := ((Own.new w _ _).alloc _).below hx | have oa := (((Own.new w _ _).alloc _).alloc _).below hx | have oa := ((((Own.new w _ _).alloc _).alloc _).alloc _).below hx
  obtain ⟨c0_oa, c1_oa, f0_oa, f1_oa, z_oa⟩ := oa.two
  try clear c0_ob c1_ob f0_ob f1_ob z_ob
  first | have ob := (Own.at (w.alloc _) _ _ (w.heap.size + 1) (by simp)).below hx | have ob := ((Own.at (w.alloc _) _ _ (w.heap.size + 1) (by simp)).alloc _).below hx | have ob := (((Own.at (w.alloc _) _ _ (w.heap.size + 1) (by simp)).alloc _).alloc _).below hx | have ob := ((((Own.at (w.alloc _) _ _ (w.heap.size + 1) (by simp)).alloc _).alloc _).alloc _).below hx
  obtain ⟨c0_ob, c1_ob, f0_ob, f1_ob, z_ob⟩ := ob.two
  try clear c0_oc c1_oc f0_oc f1_oc z_oc
  first | have oc := (Own.at ((w.alloc _).alloc _) _ _ (w.heap.size + 1 + 1) (by simp)).below hx | have oc := ((Own.at ((w.alloc _).alloc _) _ _ (w.heap.size + 1 + 1) (by simp)).alloc _).below hx | have oc := (((Own.at ((w.alloc _).alloc _) _ _ (w.heap.size + 1 + 1) (by simp)).alloc _).alloc _).below hx | have oc := ((((Own.at ((w.alloc _).alloc _) _ _ (w.heap.size + 1 + 1) (by simp)).alloc _).alloc _).alloc _).below hx
  obtain ⟨c0_oc, c1_oc, f0_oc, f1_oc, z_oc⟩ := oc.two
  replace hb : Below w.heap.size w w1 := Below.trans (by (repeat (first | exact Below.refl _ _ | assumption | refine Below.drew ?_ | refine below_drewN ?_ _ | refine Below.setCell ?_ (by first | omega | (simp <;> omega)) _ | refine Below.alloc ?_ (by have := hb.size; first | omega | (simp <;> omega)) _))) (hx.mono (by have := hb.size; first | omega | (simp <;> omega)))
  clear hx
  go_wp2_with fail
  refine (r_valid_at _ _ _ VA.out).mono ?_
  rintro e w2 ⟨rfl, hx⟩
  try clear c0_oa c1_oa f0_oa f1_oa z_oa
  first | replace oa := oa.below hx | replace oa := (oa.alloc _).below hx | replace oa := ((oa.alloc _).alloc _).below hx | replace oa := (((oa.alloc _).alloc _).alloc _).below hx
  obtain ⟨c0_oa, c1_oa, f0_oa, f1_oa, z_oa⟩ := oa.two
  try clear c0_ob c1_ob f0_ob f1_ob z_ob
  first | replace ob := ob.below hx | replace ob := (ob.alloc _).below hx | replace ob := ((ob.alloc _).alloc _).below hx | replace ob := (((ob.alloc _).alloc _).alloc _).below hx
  obtain ⟨c0_ob, c1_ob, f0_ob, f1_ob, z_ob⟩ := ob.two
  try clear c0_oc c1_oc f0_oc f1_oc z_oc
  first | replace oc := oc.below hx | replace oc := (oc.alloc _).below hx | replace oc := ((oc.alloc _).alloc _).below hx | replace oc := (((oc.alloc _).alloc _).alloc _).below hx
  obtain ⟨c0_oc, c1_oc, f0_oc, f1_oc, z_oc⟩ := oc.two
  replace hb : Below w.heap.size w w2 := Below.trans (by (repeat (first | exact Below.refl _ _ | assumption | refine Below.drew ?_ | refine below_drewN ?_ _ | refine Below.setCell ?_ (by first | omega | (simp <;> omega)) _ | refine Below.alloc ?_ (by have := hb.size; first | omega | (simp <;> omega)) _))) (hx.mono (by have := hb.size; first | omega | (simp <;> omega)))
  clear hx
  go_wp2_with fail
  refine (r_valid_at _ _ _ VB.out).mono ?_
  rintro e w3 ⟨rfl, hx⟩
  try clear c0_oa c1_oa f0_oa f1_oa z_oa
  first | replace oa := oa.below hx | replace oa := (oa.alloc _).below hx | replace oa := ((oa.alloc _).alloc _).below hx | replace oa := (((oa.alloc _).alloc _).alloc _).below hx
  obtain ⟨c0_oa, c1_oa, f0_oa, f1_oa, z_oa⟩ := oa.two
  try clear c0_ob c1_ob f0_ob f1_ob z_ob
  first | replace ob := ob.below hx | replace ob := (ob.alloc _).below hx | replace ob := ((ob.alloc _).alloc _).below hx | replace ob := (((ob.alloc _).alloc _).alloc _).below hx
  obtain ⟨c0_ob, c1_ob, f0_ob, f1_ob, z_ob⟩ := ob.two
  try clear c0_oc c1_oc f0_oc f1_oc z_oc
  first | replace oc := oc.below hx | replace oc := (oc.alloc _).below hx | replace oc := ((oc.alloc _).alloc _).below hx | replace oc := (((oc.alloc _).alloc _).alloc _).below hx
  obtain ⟨c0_oc, c1_oc, f0_oc, f1_oc, z_oc⟩ := oc.two
  replace hb : Below w.heap.size w w3 := Below.trans (by (repeat (first | exact Below.refl _ _ | assumption | refine Below.drew ?_ | refine below_drewN ?_ _ | refine Below.setCell ?_ (by first | omega | (simp <;> omega)) _ | refine Below.alloc ?_ (by have := hb.size; first | omega | (simp <;> omega)) _))) (hx.mono (by have := hb.size; first | omega | (simp <;> omega)))
  clear hx
  go_wp2_with fail
  refine (r_valid_at _ _ _ VC.out).mono ?_
  rintro e w4 ⟨rfl, hx⟩
  try clear c0_oa c1_oa f0_oa f1_oa z_oa
  first | replace oa := oa.below hx | replace oa := (oa.alloc _).below hx | replace oa := ((oa.alloc _).alloc _).below hx | replace oa := (((oa.alloc _).alloc _).alloc _).below hx
  obtain ⟨c0_oa, c1_oa, f0_oa, f1_oa, z_oa⟩ := oa.two
  try clear c0_ob c1_ob f0_ob f1_ob z_ob
  first | replace ob := ob.below hx | replace ob := (ob.alloc _).below hx | replace ob := ((ob.alloc _).alloc _).below hx | replace ob := (((ob.alloc _).alloc _).alloc _).below hx
  obtain ⟨c0_ob, c1_ob, f0_ob, f1_ob, z_ob⟩ := ob.two
  try clear c0_oc c1_oc f0_oc f1_oc z_oc
  first | replace oc := oc.below hx | replace oc := (oc.alloc _).below hx | replace oc := ((oc.alloc _).alloc _).below hx | replace oc := (((oc.alloc _).alloc _).alloc _).below hx
  obtain ⟨c0_oc, c1_oc, f0_oc, f1_oc, z_oc⟩ := oc.two
  replace hb : Below w.heap.size w w4 := Below.trans (by (repeat (first | exact Below.refl _ _ | assumption | refine Below.drew ?_ | refine below_drewN ?_ _ | refine Below.setCell ?_ (by first | omega | (simp <;> omega)) _ | refine Below.alloc ?_ (by have := hb.size; first | omega | (simp <;> omega)) _))) (hx.mono (by have := hb.size; first | omega | (simp <;> omega)))
  clear hx
  go_wp2_with fail
  refine (cmp_at H1.out).mono ?_
  rintro e w5 ⟨rfl, hx⟩
  try clear c0_oa c1_oa f0_oa f1_oa z_oa
  first | replace oa := oa.below hx | replace oa := (oa.alloc _).below hx | replace oa := ((oa.alloc _).alloc _).below hx | replace oa := (((oa.alloc _).alloc _).alloc _).below hx
  obtain ⟨c0_oa, c1_oa, f0_oa, f1_oa, z_oa⟩ := oa.two
  try clear c0_ob c1_ob f0_ob f1_ob z_ob
  first | replace ob := ob.below hx | replace ob := (ob.alloc _).below hx | replace ob := ((ob.alloc _).alloc _).below hx | replace ob := (((ob.alloc _).alloc _).alloc _).below hx
  obtain ⟨c0_ob, c1_ob, f0_ob, f1_ob, z_ob⟩ := ob.two
  try clear c0_oc c1_oc f0_oc f1_oc z_oc
  first | replace oc := oc.below hx | replace oc := (oc.alloc _).below hx | replace oc := ((oc.alloc _).alloc _).below hx | replace oc := (((oc.alloc _).alloc _).alloc _).below hx
  obtain ⟨c0_oc, c1_oc, f0_oc, f1_oc, z_oc⟩ := oc.two
  replace hb : Below w.heap.size w w5 := Below.trans (by (repeat (first | exact Below.refl _ _ | assumption | refine Below.drew ?_ | refine below_drewN ?_ _ | refine Below.setCell ?_ (by first | omega | (simp <;> omega)) _ | refine Below.alloc ?_ (by have := hb.size; first | omega | (simp <;> omega)) _))) (hx.mono (by have := hb.size; first | omega | (simp <;> omega)))
  clear hx
  go_wp2_with fail
  refine (cmp_at H2.out).mono ?_
  rintro e w6 ⟨rfl, hx⟩
  try clear c0_oa c1_oa f0_oa f1_oa z_oa
  first | replace oa := oa.below hx | replace oa := (oa.alloc _).below hx | replace oa := ((oa.alloc _).alloc _).below hx | replace oa := (((oa.alloc _).alloc _).alloc _).below hx
  obtain ⟨c0_oa, c1_oa, f0_oa, f1_oa, z_oa⟩ := oa.two
  try clear c0_ob c1_ob f0_ob f1_ob z_ob
  first | replace ob := ob.below hx | replace ob := (ob.alloc _).below hx | replace ob := ((ob.alloc _).alloc _).below hx | replace ob := (((ob.alloc _).alloc _).alloc _).below hx
  obtain ⟨c0_ob, c1_ob, f0_ob, f1_ob, z_ob⟩ := ob.two
  try clear c0_oc c1_oc f0_oc f1_oc z_oc
  first | replace oc := oc.below hx | replace oc := (oc.alloc _).below hx | replace oc := ((oc.alloc _).alloc _).below hx | replace oc := (((oc.alloc _).alloc _).alloc _).below hx
  obtain ⟨c0_oc, c1_oc, f0_oc, f1_oc, z_oc⟩ := oc.two
  replace hb : Below w.heap.size w w6 := Below.trans (by (repeat (first | exact Below.refl _ _ | assumption | refine Below.drew ?_ | refine below_drewN ?_ _ | refine Below.setCell ?_ (by first | omega | (simp <;> omega)) _ | refine Below.alloc ?_ (by have := hb.size; first | omega | (simp <;> omega)) _))) (hx.mono (by have := hb.size; first | omega | (simp <;> omega)))
  clear hx
  go_wp2_with fail
  refine (cmp_at H3.out).mono ?_
  rintro e w7 ⟨rfl, hx⟩
  try clear c0_oa c1_oa f0_oa f1_oa z_oa
  first | replace oa := oa.below hx | replace oa := (oa.alloc _).below hx | replace oa := ((oa.alloc _).alloc _).below hx | replace oa := (((oa.alloc _).alloc _).alloc _).below hx
  obtain ⟨c0_oa, c1_oa, f0_oa, f1_oa, z_oa⟩ := oa.two
  try clear c0_ob c1_ob f0_ob f1_ob z_ob
  first | replace ob := ob.below hx | replace ob := (ob.alloc _).below hx | replace ob := ((ob.alloc _).alloc _).below hx | replace ob := (((ob.alloc _).alloc _).alloc _).below hx
  obtain ⟨c0_ob, c1_ob, f0_ob, f1_ob, z_ob⟩ := ob.two
  try clear c0_oc c1_oc f0_oc f1_oc z_oc
  first | replace oc := oc.below hx | replace oc := (oc.alloc _).below hx | replace oc := ((oc.alloc _).alloc _).below hx | replace oc := (((oc.alloc _).alloc _).alloc _).below hx
  obtain ⟨c0_oc, c1_oc, f0_oc, f1_oc, z_oc⟩ := oc.two
  replace hb : Below w.heap.size w w7 := Below.trans (by (repeat (first | exact Below.refl _ _ | assumption | refine Below.drew ?_ | refine below_drewN ?_ _ | refine Below.setCell ?_ (by first | omega | (simp <;> omega)) _ | refine Below.alloc ?_ (by have := hb.size; first | omega | (simp <;> omega)) _))) (hx.mono (by have := hb.size; first | omega | (simp <;> omega)))
  clear hx
  go_wp2_with fail
  refine (cmp_at H4.out).mono ?_
  rintro e w8 ⟨rfl, hx⟩
  try clear c0_oa c1_oa f0_oa f1_oa z_oa
  first | replace oa := oa.below hx | replace oa := (oa.alloc _).below hx | replace oa := ((oa.alloc _).alloc _).below hx | replace oa := (((oa.alloc _).alloc _).alloc _).below hx
  obtain ⟨c0_oa, c1_oa, f0_oa, f1_oa, z_oa⟩ := oa.two
  try clear c0_ob c1_ob f0_ob f1_ob z_ob
  first | replace ob := ob.below hx | replace ob := (ob.alloc _).below hx | replace ob := ((ob.alloc _).alloc _).below hx | replace ob := (((ob.alloc _).alloc _).alloc _).below hx
  obtain ⟨c0_ob, c1_ob, f0_ob, f1_ob, z_ob⟩ := ob.two
  try clear c0_oc c1_oc f0_oc f1_oc z_oc
  first | replace oc := oc.below hx | replace oc := (oc.alloc _).below hx | replace oc := ((oc.alloc _).alloc _).below hx | replace oc := (((oc.alloc _).alloc _).alloc _).below hx
  obtain ⟨c0_oc, c1_oc, f0_oc, f1_oc, z_oc⟩ := oc.two
  replace hb : Below w.heap.size w w8 := Below.trans (by (repeat (first | exact Below.refl _ _ | assumption | refine Below.drew ?_ | refine below_drewN ?_ _ | refine Below.setCell ?_ (by first | omega | (simp <;> omega)) _ | refine Below.alloc ?_ (by have := hb.size; first | omega | (simp <;> omega)) _))) (hx.mono (by have := hb.size; first | omega | (simp <;> omega)))
  clear hx
  go_wp2_with fail
  refine (sub_at HS.out).mono ?_
  rintro e w9 ⟨rfl, hx⟩
  try clear c0_oa c1_oa f0_oa f1_oa z_oa
  first | replace oa := oa.below hx | replace oa := (oa.alloc _).below hx | replace oa := ((oa.alloc _).alloc _).below hx | replace oa := (((oa.alloc _).alloc _).alloc _).below hx
  obtain ⟨c0_oa, c1_oa, f0_oa, f1_oa, z_oa⟩ := oa.two
  try clear c0_ob c1_ob f0_ob f1_ob z_ob
  first | replace ob := ob.below hx | replace ob := (ob.alloc _).below hx | replace ob := ((ob.alloc _).alloc _).below hx | replace ob := (((ob.alloc _).alloc _).alloc _).below hx
  obtain ⟨c0_ob, c1_ob, f0_ob, f1_ob, z_ob⟩ := ob.two
  try clear c0_oc c1_oc f0_oc f1_oc z_oc
  first | replace oc := oc.below hx | replace oc := (oc.alloc _).below hx | replace oc := ((oc.alloc _).alloc _).below hx | replace oc := (((oc.alloc _).alloc _).alloc _).below hx
  obtain ⟨c0_oc, c1_oc, f0_oc, f1_oc, z_oc⟩ := oc.two
  replace hb : Below w.heap.size w w9 := Below.trans (by (repeat (first | exact Below.refl _ _ | assumption | refine Below.drew ?_ | refine below_drewN ?_ _ | refine Below.setCell ?_ (by first | omega | (simp <;> omega)) _ | refine Below.alloc ?_ (by have := hb.size; first | omega | (simp <;> omega)) _))) (hx.mono (by have := hb.size; first | omega | (simp <;> omega)))
  clear hx
  go_wp2_with fail
  go_ret
  exact Ret.mk rfl (by (have hbs := hb.size; repeat (first | exact Below.refl _ _ | assumption | refine Below.drew ?_ | refine below_drewN ?_ _ | refine Below.setCell ?_ (by first | omega | (simp <;> omega)) _ | refine Below.alloc ?_ (by first | omega | (simp <;> omega)) _)))

set_option maxHeartbeats 1600000 in
set_option maxRecDepth 100000 in
theorem order_8_0 (a1 a2 b1 b2 c1 c2 s1 s2 : Int) (w : World) (VA : Hid (vldB a1 a2 = true)) (VB : Hid (vldB b1 b2 = true)) (VC : Hid (vldB c1 c2 = true))
    (H1 : Hid (cmpF a1 a2 b1 b2 = (-1, 0))) (H2 : Hid (cmpF b1 b2 a1 a2 = (1, 0))) (H3 : Hid (cmpF b1 b2 c1 c2 = (1, 0))) (H4 : Hid (cmpF a1 a2 c1 c2 = (0, 0)))
    (HE : (a1 == b1 && a2 == b2) = false) (HS : Hid (subF a1 a2 b1 b2 = (s1, s2, 0))) (s1' : decide (s1 < 0) = true) (s2' : decide (0 < s1) = false) : Calls Try.prog 7 #[.agg #[.int .i64 a1, .int .i64 a2], .agg #[.int .i64 b1, .int .i64 b2], .agg #[.int .i64 c1, .int .i64 c2]] w (Ret (.bool true) w) := by
  have hb : Below w.heap.size w w := Below.refl _ _
  have he := eql_rat
  go_enter Try.func7, Try.ntmps7
  go_wp2_with fail
  refine (head_any _).mono ?_
  rintro e w1 ⟨rfl, hx⟩
  try clear c0_oa c1_oa f0_oa f1_oa z_oa
  first | have oa := (Own.new w _ _).below hx | have oa := ((Own.new w _ _).alloc _).below hx | have oa := (((Own.new w _ _).alloc _).alloc _).below hx | have oa := ((((Own.new w _ _).alloc _).alloc _).alloc _).below hx
  obtain ⟨c0_oa, c1_oa, f0_oa, f1_oa, z_oa⟩ := oa.two
  try clear c0_ob c1_ob f0_ob f1_ob z_ob
  first | have ob := (Own.at (w.alloc _) _ _ (w.heap.size + 1) (by simp)).below hx | have ob := ((Own.at (w.alloc _) _ _ (w.heap.size + 1) (by simp)).alloc _).below hx | have ob := (((Own.at (w.alloc _) _ _ (w.heap.size + 1) (by simp)).alloc _).alloc _).below hx | have ob := ((((Own.at (w.alloc _) _ _ (w.heap.size + 1) (by simp)).alloc _).alloc _).alloc _).below hx
  obtain ⟨c0_ob, c1_ob, f0_ob, f1_ob, z_ob⟩ := ob.two
  try clear c0_oc c1_oc f0_oc f1_oc z_oc
  first | have oc := (Own.at ((w.alloc _).alloc _) _ _ (w.heap.size + 1 + 1) (by simp)).below hx | have oc := ((Own.at ((w.alloc _).alloc _) _ _ (w.heap.size + 1 + 1) (by simp)).alloc _).below hx | have oc := (((Own.at ((w.alloc _).alloc _) _ _ (w.heap.size + 1 + 1) (by simp)).alloc _).alloc _).below hx | have oc := ((((Own.at ((w.alloc _).alloc _) _ _ (w.heap.size + 1 + 1) (by simp)).alloc _).alloc _).alloc _).below hx
  obtain ⟨c0_oc, c1_oc, f0_oc, f1_oc, z_oc⟩ := oc.two
  replace hb : Below w.heap.size w w1 := Below.trans (by (repeat (first | exact Below.refl _ _ | assumption | refine Below.drew ?_ | refine below_drewN ?_ _ | refine Below.setCell ?_ (by first | omega | (simp <;> omega)) _ | refine Below.alloc ?_ (by have := hb.size; first | omega | (simp <;> omega)) _))) (hx.mono (by have := hb.size; first | omega | (simp <;> omega)))
  clear hx
  go_wp2_with fail
  refine (r_valid_at _ _ _ VA.out).mono ?_
  rintro e w2 ⟨rfl, hx⟩
  try clear c0_oa c1_oa f0_oa f1_oa z_oa
  first | replace oa := oa.below hx | replace oa := (oa.alloc _).below hx | replace oa := ((oa.alloc _).alloc _).below hx | replace oa := (((oa.alloc _).alloc _).alloc _).below hx
  obtain ⟨c0_oa, c1_oa, f0_oa, f1_oa, z_oa⟩ := oa.two
  try clear c0_ob c1_ob f0_ob f1_ob z_ob
  first | replace ob := ob.below hx | replace ob := (ob.alloc _).below hx | replace ob := ((ob.alloc _).alloc _).below hx | replace ob := (((ob.alloc _).alloc _).alloc _).below hx
  obtain ⟨c0_ob, c1_ob, f0_ob, f1_ob, z_ob⟩ := ob.two
  try clear c0_oc c1_oc f0_oc f1_oc z_oc
  first | replace oc := oc.below hx | replace oc := (oc.alloc _).below hx | replace oc := ((oc.alloc _).alloc _).below hx | replace oc := (((oc.alloc _).alloc _).alloc _).below hx
  obtain ⟨c0_oc, c1_oc, f0_oc, f1_oc, z_oc⟩ := oc.two
  replace hb : Below w.heap.size w w2 := Below.trans (by (repeat (first | exact Below.refl _ _ | assumption | refine Below.drew ?_ | refine below_drewN ?_ _ | refine Below.setCell ?_ (by first | omega | (simp <;> omega)) _ | refine Below.alloc ?_ (by have := hb.size; first | omega | (simp <;> omega)) _))) (hx.mono (by have := hb.size; first | omega | (simp <;> omega)))
  clear hx
  go_wp2_with fail
  refine (r_valid_at _ _ _ VB.out).mono ?_
  rintro e w3 ⟨rfl, hx⟩
  try clear c0_oa c1_oa f0_oa f1_oa z_oa
  first | replace oa := oa.below hx | replace oa := (oa.alloc _).below hx | replace oa := ((oa.alloc _).alloc _).below hx | replace oa := (((oa.alloc _).alloc _).alloc _).below hx
  obtain ⟨c0_oa, c1_oa, f0_oa, f1_oa, z_oa⟩ := oa.two
  try clear c0_ob c1_ob f0_ob f1_ob z_ob
  first | replace ob := ob.below hx | replace ob := (ob.alloc _).below hx | replace ob := ((ob.alloc _).alloc _).below hx | replace ob := (((ob.alloc _).alloc _).alloc _).below hx
  obtain ⟨c0_ob, c1_ob, f0_ob, f1_ob, z_ob⟩ := ob.two
  try clear c0_oc c1_oc f0_oc f1_oc z_oc
  first | replace oc := oc.below hx | replace oc := (oc.alloc _).below hx | replace oc := ((oc.alloc _).alloc _).below hx | replace oc := (((oc.alloc _).alloc _).alloc _).below hx
  obtain ⟨c0_oc, c1_oc, f0_oc, f1_oc, z_oc⟩ := oc.two
  replace hb : Below w.heap.size w w3 := Below.trans (by (repeat (first | exact Below.refl _ _ | assumption | refine Below.drew ?_ | refine below_drewN ?_ _ | refine Below.setCell ?_ (by first | omega | (simp <;> omega)) _ | refine Below.alloc ?_ (by have := hb.size; first | omega | (simp <;> omega)) _))) (hx.mono (by have := hb.size; first | omega | (simp <;> omega)))
  clear hx
  go_wp2_with fail
  refine (r_valid_at _ _ _ VC.out).mono ?_
  rintro e w4 ⟨rfl, hx⟩
  try clear c0_oa c1_oa f0_oa f1_oa z_oa
  first | replace oa := oa.below hx | replace oa := (oa.alloc _).below hx | replace oa := ((oa.alloc _).alloc _).below hx | replace oa := (((oa.alloc _).alloc _).alloc _).below hx
  obtain ⟨c0_oa, c1_oa, f0_oa, f1_oa, z_oa⟩ := oa.two
  try clear c0_ob c1_ob f0_ob f1_ob z_ob
  first | replace ob := ob.below hx | replace ob := (ob.alloc _).below hx | replace ob := ((ob.alloc _).alloc _).below hx | replace ob := (((ob.alloc _).alloc _).alloc _).below hx
  obtain ⟨c0_ob, c1_ob, f0_ob, f1_ob, z_ob⟩ := ob.two
  try clear c0_oc c1_oc f0_oc f1_oc z_oc
  first | replace oc := oc.below hx | replace oc := (oc.alloc _).below hx | replace oc := ((oc.alloc _).alloc _).below hx | replace oc := (((oc.alloc _).alloc _).alloc _).below hx
  obtain ⟨c0_oc, c1_oc, f0_oc, f1_oc, z_oc⟩ := oc.two
  replace hb : Below w.heap.size w w4 := Below.trans (by (repeat (first | exact Below.refl _ _ | assumption | refine Below.drew ?_ | refine below_drewN ?_ _ | refine Below.setCell ?_ (by first | omega | (simp <;> omega)) _ | refine Below.alloc ?_ (by have := hb.size; first | omega | (simp <;> omega)) _))) (hx.mono (by have := hb.size; first | omega | (simp <;> omega)))
  clear hx
  go_wp2_with fail
  refine (cmp_at H1.out).mono ?_
  rintro e w5 ⟨rfl, hx⟩
  try clear c0_oa c1_oa f0_oa f1_oa z_oa
  first | replace oa := oa.below hx | replace oa := (oa.alloc _).below hx | replace oa := ((oa.alloc _).alloc _).below hx | replace oa := (((oa.alloc _).alloc _).alloc _).below hx
  obtain ⟨c0_oa, c1_oa, f0_oa, f1_oa, z_oa⟩ := oa.two
  try clear c0_ob c1_ob f0_ob f1_ob z_ob
  first | replace ob := ob.below hx | replace ob := (ob.alloc _).below hx | replace ob := ((ob.alloc _).alloc _).below hx | replace ob := (((ob.alloc _).alloc _).alloc _).below hx
  obtain ⟨c0_ob, c1_ob, f0_ob, f1_ob, z_ob⟩ := ob.two
  try clear c0_oc c1_oc f0_oc f1_oc z_oc
  first | replace oc := oc.below hx | replace oc := (oc.alloc _).below hx | replace oc := ((oc.alloc _).alloc _).below hx | replace oc := (((oc.alloc _).alloc _).alloc _).below hx
  obtain ⟨c0_oc, c1_oc, f0_oc, f1_oc, z_oc⟩ := oc.two
  replace hb : Below w.heap.size w w5 := Below.trans (by (repeat (first | exact Below.refl _ _ | assumption | refine Below.drew ?_ | refine below_drewN ?_ _ | refine Below.setCell ?_ (by first | omega | (simp <;> omega)) _ | refine Below.alloc ?_ (by have := hb.size; first | omega | (simp <;> omega)) _))) (hx.mono (by have := hb.size; first | omega | (simp <;> omega)))
  clear hx
  go_wp2_with fail
  refine (cmp_at H2.out).mono ?_
  rintro e w6 ⟨rfl, hx⟩
  try clear c0_oa c1_oa f0_oa f1_oa z_oa
  first | replace oa := oa.below hx | replace oa := (oa.alloc _).below hx | replace oa := ((oa.alloc _).alloc _).below hx | replace oa := (((oa.alloc _).alloc _).alloc _).below hx
  obtain ⟨c0_oa, c1_oa, f0_oa, f1_oa, z_oa⟩ := oa.two
  try clear c0_ob c1_ob f0_ob f1_ob z_ob
  first | replace ob := ob.below hx | replace ob := (ob.alloc _).below hx | replace ob := ((ob.alloc _).alloc _).below hx | replace ob := (((ob.alloc _).alloc _).alloc _).below hx
  obtain ⟨c0_ob, c1_ob, f0_ob, f1_ob, z_ob⟩ := ob.two
  try clear c0_oc c1_oc f0_oc f1_oc z_oc
  first | replace oc := oc.below hx | replace oc := (oc.alloc _).below hx | replace oc := ((oc.alloc _).alloc _).below hx | replace oc := (((oc.alloc _).alloc _).alloc _).below hx
  obtain ⟨c0_oc, c1_oc, f0_oc, f1_oc, z_oc⟩ := oc.two
  replace hb : Below w.heap.size w w6 := Below.trans (by (repeat (first | exact Below.refl _ _ | assumption | refine Below.drew ?_ | refine below_drewN ?_ _ | refine Below.setCell ?_ (by first | omega | (simp <;> omega)) _ | refine Below.alloc ?_ (by have := hb.size; first | omega | (simp <;> omega)) _))) (hx.mono (by have := hb.size; first | omega | (simp <;> omega)))
  clear hx
  go_wp2_with fail
  refine (cmp_at H3.out).mono ?_
  rintro e w7 ⟨rfl, hx⟩
  try clear c0_oa c1_oa f0_oa f1_oa z_oa
  first | replace oa := oa.below hx | replace oa := (oa.alloc _).below hx | replace oa := ((oa.alloc _).alloc _).below hx | replace oa := (((oa.alloc _).alloc _).alloc _).below hx
  obtain ⟨c0_oa, c1_oa, f0_oa, f1_oa, z_oa⟩ := oa.two
  try clear c0_ob c1_ob f0_ob f1_ob z_ob
  first | replace ob := ob.below hx | replace ob := (ob.alloc _).below hx | replace ob := ((ob.alloc _).alloc _).below hx | replace ob := (((ob.alloc _).alloc _).alloc _).below hx
  obtain ⟨c0_ob, c1_ob, f0_ob, f1_ob, z_ob⟩ := ob.two
  try clear c0_oc c1_oc f0_oc f1_oc z_oc
  first | replace oc := oc.below hx | replace oc := (oc.alloc _).below hx | replace oc := ((oc.alloc _).alloc _).below hx | replace oc := (((oc.alloc _).alloc _).alloc _).below hx
  obtain ⟨c0_oc, c1_oc, f0_oc, f1_oc, z_oc⟩ := oc.two
  replace hb : Below w.heap.size w w7 := Below.trans (by (repeat (first | exact Below.refl _ _ | assumption | refine Below.drew ?_ | refine below_drewN ?_ _ | refine Below.setCell ?_ (by first | omega | (simp <;> omega)) _ | refine Below.alloc ?_ (by have := hb.size; first | omega | (simp <;> omega)) _))) (hx.mono (by have := hb.size; first | omega | (simp <;> omega)))
  clear hx
  go_wp2_with fail
  refine (cmp_at H4.out).mono ?_
  rintro e w8 ⟨rfl, hx⟩
  try clear c0_oa c1_oa f0_oa f1_oa z_oa
  first | replace oa := oa.below hx | replace oa := (oa.alloc _).below hx | replace oa := ((oa.alloc _).alloc _).below hx | replace oa := (((oa.alloc _).alloc _).alloc _).below hx
  obtain ⟨c0_oa, c1_oa, f0_oa, f1_oa, z_oa⟩ := oa.two
  try clear c0_ob c1_ob f0_ob f1_ob z_ob
  first | replace ob := ob.below hx | replace ob := (ob.alloc _).below hx | replace ob := ((ob.alloc _).alloc _).below hx | replace ob := (((ob.alloc _).alloc _).alloc _).below hx
  obtain ⟨c0_ob, c1_ob, f0_ob, f1_ob, z_ob⟩ := ob.two
  try clear c0_oc c1_oc f0_oc f1_oc z_oc
  first | replace oc := oc.below hx | replace oc := (oc.alloc _).below hx | replace oc := ((oc.alloc _).alloc _).below hx | replace oc := (((oc.alloc _).alloc _).alloc _).below hx
  obtain ⟨c0_oc, c1_oc, f0_oc, f1_oc, z_oc⟩ := oc.two
  replace hb : Below w.heap.size w w8 := Below.trans (by (repeat (first | exact Below.refl _ _ | assumption | refine Below.drew ?_ | refine below_drewN ?_ _ | refine Below.setCell ?_ (by first | omega | (simp <;> omega)) _ | refine Below.alloc ?_ (by have := hb.size; first | omega | (simp <;> omega)) _))) (hx.mono (by have := hb.size; first | omega | (simp <;> omega)))
  clear hx
  go_wp2_with fail
  refine (sub_at HS.out).mono ?_
  rintro e w9 ⟨rfl, hx⟩
  try clear c0_oa c1_oa f0_oa f1_oa z_oa
  first | replace oa := oa.below hx | replace oa := (oa.alloc _).below hx | replace oa := ((oa.alloc _).alloc _).below hx | replace oa := (((oa.alloc _).alloc _).alloc _).below hx
  obtain ⟨c0_oa, c1_oa, f0_oa, f1_oa, z_oa⟩ := oa.two
  try clear c0_ob c1_ob f0_ob f1_ob z_ob
  first | replace ob := ob.below hx | replace ob := (ob.alloc _).below hx | replace ob := ((ob.alloc _).alloc _).below hx | replace ob := (((ob.alloc _).alloc _).alloc _).below hx
  obtain ⟨c0_ob, c1_ob, f0_ob, f1_ob, z_ob⟩ := ob.two
  try clear c0_oc c1_oc f0_oc f1_oc z_oc
  first | replace oc := oc.below hx | replace oc := (oc.alloc _).below hx | replace oc := ((oc.alloc _).alloc _).below hx | replace oc := (((oc.alloc _).alloc _).alloc _).below hx
  obtain ⟨c0_oc, c1_oc, f0_oc, f1_oc, z_oc⟩ := oc.two
  replace hb : Below w.heap.size w w9 := Below.trans (by (repeat (first | exact Below.refl _ _ | assumption | refine Below.drew ?_ | refine below_drewN ?_ _ | refine Below.setCell ?_ (by first | omega | (simp <;> omega)) _ | refine Below.alloc ?_ (by have := hb.size; first | omega | (simp <;> omega)) _))) (hx.mono (by have := hb.size; first | omega | (simp <;> omega)))
  clear hx
  go_wp2_with fail
  go_ret
  exact Ret.mk rfl (by (have hbs := hb.size; repeat (first | exact Below.refl _ _ | assumption | refine Below.drew ?_ | refine below_drewN ?_ _ | refine Below.setCell ?_ (by first | omega | (simp <;> omega)) _ | refine Below.alloc ?_ (by first | omega | (simp <;> omega)) _)))

set_option maxHeartbeats 1600000 in
set_option maxRecDepth 100000 in
theorem order_8_3 (a1 a2 b1 b2 c1 c2 s1 s2 : Int) (w : World) (VA : Hid (vldB a1 a2 = true)) (VB : Hid (vldB b1 b2 = true)) (VC : Hid (vldB c1 c2 = true))
    (H1 : Hid (cmpF a1 a2 b1 b2 = (-1, 0))) (H2 : Hid (cmpF b1 b2 a1 a2 = (1, 0))) (H3 : Hid (cmpF b1 b2 c1 c2 = (1, 0))) (H4 : Hid (cmpF a1 a2 c1 c2 = (0, 0)))
    (HE : (a1 == b1 && a2 == b2) = false) (HS : Hid (subF a1 a2 b1 b2 = (s1, s2, 3))) : Calls Try.prog 7 #[.agg #[.int .i64 a1, .int .i64 a2], .agg #[.int .i64 b1, .int .i64 b2], .agg #[.int .i64 c1, .int .i64 c2]] w (Ret (.bool true) w) := by
  have hb : Below w.heap.size w w := Below.refl _ _
  have he := eql_rat
  go_enter Try.func7, Try.ntmps7
  go_wp2_with fail
  refine (head_any _).mono ?_
  rintro e w1 ⟨rfl, hx⟩
  try clear c0_oa c1_oa f0_oa f1_oa z_oa
  first | have oa := (Own.new w _ _).below hx | have oa := ((Own.new w _ _).alloc _).below hx | have oa := (((Own.new w _ _).alloc _).alloc _).below hx | have oa := ((((Own.new w _ _).alloc _).alloc _).alloc _).below hx
  obtain ⟨c0_oa, c1_oa, f0_oa, f1_oa, z_oa⟩ := oa.two
  try clear c0_ob c1_ob f0_ob f1_ob z_ob
  first | have ob := (Own.at (w.alloc _) _ _ (w.heap.size + 1) (by simp)).below hx | have ob := ((Own.at (w.alloc _) _ _ (w.heap.size + 1) (by simp)).alloc _).below hx | have ob := (((Own.at (w.alloc _) _ _ (w.heap.size + 1) (by simp)).alloc _).alloc _).below hx | have ob := ((((Own.at (w.alloc _) _ _ (w.heap.size + 1) (by simp)).alloc _).alloc _).alloc _).below hx
  obtain ⟨c0_ob, c1_ob, f0_ob, f1_ob, z_ob⟩ := ob.two
  try clear c0_oc c1_oc f0_oc f1_oc z_oc
  first | have oc := (Own.at ((w.alloc _).alloc _) _ _ (w.heap.size + 1 + 1) (by simp)).below hx | have oc := ((Own.at ((w.alloc _).alloc _) _ _ (w.heap.size + 1 + 1) (by simp)).alloc _).below hx | have oc := (((Own.at ((w.alloc _).alloc _) _ _ (w.heap.size + 1 + 1) (by simp)).alloc _).alloc _).below hx | have oc := ((((Own.at ((w.alloc _).alloc _) _ _ (w.heap.size + 1 + 1) (by simp)).alloc _).alloc _).alloc _).below hx
  obtain ⟨c0_oc, c1_oc, f0_oc, f1_oc, z_oc⟩ := oc.two
  replace hb : Below w.heap.size w w1 := Below.trans (by (repeat (first | exact Below.refl _ _ | assumption | refine Below.drew ?_ | refine below_drewN ?_ _ | refine Below.setCell ?_ (by first | omega | (simp <;> omega)) _ | refine Below.alloc ?_ (by have := hb.size; first | omega | (simp <;> omega)) _))) (hx.mono (by have := hb.size; first | omega | (simp <;> omega)))
  clear hx
  go_wp2_with fail
  refine (r_valid_at _ _ _ VA.out).mono ?_
  rintro e w2 ⟨rfl, hx⟩
  try clear c0_oa c1_oa f0_oa f1_oa z_oa
  first | replace oa := oa.below hx | replace oa := (oa.alloc _).below hx | replace oa := ((oa.alloc _).alloc _).below hx | replace oa := (((oa.alloc _).alloc _).alloc _).below hx
  obtain ⟨c0_oa, c1_oa, f0_oa, f1_oa, z_oa⟩ := oa.two
  try clear c0_ob c1_ob f0_ob f1_ob z_ob
  first | replace ob := ob.below hx | replace ob := (ob.alloc _).below hx | replace ob := ((ob.alloc _).alloc _).below hx | replace ob := (((ob.alloc _).alloc _).alloc _).below hx
  obtain ⟨c0_ob, c1_ob, f0_ob, f1_ob, z_ob⟩ := ob.two
  try clear c0_oc c1_oc f0_oc f1_oc z_oc
  first | replace oc := oc.below hx | replace oc := (oc.alloc _).below hx | replace oc := ((oc.alloc _).alloc _).below hx | replace oc := (((oc.alloc _).alloc _).alloc _).below hx
  obtain ⟨c0_oc, c1_oc, f0_oc, f1_oc, z_oc⟩ := oc.two
  replace hb : Below w.heap.size w w2 := Below.trans (by (repeat (first | exact Below.refl _ _ | assumption | refine Below.drew ?_ | refine below_drewN ?_ _ | refine Below.setCell ?_ (by first | omega | (simp <;> omega)) _ | refine Below.alloc ?_ (by have := hb.size; first | omega | (simp <;> omega)) _))) (hx.mono (by have := hb.size; first | omega | (simp <;> omega)))
  clear hx
  go_wp2_with fail
  refine (r_valid_at _ _ _ VB.out).mono ?_
  rintro e w3 ⟨rfl, hx⟩
  try clear c0_oa c1_oa f0_oa f1_oa z_oa
  first | replace oa := oa.below hx | replace oa := (oa.alloc _).below hx | replace oa := ((oa.alloc _).alloc _).below hx | replace oa := (((oa.alloc _).alloc _).alloc _).below hx
  obtain ⟨c0_oa, c1_oa, f0_oa, f1_oa, z_oa⟩ := oa.two
  try clear c0_ob c1_ob f0_ob f1_ob z_ob
  first | replace ob := ob.below hx | replace ob := (ob.alloc _).below hx | replace ob := ((ob.alloc _).alloc _).below hx | replace ob := (((ob.alloc _).alloc _).alloc _).below hx
  obtain ⟨c0_ob, c1_ob, f0_ob, f1_ob, z_ob⟩ := ob.two
  try clear c0_oc c1_oc f0_oc f1_oc z_oc
  first | replace oc := oc.below hx | replace oc := (oc.alloc _).below hx | replace oc := ((oc.alloc _).alloc _).below hx | replace oc := (((oc.alloc _).alloc _).alloc _).below hx
  obtain ⟨c0_oc, c1_oc, f0_oc, f1_oc, z_oc⟩ := oc.two
  replace hb : Below w.heap.size w w3 := Below.trans (by (repeat (first | exact Below.refl _ _ | assumption | refine Below.drew ?_ | refine below_drewN ?_ _ | refine Below.setCell ?_ (by first | omega | (simp <;> omega)) _ | refine Below.alloc ?_ (by have := hb.size; first | omega | (simp <;> omega)) _))) (hx.mono (by have := hb.size; first | omega | (simp <;> omega)))
  clear hx
  go_wp2_with fail
  refine (r_valid_at _ _ _ VC.out).mono ?_
  rintro e w4 ⟨rfl, hx⟩
  try clear c0_oa c1_oa f0_oa f1_oa z_oa
  first | replace oa := oa.below hx | replace oa := (oa.alloc _).below hx | replace oa := ((oa.alloc _).alloc _).below hx | replace oa := (((oa.alloc _).alloc _).alloc _).below hx
  obtain ⟨c0_oa, c1_oa, f0_oa, f1_oa, z_oa⟩ := oa.two
  try clear c0_ob c1_ob f0_ob f1_ob z_ob
  first | replace ob := ob.below hx | replace ob := (ob.alloc _).below hx | replace ob := ((ob.alloc _).alloc _).below hx | replace ob := (((ob.alloc _).alloc _).alloc _).below hx
  obtain ⟨c0_ob, c1_ob, f0_ob, f1_ob, z_ob⟩ := ob.two
  try clear c0_oc c1_oc f0_oc f1_oc z_oc
  first | replace oc := oc.below hx | replace oc := (oc.alloc _).below hx | replace oc := ((oc.alloc _).alloc _).below hx | replace oc := (((oc.alloc _).alloc _).alloc _).below hx
  obtain ⟨c0_oc, c1_oc, f0_oc, f1_oc, z_oc⟩ := oc.two
  replace hb : Below w.heap.size w w4 := Below.trans (by (repeat (first | exact Below.refl _ _ | assumption | refine Below.drew ?_ | refine below_drewN ?_ _ | refine Below.setCell ?_ (by first | omega | (simp <;> omega)) _ | refine Below.alloc ?_ (by have := hb.size; first | omega | (simp <;> omega)) _))) (hx.mono (by have := hb.size; first | omega | (simp <;> omega)))
  clear hx
  go_wp2_with fail
  refine (cmp_at H1.out).mono ?_
  rintro e w5 ⟨rfl, hx⟩
  try clear c0_oa c1_oa f0_oa f1_oa z_oa
  first | replace oa := oa.below hx | replace oa := (oa.alloc _).below hx | replace oa := ((oa.alloc _).alloc _).below hx | replace oa := (((oa.alloc _).alloc _).alloc _).below hx
  obtain ⟨c0_oa, c1_oa, f0_oa, f1_oa, z_oa⟩ := oa.two
  try clear c0_ob c1_ob f0_ob f1_ob z_ob
  first | replace ob := ob.below hx | replace ob := (ob.alloc _).below hx | replace ob := ((ob.alloc _).alloc _).below hx | replace ob := (((ob.alloc _).alloc _).alloc _).below hx
  obtain ⟨c0_ob, c1_ob, f0_ob, f1_ob, z_ob⟩ := ob.two
  try clear c0_oc c1_oc f0_oc f1_oc z_oc
  first | replace oc := oc.below hx | replace oc := (oc.alloc _).below hx | replace oc := ((oc.alloc _).alloc _).below hx | replace oc := (((oc.alloc _).alloc _).alloc _).below hx
  obtain ⟨c0_oc, c1_oc, f0_oc, f1_oc, z_oc⟩ := oc.two
  replace hb : Below w.heap.size w w5 := Below.trans (by (repeat (first | exact Below.refl _ _ | assumption | refine Below.drew ?_ | refine below_drewN ?_ _ | refine Below.setCell ?_ (by first | omega | (simp <;> omega)) _ | refine Below.alloc ?_ (by have := hb.size; first | omega | (simp <;> omega)) _))) (hx.mono (by have := hb.size; first | omega | (simp <;> omega)))
  clear hx
  go_wp2_with fail
  refine (cmp_at H2.out).mono ?_
  rintro e w6 ⟨rfl, hx⟩
  try clear c0_oa c1_oa f0_oa f1_oa z_oa
  first | replace oa := oa.below hx | replace oa := (oa.alloc _).below hx | replace oa := ((oa.alloc _).alloc _).below hx | replace oa := (((oa.alloc _).alloc _).alloc _).below hx
  obtain ⟨c0_oa, c1_oa, f0_oa, f1_oa, z_oa⟩ := oa.two
  try clear c0_ob c1_ob f0_ob f1_ob z_ob
  first | replace ob := ob.below hx | replace ob := (ob.alloc _).below hx | replace ob := ((ob.alloc _).alloc _).below hx | replace ob := (((ob.alloc _).alloc _).alloc _).below hx
  obtain ⟨c0_ob, c1_ob, f0_ob, f1_ob, z_ob⟩ := ob.two
  try clear c0_oc c1_oc f0_oc f1_oc z_oc
  first | replace oc := oc.below hx | replace oc := (oc.alloc _).below hx | replace oc := ((oc.alloc _).alloc _).below hx | replace oc := (((oc.alloc _).alloc _).alloc _).below hx
  obtain ⟨c0_oc, c1_oc, f0_oc, f1_oc, z_oc⟩ := oc.two
  replace hb : Below w.heap.size w w6 := Below.trans (by (repeat (first | exact Below.refl _ _ | assumption | refine Below.drew ?_ | refine below_drewN ?_ _ | refine Below.setCell ?_ (by first | omega | (simp <;> omega)) _ | refine Below.alloc ?_ (by have := hb.size; first | omega | (simp <;> omega)) _))) (hx.mono (by have := hb.size; first | omega | (simp <;> omega)))
  clear hx
  go_wp2_with fail
  refine (cmp_at H3.out).mono ?_
  rintro e w7 ⟨rfl, hx⟩
  try clear c0_oa c1_oa f0_oa f1_oa z_oa
  first | replace oa := oa.below hx | replace oa := (oa.alloc _).below hx | replace oa := ((oa.alloc _).alloc _).below hx | replace oa := (((oa.alloc _).alloc _).alloc _).below hx
  obtain ⟨c0_oa, c1_oa, f0_oa, f1_oa, z_oa⟩ := oa.two
  try clear c0_ob c1_ob f0_ob f1_ob z_ob
  first | replace ob := ob.below hx | replace ob := (ob.alloc _).below hx | replace ob := ((ob.alloc _).alloc _).below hx | replace ob := (((ob.alloc _).alloc _).alloc _).below hx
  obtain ⟨c0_ob, c1_ob, f0_ob, f1_ob, z_ob⟩ := ob.two
  try clear c0_oc c1_oc f0_oc f1_oc z_oc
  first | replace oc := oc.below hx | replace oc := (oc.alloc _).below hx | replace oc := ((oc.alloc _).alloc _).below hx | replace oc := (((oc.alloc _).alloc _).alloc _).below hx
  obtain ⟨c0_oc, c1_oc, f0_oc, f1_oc, z_oc⟩ := oc.two
  replace hb : Below w.heap.size w w7 := Below.trans (by (repeat (first | exact Below.refl _ _ | assumption | refine Below.drew ?_ | refine below_drewN ?_ _ | refine Below.setCell ?_ (by first | omega | (simp <;> omega)) _ | refine Below.alloc ?_ (by have := hb.size; first | omega | (simp <;> omega)) _))) (hx.mono (by have := hb.size; first | omega | (simp <;> omega)))
  clear hx
  go_wp2_with fail
  refine (cmp_at H4.out).mono ?_
  rintro e w8 ⟨rfl, hx⟩
  try clear c0_oa c1_oa f0_oa f1_oa z_oa
  first | replace oa := oa.below hx | replace oa := (oa.alloc _).below hx | replace oa := ((oa.alloc _).alloc _).below hx | replace oa := (((oa.alloc _).alloc _).alloc _).below hx
  obtain ⟨c0_oa, c1_oa, f0_oa, f1_oa, z_oa⟩ := oa.two
  try clear c0_ob c1_ob f0_ob f1_ob z_ob
  first | replace ob := ob.below hx | replace ob := (ob.alloc _).below hx | replace ob := ((ob.alloc _).alloc _).below hx | replace ob := (((ob.alloc _).alloc _).alloc _).below hx
  obtain ⟨c0_ob, c1_ob, f0_ob, f1_ob, z_ob⟩ := ob.two
  try clear c0_oc c1_oc f0_oc f1_oc z_oc
  first | replace oc := oc.below hx | replace oc := (oc.alloc _).below hx | replace oc := ((oc.alloc _).alloc _).below hx | replace oc := (((oc.alloc _).alloc _).alloc _).below hx
  obtain ⟨c0_oc, c1_oc, f0_oc, f1_oc, z_oc⟩ := oc.two
  replace hb : Below w.heap.size w w8 := Below.trans (by (repeat (first | exact Below.refl _ _ | assumption | refine Below.drew ?_ | refine below_drewN ?_ _ | refine Below.setCell ?_ (by first | omega | (simp <;> omega)) _ | refine Below.alloc ?_ (by have := hb.size; first | omega | (simp <;> omega)) _))) (hx.mono (by have := hb.size; first | omega | (simp <;> omega)))
  clear hx
  go_wp2_with fail
  refine (sub_at HS.out).mono ?_
  rintro e w9 ⟨rfl, hx⟩
  try clear c0_oa c1_oa f0_oa f1_oa z_oa
  first | replace oa := oa.below hx | replace oa := (oa.alloc _).below hx | replace oa := ((oa.alloc _).alloc _).below hx | replace oa := (((oa.alloc _).alloc _).alloc _).below hx
  obtain ⟨c0_oa, c1_oa, f0_oa, f1_oa, z_oa⟩ := oa.two
  try clear c0_ob c1_ob f0_ob f1_ob z_ob
  first | replace ob := ob.below hx | replace ob := (ob.alloc _).below hx | replace ob := ((ob.alloc _).alloc _).below hx | replace ob := (((ob.alloc _).alloc _).alloc _).below hx
  obtain ⟨c0_ob, c1_ob, f0_ob, f1_ob, z_ob⟩ := ob.two
  try clear c0_oc c1_oc f0_oc f1_oc z_oc
  first | replace oc := oc.below hx | replace oc := (oc.alloc _).below hx | replace oc := ((oc.alloc _).alloc _).below hx | replace oc := (((oc.alloc _).alloc _).alloc _).below hx
  obtain ⟨c0_oc, c1_oc, f0_oc, f1_oc, z_oc⟩ := oc.two
  replace hb : Below w.heap.size w w9 := Below.trans (by (repeat (first | exact Below.refl _ _ | assumption | refine Below.drew ?_ | refine below_drewN ?_ _ | refine Below.setCell ?_ (by first | omega | (simp <;> omega)) _ | refine Below.alloc ?_ (by have := hb.size; first | omega | (simp <;> omega)) _))) (hx.mono (by have := hb.size; first | omega | (simp <;> omega)))
  clear hx
  go_wp2_with fail
  go_ret
  exact Ret.mk rfl (by (have hbs := hb.size; repeat (first | exact Below.refl _ _ | assumption | refine Below.drew ?_ | refine below_drewN ?_ _ | refine Below.setCell ?_ (by first | omega | (simp <;> omega)) _ | refine Below.alloc ?_ (by first | omega | (simp <;> omega)) _)))

set_option maxHeartbeats 1600000 in
set_option maxRecDepth 100000 in
theorem order_11_0 (a1 a2 b1 b2 c1 c2 s1 s2 : Int) (w : World) (VA : Hid (vldB a1 a2 = true)) (VB : Hid (vldB b1 b2 = true)) (VC : Hid (vldB c1 c2 = true))
    (H1 : Hid (cmpF a1 a2 b1 b2 = (1, 0))) (H2 : Hid (cmpF b1 b2 a1 a2 = (-1, 0))) (H3 : Hid (cmpF b1 b2 c1 c2 = (-1, 0))) (H4 : Hid (cmpF a1 a2 c1 c2 = (0, 0)))
    (HE : (a1 == b1 && a2 == b2) = false) (HS : Hid (subF a1 a2 b1 b2 = (s1, s2, 0))) (s1' : decide (s1 < 0) = false) (s2' : decide (0 < s1) = true) : Calls Try.prog 7 #[.agg #[.int .i64 a1, .int .i64 a2], .agg #[.int .i64 b1, .int .i64 b2], .agg #[.int .i64 c1, .int .i64 c2]] w (Ret (.bool true) w) := by
  have hb : Below w.heap.size w w := Below.refl _ _
  have he := eql_rat
  go_enter Try.func7, Try.ntmps7
  go_wp2_with fail
  refine (head_any _).mono ?_
  rintro e w1 ⟨rfl, hx⟩
  try clear c0_oa c1_oa f0_oa f1_oa z_oa
  first | have oa := (Own.new w _ _).below hx | have oa := ((Own.new w _ _).alloc _).below hx | have oa := (((Own.new w _ _).alloc _).alloc _).below hx | have oa := ((((Own.new w _ _).alloc _).alloc _).alloc _).below hx
  obtain ⟨c0_oa, c1_oa, f0_oa, f1_oa, z_oa⟩ := oa.two
  try clear c0_ob c1_ob f0_ob f1_ob z_ob
  first | have ob := (Own.at (w.alloc _) _ _ (w.heap.size + 1) (by simp)).below hx | have ob := ((Own.at (w.alloc _) _ _ (w.heap.size + 1) (by simp)).alloc _).below hx | have ob := (((Own.at (w.alloc _) _ _ (w.heap.size + 1) (by simp)).alloc _).alloc _).below hx | have ob := ((((Own.at (w.alloc _) _ _ (w.heap.size + 1) (by simp)).alloc _).alloc _).alloc _).below hx
  obtain ⟨c0_ob, c1_ob, f0_ob, f1_ob, z_ob⟩ := ob.two
  try clear c0_oc c1_oc f0_oc f1_oc z_oc
  first | have oc := (Own.at ((w.alloc _).alloc _) _ _ (w.heap.size + 1 + 1) (by simp)).below hx | have oc := ((Own.at ((w.alloc _).alloc _) _ _ (w.heap.size + 1 + 1) (by simp)).alloc _).below hx | have oc := (((Own.at ((w.alloc _).alloc _) _ _ (w.heap.size + 1 + 1) (by simp)).alloc _).alloc _).below hx | have oc := ((((Own.at ((w.alloc _).alloc _) _ _ (w.heap.size + 1 + 1) (by simp)).alloc _).alloc _).alloc _).below hx
  obtain ⟨c0_oc, c1_oc, f0_oc, f1_oc, z_oc⟩ := oc.two
  replace hb : Below w.heap.size w w1 := Below.trans (by (repeat (first | exact Below.refl _ _ | assumption | refine Below.drew ?_ | refine below_drewN ?_ _ | refine Below.setCell ?_ (by first | omega | (simp <;> omega)) _ | refine Below.alloc ?_ (by have := hb.size; first | omega | (simp <;> omega)) _))) (hx.mono (by have := hb.size; first | omega | (simp <;> omega)))
  clear hx
  go_wp2_with fail
  refine (r_valid_at _ _ _ VA.out).mono ?_
  rintro e w2 ⟨rfl, hx⟩
  try clear c0_oa c1_oa f0_oa f1_oa z_oa
  first | replace oa := oa.below hx | replace oa := (oa.alloc _).below hx | replace oa := ((oa.alloc _).alloc _).below hx | replace oa := (((oa.alloc _).alloc _).alloc _).below hx
  obtain ⟨c0_oa, c1_oa, f0_oa, f1_oa, z_oa⟩ := oa.two
  try clear c0_ob c1_ob f0_ob f1_ob z_ob
  first | replace ob := ob.below hx | replace ob := (ob.alloc _).below hx | replace ob := ((ob.alloc _).alloc _).below hx | replace ob := (((ob.alloc _).alloc _).alloc _).below hx
  obtain ⟨c0_ob, c1_ob, f0_ob, f1_ob, z_ob⟩ := ob.two
  try clear c0_oc c1_oc f0_oc f1_oc z_oc
  first | replace oc := oc.below hx | replace oc := (oc.alloc _).below hx | replace oc := ((oc.alloc _).alloc _).below hx | replace oc := (((oc.alloc _).alloc _).alloc _).below hx
  obtain ⟨c0_oc, c1_oc, f0_oc, f1_oc, z_oc⟩ := oc.two
  replace hb : Below w.heap.size w w2 := Below.trans (by (repeat (first | exact Below.refl _ _ | assumption | refine Below.drew ?_ | refine below_drewN ?_ _ | refine Below.setCell ?_ (by first | omega | (simp <;> omega)) _ | refine Below.alloc ?_ (by have := hb.size; first | omega | (simp <;> omega)) _))) (hx.mono (by have := hb.size; first | omega | (simp <;> omega)))
  clear hx
  go_wp2_with fail
  refine (r_valid_at _ _ _ VB.out).mono ?_
  rintro e w3 ⟨rfl, hx⟩
  try clear c0_oa c1_oa f0_oa f1_oa z_oa
  first | replace oa := oa.below hx | replace oa := (oa.alloc _).below hx | replace oa := ((oa.alloc _).alloc _).below hx | replace oa := (((oa.alloc _).alloc _).alloc _).below hx
  obtain ⟨c0_oa, c1_oa, f0_oa, f1_oa, z_oa⟩ := oa.two
  try clear c0_ob c1_ob f0_ob f1_ob z_ob
  first | replace ob := ob.below hx | replace ob := (ob.alloc _).below hx | replace ob := ((ob.alloc _).alloc _).below hx | replace ob := (((ob.alloc _).alloc _).alloc _).below hx
  obtain ⟨c0_ob, c1_ob, f0_ob, f1_ob, z_ob⟩ := ob.two
  try clear c0_oc c1_oc f0_oc f1_oc z_oc
  first | replace oc := oc.below hx | replace oc := (oc.alloc _).below hx | replace oc := ((oc.alloc _).alloc _).below hx | replace oc := (((oc.alloc _).alloc _).alloc _).below hx
  obtain ⟨c0_oc, c1_oc, f0_oc, f1_oc, z_oc⟩ := oc.two
  replace hb : Below w.heap.size w w3 := Below.trans (by (repeat (first | exact Below.refl _ _ | assumption | refine Below.drew ?_ | refine below_drewN ?_ _ | refine Below.setCell ?_ (by first | omega | (simp <;> omega)) _ | refine Below.alloc ?_ (by have := hb.size; first | omega | (simp <;> omega)) _))) (hx.mono (by have := hb.size; first | omega | (simp <;> omega)))
  clear hx
  go_wp2_with fail
  refine (r_valid_at _ _ _ VC.out).mono ?_
  rintro e w4 ⟨rfl, hx⟩
  try clear c0_oa c1_oa f0_oa f1_oa z_oa
  first | replace oa := oa.below hx | replace oa := (oa.alloc _).below hx | replace oa := ((oa.alloc _).alloc _).below hx | replace oa := (((oa.alloc _).alloc _).alloc _).below hx
  obtain ⟨c0_oa, c1_oa, f0_oa, f1_oa, z_oa⟩ := oa.two
  try clear c0_ob c1_ob f0_ob f1_ob z_ob
  first | replace ob := ob.below hx | replace ob := (ob.alloc _).below hx | replace ob := ((ob.alloc _).alloc _).below hx | replace ob := (((ob.alloc _).alloc _).alloc _).below hx
  obtain ⟨c0_ob, c1_ob, f0_ob, f1_ob, z_ob⟩ := ob.two
  try clear c0_oc c1_oc f0_oc f1_oc z_oc
  first | replace oc := oc.below hx | replace oc := (oc.alloc _).below hx | replace oc := ((oc.alloc _).alloc _).below hx | replace oc := (((oc.alloc _).alloc _).alloc _).below hx
  obtain ⟨c0_oc, c1_oc, f0_oc, f1_oc, z_oc⟩ := oc.two
  replace hb : Below w.heap.size w w4 := Below.trans (by (repeat (first | exact Below.refl _ _ | assumption | refine Below.drew ?_ | refine below_drewN ?_ _ | refine Below.setCell ?_ (by first | omega | (simp <;> omega)) _ | refine Below.alloc ?_ (by have := hb.size; first | omega | (simp <;> omega)) _))) (hx.mono (by have := hb.size; first | omega | (simp <;> omega)))
  clear hx
  go_wp2_with fail
  refine (cmp_at H1.out).mono ?_
  rintro e w5 ⟨rfl, hx⟩
  try clear c0_oa c1_oa f0_oa f1_oa z_oa
  first | replace oa := oa.below hx | replace oa := (oa.alloc _).below hx | replace oa := ((oa.alloc _).alloc _).below hx | replace oa := (((oa.alloc _).alloc _).alloc _).below hx
  obtain ⟨c0_oa, c1_oa, f0_oa, f1_oa, z_oa⟩ := oa.two
  try clear c0_ob c1_ob f0_ob f1_ob z_ob
  first | replace ob := ob.below hx | replace ob := (ob.alloc _).below hx | replace ob := ((ob.alloc _).alloc _).below hx | replace ob := (((ob.alloc _).alloc _).alloc _).below hx
  obtain ⟨c0_ob, c1_ob, f0_ob, f1_ob, z_ob⟩ := ob.two
  try clear c0_oc c1_oc f0_oc f1_oc z_oc
  first | replace oc := oc.below hx | replace oc := (oc.alloc _).below hx | replace oc := ((oc.alloc _).alloc _).below hx | replace oc := (((oc.alloc _).alloc _).alloc _).below hx
  obtain ⟨c0_oc, c1_oc, f0_oc, f1_oc, z_oc⟩ := oc.two
  replace hb : Below w.heap.size w w5 := Below.trans (by (repeat (first | exact Below.refl _ _ | assumption | refine Below.drew ?_ | refine below_drewN ?_ _ | refine Below.setCell ?_ (by first | omega | (simp <;> omega)) _ | refine Below.alloc ?_ (by have := hb.size; first | omega | (simp <;> omega)) _))) (hx.mono (by have := hb.size; first | omega | (simp <;> omega)))
  clear hx
  go_wp2_with fail
  refine (cmp_at H2.out).mono ?_
  rintro e w6 ⟨rfl, hx⟩
  try clear c0_oa c1_oa f0_oa f1_oa z_oa
  first | replace oa := oa.below hx | replace oa := (oa.alloc _).below hx | replace oa := ((oa.alloc _).alloc _).below hx | replace oa := (((oa.alloc _).alloc _).alloc _).below hx
  obtain ⟨c0_oa, c1_oa, f0_oa, f1_oa, z_oa⟩ := oa.two
  try clear c0_ob c1_ob f0_ob f1_ob z_ob
  first | replace ob := ob.below hx | replace ob := (ob.alloc _).below hx | replace ob := ((ob.alloc _).alloc _).below hx | replace ob := (((ob.alloc _).alloc _).alloc _).below hx
  obtain ⟨c0_ob, c1_ob, f0_ob, f1_ob, z_ob⟩ := ob.two
  try clear c0_oc c1_oc f0_oc f1_oc z_oc
  first | replace oc := oc.below hx | replace oc := (oc.alloc _).below hx | replace oc := ((oc.alloc _).alloc _).below hx | replace oc := (((oc.alloc _).alloc _).alloc _).below hx
  obtain ⟨c0_oc, c1_oc, f0_oc, f1_oc, z_oc⟩ := oc.two
  replace hb : Below w.heap.size w w6 := Below.trans (by (repeat (first | exact Below.refl _ _ | assumption | refine Below.drew ?_ | refine below_drewN ?_ _ | refine Below.setCell ?_ (by first | omega | (simp <;> omega)) _ | refine Below.alloc ?_ (by have := hb.size; first | omega | (simp <;> omega)) _))) (hx.mono (by have := hb.size; first | omega | (simp <;> omega)))
  clear hx
  go_wp2_with fail
  refine (cmp_at H3.out).mono ?_
  rintro e w7 ⟨rfl, hx⟩
  try clear c0_oa c1_oa f0_oa f1_oa z_oa
  first | replace oa := oa.below hx | replace oa := (oa.alloc _).below hx | replace oa := ((oa.alloc _).alloc _).below hx | replace oa := (((oa.alloc _).alloc _).alloc _).below hx
  obtain ⟨c0_oa, c1_oa, f0_oa, f1_oa, z_oa⟩ := oa.two
  try clear c0_ob c1_ob f0_ob f1_ob z_ob
  first | replace ob := ob.below hx | replace ob := (ob.alloc _).below hx | replace ob := ((ob.alloc _).alloc _).below hx | replace ob := (((ob.alloc _).alloc _).alloc _).below hx
  obtain ⟨c0_ob, c1_ob, f0_ob, f1_ob, z_ob⟩ := ob.two
  try clear c0_oc c1_oc f0_oc f1_oc z_oc
  first | replace oc := oc.below hx | replace oc := (oc.alloc _).below hx | replace oc := ((oc.alloc _).alloc _).below hx | replace oc := (((oc.alloc _).alloc _).alloc _).below hx
  obtain ⟨c0_oc, c1_oc, f0_oc, f1_oc, z_oc⟩ := oc.two
  replace hb : Below w.heap.size w w7 := Below.trans (by (repeat (first | exact Below.refl _ _ | assumption | refine Below.drew ?_ | refine below_drewN ?_ _ | refine Below.setCell ?_ (by first | omega | (simp <;> omega)) _ | refine Below.alloc ?_ (by have := hb.size; first | omega | (simp <;> omega)) _))) (hx.mono (by have := hb.size; first | omega | (simp <;> omega)))
  clear hx
  go_wp2_with fail
  refine (cmp_at H4.out).mono ?_
  rintro e w8 ⟨rfl, hx⟩
  try clear c0_oa c1_oa f0_oa f1_oa z_oa
  first | replace oa := oa.below hx | replace oa := (oa.alloc _).below hx | replace oa := ((oa.alloc _).alloc _).below hx | replace oa := (((oa.alloc _).alloc _).alloc _).below hx
  obtain ⟨c0_oa, c1_oa, f0_oa, f1_oa, z_oa⟩ := oa.two
  try clear c0_ob c1_ob f0_ob f1_ob z_ob
  first | replace ob := ob.below hx | replace ob := (ob.alloc _).below hx | replace ob := ((ob.alloc _).alloc _).below hx | replace ob := (((ob.alloc _).alloc _).alloc _).below hx
  obtain ⟨c0_ob, c1_ob, f0_ob, f1_ob, z_ob⟩ := ob.two
  try clear c0_oc c1_oc f0_oc f1_oc z_oc
  first | replace oc := oc.below hx | replace oc := (oc.alloc _).below hx | replace oc := ((oc.alloc _).alloc _).below hx | replace oc := (((oc.alloc _).alloc _).alloc _).below hx
  obtain ⟨c0_oc, c1_oc, f0_oc, f1_oc, z_oc⟩ := oc.two
  replace hb : Below w.heap.size w w8 := Below.trans (by (repeat (first | exact Below.refl _ _ | assumption | refine Below.drew ?_ | refine below_drewN ?_ _ | refine Below.setCell ?_ (by first | omega | (simp <;> omega)) _ | refine Below.alloc ?_ (by have := hb.size; first | omega | (simp <;> omega)) _))) (hx.mono (by have := hb.size; first | omega | (simp <;> omega)))
  clear hx
  go_wp2_with fail
  refine (sub_at HS.out).mono ?_
  rintro e w9 ⟨rfl, hx⟩
  try clear c0_oa c1_oa f0_oa f1_oa z_oa
  first | replace oa := oa.below hx | replace oa := (oa.alloc _).below hx | replace oa := ((oa.alloc _).alloc _).below hx | replace oa := (((oa.alloc _).alloc _).alloc _).below hx
  obtain ⟨c0_oa, c1_oa, f0_oa, f1_oa, z_oa⟩ := oa.two
  try clear c0_ob c1_ob f0_ob f1_ob z_ob
  first | replace ob := ob.below hx | replace ob := (ob.alloc _).below hx | replace ob := ((ob.alloc _).alloc _).below hx | replace ob := (((ob.alloc _).alloc _).alloc _).below hx
  obtain ⟨c0_ob, c1_ob, f0_ob, f1_ob, z_ob⟩ := ob.two
  try clear c0_oc c1_oc f0_oc f1_oc z_oc
  first | replace oc := oc.below hx | replace oc := (oc.alloc _).below hx | replace oc := ((oc.alloc _).alloc _).below hx | replace oc := (((oc.alloc _).alloc _).alloc _).below hx
  obtain ⟨c0_oc, c1_oc, f0_oc, f1_oc, z_oc⟩ := oc.two
  replace hb : Below w.heap.size w w9 := Below.trans (by (repeat (first | exact Below.refl _ _ | assumption | refine Below.drew ?_ | refine below_drewN ?_ _ | refine Below.setCell ?_ (by first | omega | (simp <;> omega)) _ | refine Below.alloc ?_ (by have := hb.size; first | omega | (simp <;> omega)) _))) (hx.mono (by have := hb.size; first | omega | (simp <;> omega)))
  clear hx
  go_wp2_with fail
  go_ret
  exact Ret.mk rfl (by (have hbs := hb.size; repeat (first | exact Below.refl _ _ | assumption | refine Below.drew ?_ | refine below_drewN ?_ _ | refine Below.setCell ?_ (by first | omega | (simp <;> omega)) _ | refine Below.alloc ?_ (by first | omega | (simp <;> omega)) _)))

set_option maxHeartbeats 1600000 in
set_option maxRecDepth 100000 in
theorem order_11_3 (a1 a2 b1 b2 c1 c2 s1 s2 : Int) (w : World) (VA : Hid (vldB a1 a2 = true)) (VB : Hid (vldB b1 b2 = true)) (VC : Hid (vldB c1 c2 = true))
    (H1 : Hid (cmpF a1 a2 b1 b2 = (1, 0))) (H2 : Hid (cmpF b1 b2 a1 a2 = (-1, 0))) (H3 : Hid (cmpF b1 b2 c1 c2 = (-1, 0))) (H4 : Hid (cmpF a1 a2 c1 c2 = (0, 0)))
    (HE : (a1 == b1 && a2 == b2) = false) (HS : Hid (subF a1 a2 b1 b2 = (s1, s2, 3))) : Calls Try.prog 7 #[.agg #[.int .i64 a1, .int .i64 a2], .agg #[.int .i64 b1, .int .i64 b2], .agg #[.int .i64 c1, .int .i64 c2]] w (Ret (.bool true) w) := by
  have hb : Below w.heap.size w w := Below.refl _ _
  have he := eql_rat
  go_enter Try.func7, Try.ntmps7
  go_wp2_with fail
  refine (head_any _).mono ?_
  rintro e w1 ⟨rfl, hx⟩
  try clear c0_oa c1_oa f0_oa f1_oa z_oa
  first | have oa := (Own.new w _ _).below hx | have oa := ((Own.new w _ _).alloc _).below hx | have oa := (((Own.new w _ _).alloc _).alloc _).below hx | have oa := ((((Own.new w _ _).alloc _).alloc _).alloc _).below hx
  obtain ⟨c0_oa, c1_oa, f0_oa, f1_oa, z_oa⟩ := oa.two
  try clear c0_ob c1_ob f0_ob f1_ob z_ob
  first | have ob := (Own.at (w.alloc _) _ _ (w.heap.size + 1) (by simp)).below hx | have ob := ((Own.at (w.alloc _) _ _ (w.heap.size + 1) (by simp)).alloc _).below hx | have ob := (((Own.at (w.alloc _) _ _ (w.heap.size + 1) (by simp)).alloc _).alloc _).below hx | have ob := ((((Own.at (w.alloc _) _ _ (w.heap.size + 1) (by simp)).alloc _).alloc _).alloc _).below hx
  obtain ⟨c0_ob, c1_ob, f0_ob, f1_ob, z_ob⟩ := ob.two
  try clear c0_oc c1_oc f0_oc f1_oc z_oc
  first | have oc := (Own.at ((w.alloc _).alloc _) _ _ (w.heap.size + 1 + 1) (by simp)).below hx | have oc := ((Own.at ((w.alloc _).alloc _) _ _ (w.heap.size + 1 + 1) (by simp)).alloc _).below hx | have oc := (((Own.at ((w.alloc _).alloc _) _ _ (w.heap.size + 1 + 1) (by simp)).alloc _).alloc _).below hx | have oc := ((((Own.at ((w.alloc _).alloc _) _ _ (w.heap.size + 1 + 1) (by simp)).alloc _).alloc _).alloc _).below hx
  obtain ⟨c0_oc, c1_oc, f0_oc, f1_oc, z_oc⟩ := oc.two
  replace hb : Below w.heap.size w w1 := Below.trans (by (repeat (first | exact Below.refl _ _ | assumption | refine Below.drew ?_ | refine below_drewN ?_ _ | refine Below.setCell ?_ (by first | omega | (simp <;> omega)) _ | refine Below.alloc ?_ (by have := hb.size; first | omega | (simp <;> omega)) _))) (hx.mono (by have := hb.size; first | omega | (simp <;> omega)))
  clear hx
  go_wp2_with fail
  refine (r_valid_at _ _ _ VA.out).mono ?_
  rintro e w2 ⟨rfl, hx⟩
  try clear c0_oa c1_oa f0_oa f1_oa z_oa
  first | replace oa := oa.below hx | replace oa := (oa.alloc _).below hx | replace oa := ((oa.alloc _).alloc _).below hx | replace oa := (((oa.alloc _).alloc _).alloc _).below hx
  obtain ⟨c0_oa, c1_oa, f0_oa, f1_oa, z_oa⟩ := oa.two
  try clear c0_ob c1_ob f0_ob f1_ob z_ob
  first | replace ob := ob.below hx | replace ob := (ob.alloc _).below hx | replace ob := ((ob.alloc _).alloc _).below hx | replace ob := (((ob.alloc _).alloc _).alloc _).below hx
  obtain ⟨c0_ob, c1_ob, f0_ob, f1_ob, z_ob⟩ := ob.two
  try clear c0_oc c1_oc f0_oc f1_oc z_oc
  first | replace oc := oc.below hx | replace oc := (oc.alloc _).below hx | replace oc := ((oc.alloc _).alloc _).below hx | replace oc := (((oc.alloc _).alloc _).alloc _).below hx
  obtain ⟨c0_oc, c1_oc, f0_oc, f1_oc, z_oc⟩ := oc.two
  replace hb : Below w.heap.size w w2 := Below.trans (by (repeat (first | exact Below.refl _ _ | assumption | refine Below.drew ?_ | refine below_drewN ?_ _ | refine Below.setCell ?_ (by first | omega | (simp <;> omega)) _ | refine Below.alloc ?_ (by have := hb.size; first | omega | (simp <;> omega)) _))) (hx.mono (by have := hb.size; first | omega | (simp <;> omega)))
  clear hx
  go_wp2_with fail
  refine (r_valid_at _ _ _ VB.out).mono ?_
  rintro e w3 ⟨rfl, hx⟩
  try clear c0_oa c1_oa f0_oa f1_oa z_oa
  first | replace oa := oa.below hx | replace oa := (oa.alloc _).below hx | replace oa := ((oa.alloc _).alloc _).below hx | replace oa := (((oa.alloc _).alloc _).alloc _).below hx
  obtain ⟨c0_oa, c1_oa, f0_oa, f1_oa, z_oa⟩ := oa.two
  try clear c0_ob c1_ob f0_ob f1_ob z_ob
  first | replace ob := ob.below hx | replace ob := (ob.alloc _).below hx | replace ob := ((ob.alloc _).alloc _).below hx | replace ob := (((ob.alloc _).alloc _).alloc _).below hx
  obtain ⟨c0_ob, c1_ob, f0_ob, f1_ob, z_ob⟩ := ob.two
  try clear c0_oc c1_oc f0_oc f1_oc z_oc
  first | replace oc := oc.below hx | replace oc := (oc.alloc _).below hx | replace oc := ((oc.alloc _).alloc _).below hx | replace oc := (((oc.alloc _).alloc _).alloc _).below hx
  obtain ⟨c0_oc, c1_oc, f0_oc, f1_oc, z_oc⟩ := oc.two
  replace hb : Below w.heap.size w w3 := Below.trans (by (repeat (first | exact Below.refl _ _ | assumption | refine Below.drew ?_ | refine below_drewN ?_ _ | refine Below.setCell ?_ (by first | omega | (simp <;> omega)) _ | refine Below.alloc ?_ (by have := hb.size; first | omega | (simp <;> omega)) _))) (hx.mono (by have := hb.size; first | omega | (simp <;> omega)))
  clear hx
  go_wp2_with fail
  refine (r_valid_at _ _ _ VC.out).mono ?_
  rintro e w4 ⟨rfl, hx⟩
  try clear c0_oa c1_oa f0_oa f1_oa z_oa
  first | replace oa := oa.below hx | replace oa := (oa.alloc _).below hx | replace oa := ((oa.alloc _).alloc _).below hx | replace oa := (((oa.alloc _).alloc _).alloc _).below hx
  obtain ⟨c0_oa, c1_oa, f0_oa, f1_oa, z_oa⟩ := oa.two
  try clear c0_ob c1_ob f0_ob f1_ob z_ob
  first | replace ob := ob.below hx | replace ob := (ob.alloc _).below hx | replace ob := ((ob.alloc _).alloc _).below hx | replace ob := (((ob.alloc _).alloc _).alloc _).below hx
  obtain ⟨c0_ob, c1_ob, f0_ob, f1_ob, z_ob⟩ := ob.two
  try clear c0_oc c1_oc f0_oc f1_oc z_oc
  first | replace oc := oc.below hx | replace oc := (oc.alloc _).below hx | replace oc := ((oc.alloc _).alloc _).below hx | replace oc := (((oc.alloc _).alloc _).alloc _).below hx
  obtain ⟨c0_oc, c1_oc, f0_oc, f1_oc, z_oc⟩ := oc.two
  replace hb : Below w.heap.size w w4 := Below.trans (by (repeat (first | exact Below.refl _ _ | assumption | refine Below.drew ?_ | refine below_drewN ?_ _ | refine Below.setCell ?_ (by first | omega | (simp <;> omega)) _ | refine Below.alloc ?_ (by have := hb.size; first | omega | (simp <;> omega)) _))) (hx.mono (by have := hb.size; first | omega | (simp <;> omega)))
  clear hx
  go_wp2_with fail
  refine (cmp_at H1.out).mono ?_
  rintro e w5 ⟨rfl, hx⟩
  try clear c0_oa c1_oa f0_oa f1_oa z_oa
  first | replace oa := oa.below hx | replace oa := (oa.alloc _).below hx | replace oa := ((oa.alloc _).alloc _).below hx | replace oa := (((oa.alloc _).alloc _).alloc _).below hx
  obtain ⟨c0_oa, c1_oa, f0_oa, f1_oa, z_oa⟩ := oa.two
  try clear c0_ob c1_ob f0_ob f1_ob z_ob
  first | replace ob := ob.below hx | replace ob := (ob.alloc _).below hx | replace ob := ((ob.alloc _).alloc _).below hx | replace ob := (((ob.alloc _).alloc _).alloc _).below hx
  obtain ⟨c0_ob, c1_ob, f0_ob, f1_ob, z_ob⟩ := ob.two
  try clear c0_oc c1_oc f0_oc f1_oc z_oc
  first | replace oc := oc.below hx | replace oc := (oc.alloc _).below hx | replace oc := ((oc.alloc _).alloc _).below hx | replace oc := (((oc.alloc _).alloc _).alloc _).below hx
  obtain ⟨c0_oc, c1_oc, f0_oc, f1_oc, z_oc⟩ := oc.two
  replace hb : Below w.heap.size w w5 := Below.trans (by (repeat (first | exact Below.refl _ _ | assumption | refine Below.drew ?_ | refine below_drewN ?_ _ | refine Below.setCell ?_ (by first | omega | (simp <;> omega)) _ | refine Below.alloc ?_ (by have := hb.size; first | omega | (simp <;> omega)) _))) (hx.mono (by have := hb.size; first | omega | (simp <;> omega)))
  clear hx
  go_wp2_with fail
  refine (cmp_at H2.out).mono ?_
  rintro e w6 ⟨rfl, hx⟩
  try clear c0_oa c1_oa f0_oa f1_oa z_oa
  first | replace oa := oa.below hx | replace oa := (oa.alloc _).below hx | replace oa := ((oa.alloc _).alloc _).below hx | replace oa := (((oa.alloc _).alloc _).alloc _).below hx
  obtain ⟨c0_oa, c1_oa, f0_oa, f1_oa, z_oa⟩ := oa.two
  try clear c0_ob c1_ob f0_ob f1_ob z_ob
  first | replace ob := ob.below hx | replace ob := (ob.alloc _).below hx | replace ob := ((ob.alloc _).alloc _).below hx | replace ob := (((ob.alloc _).alloc _).alloc _).below hx
  obtain ⟨c0_ob, c1_ob, f0_ob, f1_ob, z_ob⟩ := ob.two
  try clear c0_oc c1_oc f0_oc f1_oc z_oc
  first | replace oc := oc.below hx | replace oc := (oc.alloc _).below hx | replace oc := ((oc.alloc _).alloc _).below hx | replace oc := (((oc.alloc _).alloc _).alloc _).below hx
  obtain ⟨c0_oc, c1_oc, f0_oc, f1_oc, z_oc⟩ := oc.two
  replace hb : Below w.heap.size w w6 := Below.trans (by (repeat (first | exact Below.refl _ _ | assumption | refine Below.drew ?_ | refine below_drewN ?_ _ | refine Below.setCell ?_ (by first | omega | (simp <;> omega)) _ | refine Below.alloc ?_ (by have := hb.size; first | omega | (simp <;> omega)) _))) (hx.mono (by have := hb.size; first | omega | (simp <;> omega)))
  clear hx
  go_wp2_with fail
  refine (cmp_at H3.out).mono ?_
  rintro e w7 ⟨rfl, hx⟩
  try clear c0_oa c1_oa f0_oa f1_oa z_oa
  first | replace oa := oa.below hx | replace oa := (oa.alloc _).below hx | replace oa := ((oa.alloc _).alloc _).below hx | replace oa := (((oa.alloc _).alloc _).alloc _).below hx
  obtain ⟨c0_oa, c1_oa, f0_oa, f1_oa, z_oa⟩ := oa.two
  try clear c0_ob c1_ob f0_ob f1_ob z_ob
  first | replace ob := ob.below hx | replace ob := (ob.alloc _).below hx | replace ob := ((ob.alloc _).alloc _).below hx | replace ob := (((ob.alloc _).alloc _).alloc _).below hx
  obtain ⟨c0_ob, c1_ob, f0_ob, f1_ob, z_ob⟩ := ob.two
  try clear c0_oc c1_oc f0_oc f1_oc z_oc
  first | replace oc := oc.below hx | replace oc := (oc.alloc _).below hx | replace oc := ((oc.alloc _).alloc _).below hx | replace oc := (((oc.alloc _).alloc _).alloc _).below hx
  obtain ⟨c0_oc, c1_oc, f0_oc, f1_oc, z_oc⟩ := oc.two
  replace hb : Below w.heap.size w w7 := Below.trans (by (repeat (first | exact Below.refl _ _ | assumption | refine Below.drew ?_ | refine below_drewN ?_ _ | refine Below.setCell ?_ (by first | omega | (simp <;> omega)) _ | refine Below.alloc ?_ (by have := hb.size; first | omega | (simp <;> omega)) _))) (hx.mono (by have := hb.size; first | omega | (simp <;> omega)))
  clear hx
  go_wp2_with fail
  refine (cmp_at H4.out).mono ?_
  rintro e w8 ⟨rfl, hx⟩
  try clear c0_oa c1_oa f0_oa f1_oa z_oa
  first | replace oa := oa.below hx | replace oa := (oa.alloc _).below hx | replace oa := ((oa.alloc _).alloc _).below hx | replace oa := (((oa.alloc _).alloc _).alloc _).below hx
  obtain ⟨c0_oa, c1_oa, f0_oa, f1_oa, z_oa⟩ := oa.two
  try clear c0_ob c1_ob f0_ob f1_ob z_ob
  first | replace ob := ob.below hx | replace ob := (ob.alloc _).below hx | replace ob := ((ob.alloc _).alloc _).below hx | replace ob := (((ob.alloc _).alloc _).alloc _).below hx
  obtain ⟨c0_ob, c1_ob, f0_ob, f1_ob, z_ob⟩ := ob.two
  try clear c0_oc c1_oc f0_oc f1_oc z_oc
  first | replace oc := oc.below hx | replace oc := (oc.alloc _).below hx | replace oc := ((oc.alloc _).alloc _).below hx | replace oc := (((oc.alloc _).alloc _).alloc _).below hx
  obtain ⟨c0_oc, c1_oc, f0_oc, f1_oc, z_oc⟩ := oc.two
  replace hb : Below w.heap.size w w8 := Below.trans (by (repeat (first | exact Below.refl _ _ | assumption | refine Below.drew ?_ | refine below_drewN ?_ _ | refine Below.setCell ?_ (by first | omega | (simp <;> omega)) _ | refine Below.alloc ?_ (by have := hb.size; first | omega | (simp <;> omega)) _))) (hx.mono (by have := hb.size; first | omega | (simp <;> omega)))
  clear hx
  go_wp2_with fail
  refine (sub_at HS.out).mono ?_
  rintro e w9 ⟨rfl, hx⟩
  try clear c0_oa c1_oa f0_oa f1_oa z_oa
  first | replace oa := oa.below hx | replace oa := (oa.alloc _).below hx | replace oa := ((oa.alloc _).alloc _).below hx | replace oa := (((oa.alloc _).alloc _).alloc _).below hx
  obtain ⟨c0_oa, c1_oa, f0_oa, f1_oa, z_oa⟩ := oa.two
  try clear c0_ob c1_ob f0_ob f1_ob z_ob
  first | replace ob := ob.below hx | replace ob := (ob.alloc _).below hx | replace ob := ((ob.alloc _).alloc _).below hx | replace ob := (((ob.alloc _).alloc _).alloc _).below hx
  obtain ⟨c0_ob, c1_ob, f0_ob, f1_ob, z_ob⟩ := ob.two
  try clear c0_oc c1_oc f0_oc f1_oc z_oc
  first | replace oc := oc.below hx | replace oc := (oc.alloc _).below hx | replace oc := ((oc.alloc _).alloc _).below hx | replace oc := (((oc.alloc _).alloc _).alloc _).below hx
  obtain ⟨c0_oc, c1_oc, f0_oc, f1_oc, z_oc⟩ := oc.two
  replace hb : Below w.heap.size w w9 := Below.trans (by (repeat (first | exact Below.refl _ _ | assumption | refine Below.drew ?_ | refine below_drewN ?_ _ | refine Below.setCell ?_ (by first | omega | (simp <;> omega)) _ | refine Below.alloc ?_ (by have := hb.size; first | omega | (simp <;> omega)) _))) (hx.mono (by have := hb.size; first | omega | (simp <;> omega)))
  clear hx
  go_wp2_with fail
  go_ret
  exact Ret.mk rfl (by (have hbs := hb.size; repeat (first | exact Below.refl _ _ | assumption | refine Below.drew ?_ | refine below_drewN ?_ _ | refine Below.setCell ?_ (by first | omega | (simp <;> omega)) _ | refine Below.alloc ?_ (by first | omega | (simp <;> omega)) _)))

end Go.Proofs.Ytojjjbhkpcmooaa
