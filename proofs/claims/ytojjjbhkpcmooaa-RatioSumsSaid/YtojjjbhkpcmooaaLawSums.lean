/-
  RatioSums: the order of a sum plays no part; what is added and subtracted again leaves the ratio as it was; three ratios can be added from either side. No conditions: for every input.
-/
import Derived.Test.YtojjjbhkpcmooaaLaw01At
namespace Go.Proofs.Ytojjjbhkpcmooaa
open Go.ChangeShapes Go.WideShapes Go.ChangeAt Go.RowKit Go.Joins
set_option linter.unusedVariables false

set_option maxHeartbeats 1600000 in
set_option maxRecDepth 100000 in
theorem sums_range (a1 a2 b1 b2 c1 c2 : Int) (A1 : Hid (addF a1 a2 b1 b2 = (0, 0, 3))) (A2 : Hid (addF b1 b2 a1 a2 = (0, 0, 3))) (w : World) : Calls Try.prog 5 #[.agg #[.int .i64 a1, .int .i64 a2], .agg #[.int .i64 b1, .int .i64 b2], .agg #[.int .i64 c1, .int .i64 c2]] w (Ret (.bool true) w) := by
  have hb : Below w.heap.size w w := Below.refl _ _
  have he := eql_rat
  have hn := neq_rat
  go_enter Try.func5, Try.ntmps5
  go_wp2_with fail
  refine (head_any _).mono ?_
  rintro e w1 ⟨rfl, hx⟩
  try clear c0_oa c1_oa f0_oa f1_oa z_oa
  first | have oa := (Own.new w _ _).below hx | have oa := ((Own.new w _ _).alloc _).below hx | have oa := (((Own.new w _ _).alloc _).alloc _).below hx | have oa := ((((Own.new w _ _).alloc _).alloc _).alloc _).below hx
  obtain ⟨c0_oa, c1_oa, f0_oa, f1_oa, z_oa⟩ := oa.two
  try clear c0_ob c1_ob f0_ob f1_ob z_ob
  first | have ob := (Own.at (w.alloc _) _ _ (w.heap.size + 1) (by simp)).below hx | have ob := ((Own.at (w.alloc _) _ _ (w.heap.size + 1) (by simp)).alloc _).below hx | have ob := (((Own.at (w.alloc _) _ _ (w.heap.size + 1) (by simp)).alloc _).alloc _).below hx | have ob := ((((Own.at (w.alloc _) _ _ (w.heap.size + 1) (by simp)).alloc _).alloc _).alloc _).below hx
  obtain ⟨c0_ob, c1_ob, f0_ob, f1_ob, z_ob⟩ := ob.two
  try clear c0_oc c1_oc f0_oc f1_oc z_oc
  first | have oc := (Own.at ((w.alloc _).alloc _) _ _ (w.heap.size + 1 + 1) (by simp)).below hx | have oc := ((Own.at ((w.alloc _).alloc _) _ _ (w.heap.size + 1 + 1) (by simp)).alloc _).below hx | have oc := (((Own.at ((w.alloc _).alloc _) _ _ (w.heap.size + 1 + 1) (by simp)).alloc _).alloc _).below hx | have oc := ((((Own.at ((w.alloc _).alloc _) _ _ (w.heap.size + 1 + 1) (by simp)).alloc _).alloc _).alloc _).below hx
  obtain ⟨c0_oc, c1_oc, f0_oc, f1_oc, z_oc⟩ := oc.two
  replace hb : Below w.heap.size w w1 := Below.trans (by (repeat (first | exact Below.refl _ _ | assumption | refine Below.drew ?_ | refine below_drewN ?_ _ | refine Below.setCell ?_ (by first | omega | (simp <;> omega)) _ | refine Below.alloc ?_ (by have := hb.size; first | omega | (simp <;> omega)) _))) (hx.mono (by have := hb.size; first | omega | (simp <;> omega)))
  clear hx
  go_wp2_with fail
  refine (add_at A1.out).mono ?_
  rintro e w2 ⟨rfl, hx⟩
  try clear c0_oa c1_oa f0_oa f1_oa z_oa
  first | replace oa := oa.below hx | replace oa := (oa.alloc _).below hx | replace oa := ((oa.alloc _).alloc _).below hx | replace oa := (((oa.alloc _).alloc _).alloc _).below hx
  obtain ⟨c0_oa, c1_oa, f0_oa, f1_oa, z_oa⟩ := oa.two
  try clear c0_ob c1_ob f0_ob f1_ob z_ob
  first | replace ob := ob.below hx | replace ob := (ob.alloc _).below hx | replace ob := ((ob.alloc _).alloc _).below hx | replace ob := (((ob.alloc _).alloc _).alloc _).below hx
  obtain ⟨c0_ob, c1_ob, f0_ob, f1_ob, z_ob⟩ := ob.two
  try clear c0_oc c1_oc f0_oc f1_oc z_oc
  first | replace oc := oc.below hx | replace oc := (oc.alloc _).below hx | replace oc := ((oc.alloc _).alloc _).below hx | replace oc := (((oc.alloc _).alloc _).alloc _).below hx
  obtain ⟨c0_oc, c1_oc, f0_oc, f1_oc, z_oc⟩ := oc.two
  replace hb : Below w.heap.size w w2 := Below.trans (by (repeat (first | exact Below.refl _ _ | assumption | refine Below.drew ?_ | refine below_drewN ?_ _ | refine Below.setCell ?_ (by first | omega | (simp <;> omega)) _ | refine Below.alloc ?_ (by have := hb.size; first | omega | (simp <;> omega)) _))) (hx.mono (by have := hb.size; first | omega | (simp <;> omega)))
  clear hx
  go_wp2_with fail
  refine (add_at A2.out).mono ?_
  rintro e w3 ⟨rfl, hx⟩
  try clear c0_oa c1_oa f0_oa f1_oa z_oa
  first | replace oa := oa.below hx | replace oa := (oa.alloc _).below hx | replace oa := ((oa.alloc _).alloc _).below hx | replace oa := (((oa.alloc _).alloc _).alloc _).below hx
  obtain ⟨c0_oa, c1_oa, f0_oa, f1_oa, z_oa⟩ := oa.two
  try clear c0_ob c1_ob f0_ob f1_ob z_ob
  first | replace ob := ob.below hx | replace ob := (ob.alloc _).below hx | replace ob := ((ob.alloc _).alloc _).below hx | replace ob := (((ob.alloc _).alloc _).alloc _).below hx
  obtain ⟨c0_ob, c1_ob, f0_ob, f1_ob, z_ob⟩ := ob.two
  try clear c0_oc c1_oc f0_oc f1_oc z_oc
  first | replace oc := oc.below hx | replace oc := (oc.alloc _).below hx | replace oc := ((oc.alloc _).alloc _).below hx | replace oc := (((oc.alloc _).alloc _).alloc _).below hx
  obtain ⟨c0_oc, c1_oc, f0_oc, f1_oc, z_oc⟩ := oc.two
  try clear c0_ox c1_ox f0_ox f1_ox z_ox
  first | have ox := (Own.new w2 _ _).below hx | have ox := ((Own.new w2 _ _).alloc _).below hx | have ox := (((Own.new w2 _ _).alloc _).alloc _).below hx | have ox := ((((Own.new w2 _ _).alloc _).alloc _).alloc _).below hx
  obtain ⟨c0_ox, c1_ox, f0_ox, f1_ox, z_ox⟩ := ox.two
  replace hb : Below w.heap.size w w3 := Below.trans (by (repeat (first | exact Below.refl _ _ | assumption | refine Below.drew ?_ | refine below_drewN ?_ _ | refine Below.setCell ?_ (by first | omega | (simp <;> omega)) _ | refine Below.alloc ?_ (by have := hb.size; first | omega | (simp <;> omega)) _))) (hx.mono (by have := hb.size; first | omega | (simp <;> omega)))
  clear hx
  go_wp2_with fail
  go_ret
  exact Ret.mk rfl (by (have hbs := hb.size; repeat (first | exact Below.refl _ _ | assumption | refine Below.drew ?_ | refine below_drewN ?_ _ | refine Below.setCell ?_ (by first | omega | (simp <;> omega)) _ | refine Below.alloc ?_ (by first | omega | (simp <;> omega)) _)))

set_option maxHeartbeats 1600000 in
set_option maxRecDepth 100000 in
theorem sums_arg1 (a1 a2 b1 b2 c1 c2 : Int) (A1 : Hid (addF a1 a2 b1 b2 = (0, 0, 1))) (A2 : Hid (addF b1 b2 a1 a2 = (0, 0, 1))) (VA : Hid (vldB a1 a2 = false)) (w : World) : Calls Try.prog 5 #[.agg #[.int .i64 a1, .int .i64 a2], .agg #[.int .i64 b1, .int .i64 b2], .agg #[.int .i64 c1, .int .i64 c2]] w (Ret (.bool true) w) := by
  have hb : Below w.heap.size w w := Below.refl _ _
  have he := eql_rat
  have hn := neq_rat
  go_enter Try.func5, Try.ntmps5
  go_wp2_with fail
  refine (head_any _).mono ?_
  rintro e w1 ⟨rfl, hx⟩
  try clear c0_oa c1_oa f0_oa f1_oa z_oa
  first | have oa := (Own.new w _ _).below hx | have oa := ((Own.new w _ _).alloc _).below hx | have oa := (((Own.new w _ _).alloc _).alloc _).below hx | have oa := ((((Own.new w _ _).alloc _).alloc _).alloc _).below hx
  obtain ⟨c0_oa, c1_oa, f0_oa, f1_oa, z_oa⟩ := oa.two
  try clear c0_ob c1_ob f0_ob f1_ob z_ob
  first | have ob := (Own.at (w.alloc _) _ _ (w.heap.size + 1) (by simp)).below hx | have ob := ((Own.at (w.alloc _) _ _ (w.heap.size + 1) (by simp)).alloc _).below hx | have ob := (((Own.at (w.alloc _) _ _ (w.heap.size + 1) (by simp)).alloc _).alloc _).below hx | have ob := ((((Own.at (w.alloc _) _ _ (w.heap.size + 1) (by simp)).alloc _).alloc _).alloc _).below hx
  obtain ⟨c0_ob, c1_ob, f0_ob, f1_ob, z_ob⟩ := ob.two
  try clear c0_oc c1_oc f0_oc f1_oc z_oc
  first | have oc := (Own.at ((w.alloc _).alloc _) _ _ (w.heap.size + 1 + 1) (by simp)).below hx | have oc := ((Own.at ((w.alloc _).alloc _) _ _ (w.heap.size + 1 + 1) (by simp)).alloc _).below hx | have oc := (((Own.at ((w.alloc _).alloc _) _ _ (w.heap.size + 1 + 1) (by simp)).alloc _).alloc _).below hx | have oc := ((((Own.at ((w.alloc _).alloc _) _ _ (w.heap.size + 1 + 1) (by simp)).alloc _).alloc _).alloc _).below hx
  obtain ⟨c0_oc, c1_oc, f0_oc, f1_oc, z_oc⟩ := oc.two
  replace hb : Below w.heap.size w w1 := Below.trans (by (repeat (first | exact Below.refl _ _ | assumption | refine Below.drew ?_ | refine below_drewN ?_ _ | refine Below.setCell ?_ (by first | omega | (simp <;> omega)) _ | refine Below.alloc ?_ (by have := hb.size; first | omega | (simp <;> omega)) _))) (hx.mono (by have := hb.size; first | omega | (simp <;> omega)))
  clear hx
  go_wp2_with fail
  refine (add_at A1.out).mono ?_
  rintro e w2 ⟨rfl, hx⟩
  try clear c0_oa c1_oa f0_oa f1_oa z_oa
  first | replace oa := oa.below hx | replace oa := (oa.alloc _).below hx | replace oa := ((oa.alloc _).alloc _).below hx | replace oa := (((oa.alloc _).alloc _).alloc _).below hx
  obtain ⟨c0_oa, c1_oa, f0_oa, f1_oa, z_oa⟩ := oa.two
  try clear c0_ob c1_ob f0_ob f1_ob z_ob
  first | replace ob := ob.below hx | replace ob := (ob.alloc _).below hx | replace ob := ((ob.alloc _).alloc _).below hx | replace ob := (((ob.alloc _).alloc _).alloc _).below hx
  obtain ⟨c0_ob, c1_ob, f0_ob, f1_ob, z_ob⟩ := ob.two
  try clear c0_oc c1_oc f0_oc f1_oc z_oc
  first | replace oc := oc.below hx | replace oc := (oc.alloc _).below hx | replace oc := ((oc.alloc _).alloc _).below hx | replace oc := (((oc.alloc _).alloc _).alloc _).below hx
  obtain ⟨c0_oc, c1_oc, f0_oc, f1_oc, z_oc⟩ := oc.two
  replace hb : Below w.heap.size w w2 := Below.trans (by (repeat (first | exact Below.refl _ _ | assumption | refine Below.drew ?_ | refine below_drewN ?_ _ | refine Below.setCell ?_ (by first | omega | (simp <;> omega)) _ | refine Below.alloc ?_ (by have := hb.size; first | omega | (simp <;> omega)) _))) (hx.mono (by have := hb.size; first | omega | (simp <;> omega)))
  clear hx
  go_wp2_with fail
  refine (add_at A2.out).mono ?_
  rintro e w3 ⟨rfl, hx⟩
  try clear c0_oa c1_oa f0_oa f1_oa z_oa
  first | replace oa := oa.below hx | replace oa := (oa.alloc _).below hx | replace oa := ((oa.alloc _).alloc _).below hx | replace oa := (((oa.alloc _).alloc _).alloc _).below hx
  obtain ⟨c0_oa, c1_oa, f0_oa, f1_oa, z_oa⟩ := oa.two
  try clear c0_ob c1_ob f0_ob f1_ob z_ob
  first | replace ob := ob.below hx | replace ob := (ob.alloc _).below hx | replace ob := ((ob.alloc _).alloc _).below hx | replace ob := (((ob.alloc _).alloc _).alloc _).below hx
  obtain ⟨c0_ob, c1_ob, f0_ob, f1_ob, z_ob⟩ := ob.two
  try clear c0_oc c1_oc f0_oc f1_oc z_oc
  first | replace oc := oc.below hx | replace oc := (oc.alloc _).below hx | replace oc := ((oc.alloc _).alloc _).below hx | replace oc := (((oc.alloc _).alloc _).alloc _).below hx
  obtain ⟨c0_oc, c1_oc, f0_oc, f1_oc, z_oc⟩ := oc.two
  try clear c0_ox c1_ox f0_ox f1_ox z_ox
  first | have ox := (Own.new w2 _ _).below hx | have ox := ((Own.new w2 _ _).alloc _).below hx | have ox := (((Own.new w2 _ _).alloc _).alloc _).below hx | have ox := ((((Own.new w2 _ _).alloc _).alloc _).alloc _).below hx
  obtain ⟨c0_ox, c1_ox, f0_ox, f1_ox, z_ox⟩ := ox.two
  replace hb : Below w.heap.size w w3 := Below.trans (by (repeat (first | exact Below.refl _ _ | assumption | refine Below.drew ?_ | refine below_drewN ?_ _ | refine Below.setCell ?_ (by first | omega | (simp <;> omega)) _ | refine Below.alloc ?_ (by have := hb.size; first | omega | (simp <;> omega)) _))) (hx.mono (by have := hb.size; first | omega | (simp <;> omega)))
  clear hx
  go_wp2_with fail
  refine (r_valid_at _ _ _ VA.out).mono ?_
  rintro e w4 ⟨rfl, hx⟩
  try clear c0_oa c1_oa f0_oa f1_oa z_oa
  first | replace oa := oa.below hx | replace oa := (oa.alloc _).below hx | replace oa := ((oa.alloc _).alloc _).below hx | replace oa := (((oa.alloc _).alloc _).alloc _).below hx
  obtain ⟨c0_oa, c1_oa, f0_oa, f1_oa, z_oa⟩ := oa.two
  try clear c0_ob c1_ob f0_ob f1_ob z_ob
  first | replace ob := ob.below hx | replace ob := (ob.alloc _).below hx | replace ob := ((ob.alloc _).alloc _).below hx | replace ob := (((ob.alloc _).alloc _).alloc _).below hx
  obtain ⟨c0_ob, c1_ob, f0_ob, f1_ob, z_ob⟩ := ob.two
  try clear c0_oc c1_oc f0_oc f1_oc z_oc
  first | replace oc := oc.below hx | replace oc := (oc.alloc _).below hx | replace oc := ((oc.alloc _).alloc _).below hx | replace oc := (((oc.alloc _).alloc _).alloc _).below hx
  obtain ⟨c0_oc, c1_oc, f0_oc, f1_oc, z_oc⟩ := oc.two
  replace hb : Below w.heap.size w w4 := Below.trans (by (repeat (first | exact Below.refl _ _ | assumption | refine Below.drew ?_ | refine below_drewN ?_ _ | refine Below.setCell ?_ (by first | omega | (simp <;> omega)) _ | refine Below.alloc ?_ (by have := hb.size; first | omega | (simp <;> omega)) _))) (hx.mono (by have := hb.size; first | omega | (simp <;> omega)))
  clear hx
  go_wp2_with fail
  go_ret
  exact Ret.mk rfl (by (have hbs := hb.size; repeat (first | exact Below.refl _ _ | assumption | refine Below.drew ?_ | refine below_drewN ?_ _ | refine Below.setCell ?_ (by first | omega | (simp <;> omega)) _ | refine Below.alloc ?_ (by first | omega | (simp <;> omega)) _)))

set_option maxHeartbeats 1600000 in
set_option maxRecDepth 100000 in
theorem sums_arg2 (a1 a2 b1 b2 c1 c2 : Int) (A1 : Hid (addF a1 a2 b1 b2 = (0, 0, 1))) (A2 : Hid (addF b1 b2 a1 a2 = (0, 0, 1))) (VA : Hid (vldB a1 a2 = true)) (VB : Hid (vldB b1 b2 = false)) (w : World) : Calls Try.prog 5 #[.agg #[.int .i64 a1, .int .i64 a2], .agg #[.int .i64 b1, .int .i64 b2], .agg #[.int .i64 c1, .int .i64 c2]] w (Ret (.bool true) w) := by
  have hb : Below w.heap.size w w := Below.refl _ _
  have he := eql_rat
  have hn := neq_rat
  go_enter Try.func5, Try.ntmps5
  go_wp2_with fail
  refine (head_any _).mono ?_
  rintro e w1 ⟨rfl, hx⟩
  try clear c0_oa c1_oa f0_oa f1_oa z_oa
  first | have oa := (Own.new w _ _).below hx | have oa := ((Own.new w _ _).alloc _).below hx | have oa := (((Own.new w _ _).alloc _).alloc _).below hx | have oa := ((((Own.new w _ _).alloc _).alloc _).alloc _).below hx
  obtain ⟨c0_oa, c1_oa, f0_oa, f1_oa, z_oa⟩ := oa.two
  try clear c0_ob c1_ob f0_ob f1_ob z_ob
  first | have ob := (Own.at (w.alloc _) _ _ (w.heap.size + 1) (by simp)).below hx | have ob := ((Own.at (w.alloc _) _ _ (w.heap.size + 1) (by simp)).alloc _).below hx | have ob := (((Own.at (w.alloc _) _ _ (w.heap.size + 1) (by simp)).alloc _).alloc _).below hx | have ob := ((((Own.at (w.alloc _) _ _ (w.heap.size + 1) (by simp)).alloc _).alloc _).alloc _).below hx
  obtain ⟨c0_ob, c1_ob, f0_ob, f1_ob, z_ob⟩ := ob.two
  try clear c0_oc c1_oc f0_oc f1_oc z_oc
  first | have oc := (Own.at ((w.alloc _).alloc _) _ _ (w.heap.size + 1 + 1) (by simp)).below hx | have oc := ((Own.at ((w.alloc _).alloc _) _ _ (w.heap.size + 1 + 1) (by simp)).alloc _).below hx | have oc := (((Own.at ((w.alloc _).alloc _) _ _ (w.heap.size + 1 + 1) (by simp)).alloc _).alloc _).below hx | have oc := ((((Own.at ((w.alloc _).alloc _) _ _ (w.heap.size + 1 + 1) (by simp)).alloc _).alloc _).alloc _).below hx
  obtain ⟨c0_oc, c1_oc, f0_oc, f1_oc, z_oc⟩ := oc.two
  replace hb : Below w.heap.size w w1 := Below.trans (by (repeat (first | exact Below.refl _ _ | assumption | refine Below.drew ?_ | refine below_drewN ?_ _ | refine Below.setCell ?_ (by first | omega | (simp <;> omega)) _ | refine Below.alloc ?_ (by have := hb.size; first | omega | (simp <;> omega)) _))) (hx.mono (by have := hb.size; first | omega | (simp <;> omega)))
  clear hx
  go_wp2_with fail
  refine (add_at A1.out).mono ?_
  rintro e w2 ⟨rfl, hx⟩
  try clear c0_oa c1_oa f0_oa f1_oa z_oa
  first | replace oa := oa.below hx | replace oa := (oa.alloc _).below hx | replace oa := ((oa.alloc _).alloc _).below hx | replace oa := (((oa.alloc _).alloc _).alloc _).below hx
  obtain ⟨c0_oa, c1_oa, f0_oa, f1_oa, z_oa⟩ := oa.two
  try clear c0_ob c1_ob f0_ob f1_ob z_ob
  first | replace ob := ob.below hx | replace ob := (ob.alloc _).below hx | replace ob := ((ob.alloc _).alloc _).below hx | replace ob := (((ob.alloc _).alloc _).alloc _).below hx
  obtain ⟨c0_ob, c1_ob, f0_ob, f1_ob, z_ob⟩ := ob.two
  try clear c0_oc c1_oc f0_oc f1_oc z_oc
  first | replace oc := oc.below hx | replace oc := (oc.alloc _).below hx | replace oc := ((oc.alloc _).alloc _).below hx | replace oc := (((oc.alloc _).alloc _).alloc _).below hx
  obtain ⟨c0_oc, c1_oc, f0_oc, f1_oc, z_oc⟩ := oc.two
  replace hb : Below w.heap.size w w2 := Below.trans (by (repeat (first | exact Below.refl _ _ | assumption | refine Below.drew ?_ | refine below_drewN ?_ _ | refine Below.setCell ?_ (by first | omega | (simp <;> omega)) _ | refine Below.alloc ?_ (by have := hb.size; first | omega | (simp <;> omega)) _))) (hx.mono (by have := hb.size; first | omega | (simp <;> omega)))
  clear hx
  go_wp2_with fail
  refine (add_at A2.out).mono ?_
  rintro e w3 ⟨rfl, hx⟩
  try clear c0_oa c1_oa f0_oa f1_oa z_oa
  first | replace oa := oa.below hx | replace oa := (oa.alloc _).below hx | replace oa := ((oa.alloc _).alloc _).below hx | replace oa := (((oa.alloc _).alloc _).alloc _).below hx
  obtain ⟨c0_oa, c1_oa, f0_oa, f1_oa, z_oa⟩ := oa.two
  try clear c0_ob c1_ob f0_ob f1_ob z_ob
  first | replace ob := ob.below hx | replace ob := (ob.alloc _).below hx | replace ob := ((ob.alloc _).alloc _).below hx | replace ob := (((ob.alloc _).alloc _).alloc _).below hx
  obtain ⟨c0_ob, c1_ob, f0_ob, f1_ob, z_ob⟩ := ob.two
  try clear c0_oc c1_oc f0_oc f1_oc z_oc
  first | replace oc := oc.below hx | replace oc := (oc.alloc _).below hx | replace oc := ((oc.alloc _).alloc _).below hx | replace oc := (((oc.alloc _).alloc _).alloc _).below hx
  obtain ⟨c0_oc, c1_oc, f0_oc, f1_oc, z_oc⟩ := oc.two
  try clear c0_ox c1_ox f0_ox f1_ox z_ox
  first | have ox := (Own.new w2 _ _).below hx | have ox := ((Own.new w2 _ _).alloc _).below hx | have ox := (((Own.new w2 _ _).alloc _).alloc _).below hx | have ox := ((((Own.new w2 _ _).alloc _).alloc _).alloc _).below hx
  obtain ⟨c0_ox, c1_ox, f0_ox, f1_ox, z_ox⟩ := ox.two
  replace hb : Below w.heap.size w w3 := Below.trans (by (repeat (first | exact Below.refl _ _ | assumption | refine Below.drew ?_ | refine below_drewN ?_ _ | refine Below.setCell ?_ (by first | omega | (simp <;> omega)) _ | refine Below.alloc ?_ (by have := hb.size; first | omega | (simp <;> omega)) _))) (hx.mono (by have := hb.size; first | omega | (simp <;> omega)))
  clear hx
  go_wp2_with fail
  refine (r_valid_at _ _ _ VA.out).mono ?_
  rintro e w4 ⟨rfl, hx⟩
  try clear c0_oa c1_oa f0_oa f1_oa z_oa
  first | replace oa := oa.below hx | replace oa := (oa.alloc _).below hx | replace oa := ((oa.alloc _).alloc _).below hx | replace oa := (((oa.alloc _).alloc _).alloc _).below hx
  obtain ⟨c0_oa, c1_oa, f0_oa, f1_oa, z_oa⟩ := oa.two
  try clear c0_ob c1_ob f0_ob f1_ob z_ob
  first | replace ob := ob.below hx | replace ob := (ob.alloc _).below hx | replace ob := ((ob.alloc _).alloc _).below hx | replace ob := (((ob.alloc _).alloc _).alloc _).below hx
  obtain ⟨c0_ob, c1_ob, f0_ob, f1_ob, z_ob⟩ := ob.two
  try clear c0_oc c1_oc f0_oc f1_oc z_oc
  first | replace oc := oc.below hx | replace oc := (oc.alloc _).below hx | replace oc := ((oc.alloc _).alloc _).below hx | replace oc := (((oc.alloc _).alloc _).alloc _).below hx
  obtain ⟨c0_oc, c1_oc, f0_oc, f1_oc, z_oc⟩ := oc.two
  replace hb : Below w.heap.size w w4 := Below.trans (by (repeat (first | exact Below.refl _ _ | assumption | refine Below.drew ?_ | refine below_drewN ?_ _ | refine Below.setCell ?_ (by first | omega | (simp <;> omega)) _ | refine Below.alloc ?_ (by have := hb.size; first | omega | (simp <;> omega)) _))) (hx.mono (by have := hb.size; first | omega | (simp <;> omega)))
  clear hx
  go_wp2_with fail
  refine (r_valid_at _ _ _ VB.out).mono ?_
  rintro e w5 ⟨rfl, hx⟩
  try clear c0_oa c1_oa f0_oa f1_oa z_oa
  first | replace oa := oa.below hx | replace oa := (oa.alloc _).below hx | replace oa := ((oa.alloc _).alloc _).below hx | replace oa := (((oa.alloc _).alloc _).alloc _).below hx
  obtain ⟨c0_oa, c1_oa, f0_oa, f1_oa, z_oa⟩ := oa.two
  try clear c0_ob c1_ob f0_ob f1_ob z_ob
  first | replace ob := ob.below hx | replace ob := (ob.alloc _).below hx | replace ob := ((ob.alloc _).alloc _).below hx | replace ob := (((ob.alloc _).alloc _).alloc _).below hx
  obtain ⟨c0_ob, c1_ob, f0_ob, f1_ob, z_ob⟩ := ob.two
  try clear c0_oc c1_oc f0_oc f1_oc z_oc
  first | replace oc := oc.below hx | replace oc := (oc.alloc _).below hx | replace oc := ((oc.alloc _).alloc _).below hx | replace oc := (((oc.alloc _).alloc _).alloc _).below hx
  obtain ⟨c0_oc, c1_oc, f0_oc, f1_oc, z_oc⟩ := oc.two
  replace hb : Below w.heap.size w w5 := Below.trans (by (repeat (first | exact Below.refl _ _ | assumption | refine Below.drew ?_ | refine below_drewN ?_ _ | refine Below.setCell ?_ (by first | omega | (simp <;> omega)) _ | refine Below.alloc ?_ (by have := hb.size; first | omega | (simp <;> omega)) _))) (hx.mono (by have := hb.size; first | omega | (simp <;> omega)))
  clear hx
  go_wp2_with fail
  go_ret
  exact Ret.mk rfl (by (have hbs := hb.size; repeat (first | exact Below.refl _ _ | assumption | refine Below.drew ?_ | refine below_drewN ?_ _ | refine Below.setCell ?_ (by first | omega | (simp <;> omega)) _ | refine Below.alloc ?_ (by first | omega | (simp <;> omega)) _)))

set_option maxHeartbeats 1600000 in
set_option maxRecDepth 100000 in
theorem sums_ok1 (a1 a2 b1 b2 c1 c2 : Int) (x1 x2 l1 l2 l3 z1 z2 z3 r1 r2 r3 : Int) (A1 : Hid (addF a1 a2 b1 b2 = (x1, x2, 0))) (A2 : Hid (addF b1 b2 a1 a2 = (x1, x2, 0))) (SB : Hid (subF x1 x2 b1 b2 = (a1, a2, 0))) (AL : Hid (addF x1 x2 c1 c2 = (l1, l2, l3))) (AZ : Hid (addF b1 b2 c1 c2 = (z1, z2, z3))) (AR : Hid (addF a1 a2 z1 z2 = (r1, r2, r3))) (e1 : (l3 != 0) = true) (w : World) : Calls Try.prog 5 #[.agg #[.int .i64 a1, .int .i64 a2], .agg #[.int .i64 b1, .int .i64 b2], .agg #[.int .i64 c1, .int .i64 c2]] w (Ret (.bool true) w) := by
  have hb : Below w.heap.size w w := Below.refl _ _
  have he := eql_rat
  have hn := neq_rat
  go_enter Try.func5, Try.ntmps5
  go_wp2_with fail
  refine (head_any _).mono ?_
  rintro e w1 ⟨rfl, hx⟩
  try clear c0_oa c1_oa f0_oa f1_oa z_oa
  first | have oa := (Own.new w _ _).below hx | have oa := ((Own.new w _ _).alloc _).below hx | have oa := (((Own.new w _ _).alloc _).alloc _).below hx | have oa := ((((Own.new w _ _).alloc _).alloc _).alloc _).below hx
  obtain ⟨c0_oa, c1_oa, f0_oa, f1_oa, z_oa⟩ := oa.two
  try clear c0_ob c1_ob f0_ob f1_ob z_ob
  first | have ob := (Own.at (w.alloc _) _ _ (w.heap.size + 1) (by simp)).below hx | have ob := ((Own.at (w.alloc _) _ _ (w.heap.size + 1) (by simp)).alloc _).below hx | have ob := (((Own.at (w.alloc _) _ _ (w.heap.size + 1) (by simp)).alloc _).alloc _).below hx | have ob := ((((Own.at (w.alloc _) _ _ (w.heap.size + 1) (by simp)).alloc _).alloc _).alloc _).below hx
  obtain ⟨c0_ob, c1_ob, f0_ob, f1_ob, z_ob⟩ := ob.two
  try clear c0_oc c1_oc f0_oc f1_oc z_oc
  first | have oc := (Own.at ((w.alloc _).alloc _) _ _ (w.heap.size + 1 + 1) (by simp)).below hx | have oc := ((Own.at ((w.alloc _).alloc _) _ _ (w.heap.size + 1 + 1) (by simp)).alloc _).below hx | have oc := (((Own.at ((w.alloc _).alloc _) _ _ (w.heap.size + 1 + 1) (by simp)).alloc _).alloc _).below hx | have oc := ((((Own.at ((w.alloc _).alloc _) _ _ (w.heap.size + 1 + 1) (by simp)).alloc _).alloc _).alloc _).below hx
  obtain ⟨c0_oc, c1_oc, f0_oc, f1_oc, z_oc⟩ := oc.two
  replace hb : Below w.heap.size w w1 := Below.trans (by (repeat (first | exact Below.refl _ _ | assumption | refine Below.drew ?_ | refine below_drewN ?_ _ | refine Below.setCell ?_ (by first | omega | (simp <;> omega)) _ | refine Below.alloc ?_ (by have := hb.size; first | omega | (simp <;> omega)) _))) (hx.mono (by have := hb.size; first | omega | (simp <;> omega)))
  clear hx
  go_wp2_with fail
  refine (add_at A1.out).mono ?_
  rintro e w2 ⟨rfl, hx⟩
  try clear c0_oa c1_oa f0_oa f1_oa z_oa
  first | replace oa := oa.below hx | replace oa := (oa.alloc _).below hx | replace oa := ((oa.alloc _).alloc _).below hx | replace oa := (((oa.alloc _).alloc _).alloc _).below hx
  obtain ⟨c0_oa, c1_oa, f0_oa, f1_oa, z_oa⟩ := oa.two
  try clear c0_ob c1_ob f0_ob f1_ob z_ob
  first | replace ob := ob.below hx | replace ob := (ob.alloc _).below hx | replace ob := ((ob.alloc _).alloc _).below hx | replace ob := (((ob.alloc _).alloc _).alloc _).below hx
  obtain ⟨c0_ob, c1_ob, f0_ob, f1_ob, z_ob⟩ := ob.two
  try clear c0_oc c1_oc f0_oc f1_oc z_oc
  first | replace oc := oc.below hx | replace oc := (oc.alloc _).below hx | replace oc := ((oc.alloc _).alloc _).below hx | replace oc := (((oc.alloc _).alloc _).alloc _).below hx
  obtain ⟨c0_oc, c1_oc, f0_oc, f1_oc, z_oc⟩ := oc.two
  replace hb : Below w.heap.size w w2 := Below.trans (by (repeat (first | exact Below.refl _ _ | assumption | refine Below.drew ?_ | refine below_drewN ?_ _ | refine Below.setCell ?_ (by first | omega | (simp <;> omega)) _ | refine Below.alloc ?_ (by have := hb.size; first | omega | (simp <;> omega)) _))) (hx.mono (by have := hb.size; first | omega | (simp <;> omega)))
  clear hx
  go_wp2_with fail
  refine (add_at A2.out).mono ?_
  rintro e w3 ⟨rfl, hx⟩
  try clear c0_oa c1_oa f0_oa f1_oa z_oa
  first | replace oa := oa.below hx | replace oa := (oa.alloc _).below hx | replace oa := ((oa.alloc _).alloc _).below hx | replace oa := (((oa.alloc _).alloc _).alloc _).below hx
  obtain ⟨c0_oa, c1_oa, f0_oa, f1_oa, z_oa⟩ := oa.two
  try clear c0_ob c1_ob f0_ob f1_ob z_ob
  first | replace ob := ob.below hx | replace ob := (ob.alloc _).below hx | replace ob := ((ob.alloc _).alloc _).below hx | replace ob := (((ob.alloc _).alloc _).alloc _).below hx
  obtain ⟨c0_ob, c1_ob, f0_ob, f1_ob, z_ob⟩ := ob.two
  try clear c0_oc c1_oc f0_oc f1_oc z_oc
  first | replace oc := oc.below hx | replace oc := (oc.alloc _).below hx | replace oc := ((oc.alloc _).alloc _).below hx | replace oc := (((oc.alloc _).alloc _).alloc _).below hx
  obtain ⟨c0_oc, c1_oc, f0_oc, f1_oc, z_oc⟩ := oc.two
  try clear c0_ox c1_ox f0_ox f1_ox z_ox
  first | have ox := (Own.new w2 _ _).below hx | have ox := ((Own.new w2 _ _).alloc _).below hx | have ox := (((Own.new w2 _ _).alloc _).alloc _).below hx | have ox := ((((Own.new w2 _ _).alloc _).alloc _).alloc _).below hx
  obtain ⟨c0_ox, c1_ox, f0_ox, f1_ox, z_ox⟩ := ox.two
  replace hb : Below w.heap.size w w3 := Below.trans (by (repeat (first | exact Below.refl _ _ | assumption | refine Below.drew ?_ | refine below_drewN ?_ _ | refine Below.setCell ?_ (by first | omega | (simp <;> omega)) _ | refine Below.alloc ?_ (by have := hb.size; first | omega | (simp <;> omega)) _))) (hx.mono (by have := hb.size; first | omega | (simp <;> omega)))
  clear hx
  go_wp2_with fail
  refine (sub_at SB.out).mono ?_
  rintro e w4 ⟨rfl, hx⟩
  try clear c0_oa c1_oa f0_oa f1_oa z_oa
  first | replace oa := oa.below hx | replace oa := (oa.alloc _).below hx | replace oa := ((oa.alloc _).alloc _).below hx | replace oa := (((oa.alloc _).alloc _).alloc _).below hx
  obtain ⟨c0_oa, c1_oa, f0_oa, f1_oa, z_oa⟩ := oa.two
  try clear c0_ob c1_ob f0_ob f1_ob z_ob
  first | replace ob := ob.below hx | replace ob := (ob.alloc _).below hx | replace ob := ((ob.alloc _).alloc _).below hx | replace ob := (((ob.alloc _).alloc _).alloc _).below hx
  obtain ⟨c0_ob, c1_ob, f0_ob, f1_ob, z_ob⟩ := ob.two
  try clear c0_oc c1_oc f0_oc f1_oc z_oc
  first | replace oc := oc.below hx | replace oc := (oc.alloc _).below hx | replace oc := ((oc.alloc _).alloc _).below hx | replace oc := (((oc.alloc _).alloc _).alloc _).below hx
  obtain ⟨c0_oc, c1_oc, f0_oc, f1_oc, z_oc⟩ := oc.two
  try clear c0_ox c1_ox f0_ox f1_ox z_ox
  first | replace ox := ox.below hx | replace ox := (ox.alloc _).below hx | replace ox := ((ox.alloc _).alloc _).below hx | replace ox := (((ox.alloc _).alloc _).alloc _).below hx
  obtain ⟨c0_ox, c1_ox, f0_ox, f1_ox, z_ox⟩ := ox.two
  try clear c0_oy c1_oy f0_oy f1_oy z_oy
  first | have oy := (Own.new w3 _ _).below hx | have oy := ((Own.new w3 _ _).alloc _).below hx | have oy := (((Own.new w3 _ _).alloc _).alloc _).below hx | have oy := ((((Own.new w3 _ _).alloc _).alloc _).alloc _).below hx
  obtain ⟨c0_oy, c1_oy, f0_oy, f1_oy, z_oy⟩ := oy.two
  replace hb : Below w.heap.size w w4 := Below.trans (by (repeat (first | exact Below.refl _ _ | assumption | refine Below.drew ?_ | refine below_drewN ?_ _ | refine Below.setCell ?_ (by first | omega | (simp <;> omega)) _ | refine Below.alloc ?_ (by have := hb.size; first | omega | (simp <;> omega)) _))) (hx.mono (by have := hb.size; first | omega | (simp <;> omega)))
  clear hx
  go_wp2_with fail
  refine (add_at AL.out).mono ?_
  rintro e w5 ⟨rfl, hx⟩
  try clear c0_oa c1_oa f0_oa f1_oa z_oa
  first | replace oa := oa.below hx | replace oa := (oa.alloc _).below hx | replace oa := ((oa.alloc _).alloc _).below hx | replace oa := (((oa.alloc _).alloc _).alloc _).below hx
  obtain ⟨c0_oa, c1_oa, f0_oa, f1_oa, z_oa⟩ := oa.two
  try clear c0_ob c1_ob f0_ob f1_ob z_ob
  first | replace ob := ob.below hx | replace ob := (ob.alloc _).below hx | replace ob := ((ob.alloc _).alloc _).below hx | replace ob := (((ob.alloc _).alloc _).alloc _).below hx
  obtain ⟨c0_ob, c1_ob, f0_ob, f1_ob, z_ob⟩ := ob.two
  try clear c0_oc c1_oc f0_oc f1_oc z_oc
  first | replace oc := oc.below hx | replace oc := (oc.alloc _).below hx | replace oc := ((oc.alloc _).alloc _).below hx | replace oc := (((oc.alloc _).alloc _).alloc _).below hx
  obtain ⟨c0_oc, c1_oc, f0_oc, f1_oc, z_oc⟩ := oc.two
  try clear c0_ox c1_ox f0_ox f1_ox z_ox
  first | replace ox := ox.below hx | replace ox := (ox.alloc _).below hx | replace ox := ((ox.alloc _).alloc _).below hx | replace ox := (((ox.alloc _).alloc _).alloc _).below hx
  obtain ⟨c0_ox, c1_ox, f0_ox, f1_ox, z_ox⟩ := ox.two
  try clear c0_ob2 c1_ob2 f0_ob2 f1_ob2 z_ob2
  first | have ob2 := (Own.new w4 _ _).below hx | have ob2 := ((Own.new w4 _ _).alloc _).below hx | have ob2 := (((Own.new w4 _ _).alloc _).alloc _).below hx | have ob2 := ((((Own.new w4 _ _).alloc _).alloc _).alloc _).below hx
  obtain ⟨c0_ob2, c1_ob2, f0_ob2, f1_ob2, z_ob2⟩ := ob2.two
  replace hb : Below w.heap.size w w5 := Below.trans (by (repeat (first | exact Below.refl _ _ | assumption | refine Below.drew ?_ | refine below_drewN ?_ _ | refine Below.setCell ?_ (by first | omega | (simp <;> omega)) _ | refine Below.alloc ?_ (by have := hb.size; first | omega | (simp <;> omega)) _))) (hx.mono (by have := hb.size; first | omega | (simp <;> omega)))
  clear hx
  go_wp2_with fail
  refine (add_at AZ.out).mono ?_
  rintro e w6 ⟨rfl, hx⟩
  try clear c0_oa c1_oa f0_oa f1_oa z_oa
  first | replace oa := oa.below hx | replace oa := (oa.alloc _).below hx | replace oa := ((oa.alloc _).alloc _).below hx | replace oa := (((oa.alloc _).alloc _).alloc _).below hx
  obtain ⟨c0_oa, c1_oa, f0_oa, f1_oa, z_oa⟩ := oa.two
  try clear c0_ob c1_ob f0_ob f1_ob z_ob
  first | replace ob := ob.below hx | replace ob := (ob.alloc _).below hx | replace ob := ((ob.alloc _).alloc _).below hx | replace ob := (((ob.alloc _).alloc _).alloc _).below hx
  obtain ⟨c0_ob, c1_ob, f0_ob, f1_ob, z_ob⟩ := ob.two
  try clear c0_oc c1_oc f0_oc f1_oc z_oc
  first | replace oc := oc.below hx | replace oc := (oc.alloc _).below hx | replace oc := ((oc.alloc _).alloc _).below hx | replace oc := (((oc.alloc _).alloc _).alloc _).below hx
  obtain ⟨c0_oc, c1_oc, f0_oc, f1_oc, z_oc⟩ := oc.two
  try clear c0_ox c1_ox f0_ox f1_ox z_ox
  first | replace ox := ox.below hx | replace ox := (ox.alloc _).below hx | replace ox := ((ox.alloc _).alloc _).below hx | replace ox := (((ox.alloc _).alloc _).alloc _).below hx
  obtain ⟨c0_ox, c1_ox, f0_ox, f1_ox, z_ox⟩ := ox.two
  try clear c0_ob2 c1_ob2 f0_ob2 f1_ob2 z_ob2
  first | replace ob2 := ob2.below hx | replace ob2 := (ob2.alloc _).below hx | replace ob2 := ((ob2.alloc _).alloc _).below hx | replace ob2 := (((ob2.alloc _).alloc _).alloc _).below hx
  obtain ⟨c0_ob2, c1_ob2, f0_ob2, f1_ob2, z_ob2⟩ := ob2.two
  try clear c0_ol c1_ol f0_ol f1_ol z_ol
  first | have ol := (Own.new w5 _ _).below hx | have ol := ((Own.new w5 _ _).alloc _).below hx | have ol := (((Own.new w5 _ _).alloc _).alloc _).below hx | have ol := ((((Own.new w5 _ _).alloc _).alloc _).alloc _).below hx
  obtain ⟨c0_ol, c1_ol, f0_ol, f1_ol, z_ol⟩ := ol.two
  replace hb : Below w.heap.size w w6 := Below.trans (by (repeat (first | exact Below.refl _ _ | assumption | refine Below.drew ?_ | refine below_drewN ?_ _ | refine Below.setCell ?_ (by first | omega | (simp <;> omega)) _ | refine Below.alloc ?_ (by have := hb.size; first | omega | (simp <;> omega)) _))) (hx.mono (by have := hb.size; first | omega | (simp <;> omega)))
  clear hx
  go_wp2_with fail
  refine (add_at AR.out).mono ?_
  rintro e w7 ⟨rfl, hx⟩
  try clear c0_oa c1_oa f0_oa f1_oa z_oa
  first | replace oa := oa.below hx | replace oa := (oa.alloc _).below hx | replace oa := ((oa.alloc _).alloc _).below hx | replace oa := (((oa.alloc _).alloc _).alloc _).below hx
  obtain ⟨c0_oa, c1_oa, f0_oa, f1_oa, z_oa⟩ := oa.two
  try clear c0_ob c1_ob f0_ob f1_ob z_ob
  first | replace ob := ob.below hx | replace ob := (ob.alloc _).below hx | replace ob := ((ob.alloc _).alloc _).below hx | replace ob := (((ob.alloc _).alloc _).alloc _).below hx
  obtain ⟨c0_ob, c1_ob, f0_ob, f1_ob, z_ob⟩ := ob.two
  try clear c0_oc c1_oc f0_oc f1_oc z_oc
  first | replace oc := oc.below hx | replace oc := (oc.alloc _).below hx | replace oc := ((oc.alloc _).alloc _).below hx | replace oc := (((oc.alloc _).alloc _).alloc _).below hx
  obtain ⟨c0_oc, c1_oc, f0_oc, f1_oc, z_oc⟩ := oc.two
  try clear c0_ox c1_ox f0_ox f1_ox z_ox
  first | replace ox := ox.below hx | replace ox := (ox.alloc _).below hx | replace ox := ((ox.alloc _).alloc _).below hx | replace ox := (((ox.alloc _).alloc _).alloc _).below hx
  obtain ⟨c0_ox, c1_ox, f0_ox, f1_ox, z_ox⟩ := ox.two
  try clear c0_ob2 c1_ob2 f0_ob2 f1_ob2 z_ob2
  first | replace ob2 := ob2.below hx | replace ob2 := (ob2.alloc _).below hx | replace ob2 := ((ob2.alloc _).alloc _).below hx | replace ob2 := (((ob2.alloc _).alloc _).alloc _).below hx
  obtain ⟨c0_ob2, c1_ob2, f0_ob2, f1_ob2, z_ob2⟩ := ob2.two
  try clear c0_ol c1_ol f0_ol f1_ol z_ol
  first | replace ol := ol.below hx | replace ol := (ol.alloc _).below hx | replace ol := ((ol.alloc _).alloc _).below hx | replace ol := (((ol.alloc _).alloc _).alloc _).below hx
  obtain ⟨c0_ol, c1_ol, f0_ol, f1_ol, z_ol⟩ := ol.two
  try clear c0_oz c1_oz f0_oz f1_oz z_oz
  first | have oz := (Own.new w6 _ _).below hx | have oz := ((Own.new w6 _ _).alloc _).below hx | have oz := (((Own.new w6 _ _).alloc _).alloc _).below hx | have oz := ((((Own.new w6 _ _).alloc _).alloc _).alloc _).below hx
  obtain ⟨c0_oz, c1_oz, f0_oz, f1_oz, z_oz⟩ := oz.two
  replace hb : Below w.heap.size w w7 := Below.trans (by (repeat (first | exact Below.refl _ _ | assumption | refine Below.drew ?_ | refine below_drewN ?_ _ | refine Below.setCell ?_ (by first | omega | (simp <;> omega)) _ | refine Below.alloc ?_ (by have := hb.size; first | omega | (simp <;> omega)) _))) (hx.mono (by have := hb.size; first | omega | (simp <;> omega)))
  clear hx
  go_wp2_with fail
  go_ret
  exact Ret.mk rfl (by (have hbs := hb.size; repeat (first | exact Below.refl _ _ | assumption | refine Below.drew ?_ | refine below_drewN ?_ _ | refine Below.setCell ?_ (by first | omega | (simp <;> omega)) _ | refine Below.alloc ?_ (by first | omega | (simp <;> omega)) _)))

set_option maxHeartbeats 1600000 in
set_option maxRecDepth 100000 in
theorem sums_ok2 (a1 a2 b1 b2 c1 c2 : Int) (x1 x2 l1 l2 l3 z1 z2 z3 r1 r2 r3 : Int) (A1 : Hid (addF a1 a2 b1 b2 = (x1, x2, 0))) (A2 : Hid (addF b1 b2 a1 a2 = (x1, x2, 0))) (SB : Hid (subF x1 x2 b1 b2 = (a1, a2, 0))) (AL : Hid (addF x1 x2 c1 c2 = (l1, l2, l3))) (AZ : Hid (addF b1 b2 c1 c2 = (z1, z2, z3))) (AR : Hid (addF a1 a2 z1 z2 = (r1, r2, r3))) (e1 : (l3 != 0) = false) (e2 : (z3 != 0) = true) (w : World) : Calls Try.prog 5 #[.agg #[.int .i64 a1, .int .i64 a2], .agg #[.int .i64 b1, .int .i64 b2], .agg #[.int .i64 c1, .int .i64 c2]] w (Ret (.bool true) w) := by
  have hb : Below w.heap.size w w := Below.refl _ _
  have he := eql_rat
  have hn := neq_rat
  go_enter Try.func5, Try.ntmps5
  go_wp2_with fail
  refine (head_any _).mono ?_
  rintro e w1 ⟨rfl, hx⟩
  try clear c0_oa c1_oa f0_oa f1_oa z_oa
  first | have oa := (Own.new w _ _).below hx | have oa := ((Own.new w _ _).alloc _).below hx | have oa := (((Own.new w _ _).alloc _).alloc _).below hx | have oa := ((((Own.new w _ _).alloc _).alloc _).alloc _).below hx
  obtain ⟨c0_oa, c1_oa, f0_oa, f1_oa, z_oa⟩ := oa.two
  try clear c0_ob c1_ob f0_ob f1_ob z_ob
  first | have ob := (Own.at (w.alloc _) _ _ (w.heap.size + 1) (by simp)).below hx | have ob := ((Own.at (w.alloc _) _ _ (w.heap.size + 1) (by simp)).alloc _).below hx | have ob := (((Own.at (w.alloc _) _ _ (w.heap.size + 1) (by simp)).alloc _).alloc _).below hx | have ob := ((((Own.at (w.alloc _) _ _ (w.heap.size + 1) (by simp)).alloc _).alloc _).alloc _).below hx
  obtain ⟨c0_ob, c1_ob, f0_ob, f1_ob, z_ob⟩ := ob.two
  try clear c0_oc c1_oc f0_oc f1_oc z_oc
  first | have oc := (Own.at ((w.alloc _).alloc _) _ _ (w.heap.size + 1 + 1) (by simp)).below hx | have oc := ((Own.at ((w.alloc _).alloc _) _ _ (w.heap.size + 1 + 1) (by simp)).alloc _).below hx | have oc := (((Own.at ((w.alloc _).alloc _) _ _ (w.heap.size + 1 + 1) (by simp)).alloc _).alloc _).below hx | have oc := ((((Own.at ((w.alloc _).alloc _) _ _ (w.heap.size + 1 + 1) (by simp)).alloc _).alloc _).alloc _).below hx
  obtain ⟨c0_oc, c1_oc, f0_oc, f1_oc, z_oc⟩ := oc.two
  replace hb : Below w.heap.size w w1 := Below.trans (by (repeat (first | exact Below.refl _ _ | assumption | refine Below.drew ?_ | refine below_drewN ?_ _ | refine Below.setCell ?_ (by first | omega | (simp <;> omega)) _ | refine Below.alloc ?_ (by have := hb.size; first | omega | (simp <;> omega)) _))) (hx.mono (by have := hb.size; first | omega | (simp <;> omega)))
  clear hx
  go_wp2_with fail
  refine (add_at A1.out).mono ?_
  rintro e w2 ⟨rfl, hx⟩
  try clear c0_oa c1_oa f0_oa f1_oa z_oa
  first | replace oa := oa.below hx | replace oa := (oa.alloc _).below hx | replace oa := ((oa.alloc _).alloc _).below hx | replace oa := (((oa.alloc _).alloc _).alloc _).below hx
  obtain ⟨c0_oa, c1_oa, f0_oa, f1_oa, z_oa⟩ := oa.two
  try clear c0_ob c1_ob f0_ob f1_ob z_ob
  first | replace ob := ob.below hx | replace ob := (ob.alloc _).below hx | replace ob := ((ob.alloc _).alloc _).below hx | replace ob := (((ob.alloc _).alloc _).alloc _).below hx
  obtain ⟨c0_ob, c1_ob, f0_ob, f1_ob, z_ob⟩ := ob.two
  try clear c0_oc c1_oc f0_oc f1_oc z_oc
  first | replace oc := oc.below hx | replace oc := (oc.alloc _).below hx | replace oc := ((oc.alloc _).alloc _).below hx | replace oc := (((oc.alloc _).alloc _).alloc _).below hx
  obtain ⟨c0_oc, c1_oc, f0_oc, f1_oc, z_oc⟩ := oc.two
  replace hb : Below w.heap.size w w2 := Below.trans (by (repeat (first | exact Below.refl _ _ | assumption | refine Below.drew ?_ | refine below_drewN ?_ _ | refine Below.setCell ?_ (by first | omega | (simp <;> omega)) _ | refine Below.alloc ?_ (by have := hb.size; first | omega | (simp <;> omega)) _))) (hx.mono (by have := hb.size; first | omega | (simp <;> omega)))
  clear hx
  go_wp2_with fail
  refine (add_at A2.out).mono ?_
  rintro e w3 ⟨rfl, hx⟩
  try clear c0_oa c1_oa f0_oa f1_oa z_oa
  first | replace oa := oa.below hx | replace oa := (oa.alloc _).below hx | replace oa := ((oa.alloc _).alloc _).below hx | replace oa := (((oa.alloc _).alloc _).alloc _).below hx
  obtain ⟨c0_oa, c1_oa, f0_oa, f1_oa, z_oa⟩ := oa.two
  try clear c0_ob c1_ob f0_ob f1_ob z_ob
  first | replace ob := ob.below hx | replace ob := (ob.alloc _).below hx | replace ob := ((ob.alloc _).alloc _).below hx | replace ob := (((ob.alloc _).alloc _).alloc _).below hx
  obtain ⟨c0_ob, c1_ob, f0_ob, f1_ob, z_ob⟩ := ob.two
  try clear c0_oc c1_oc f0_oc f1_oc z_oc
  first | replace oc := oc.below hx | replace oc := (oc.alloc _).below hx | replace oc := ((oc.alloc _).alloc _).below hx | replace oc := (((oc.alloc _).alloc _).alloc _).below hx
  obtain ⟨c0_oc, c1_oc, f0_oc, f1_oc, z_oc⟩ := oc.two
  try clear c0_ox c1_ox f0_ox f1_ox z_ox
  first | have ox := (Own.new w2 _ _).below hx | have ox := ((Own.new w2 _ _).alloc _).below hx | have ox := (((Own.new w2 _ _).alloc _).alloc _).below hx | have ox := ((((Own.new w2 _ _).alloc _).alloc _).alloc _).below hx
  obtain ⟨c0_ox, c1_ox, f0_ox, f1_ox, z_ox⟩ := ox.two
  replace hb : Below w.heap.size w w3 := Below.trans (by (repeat (first | exact Below.refl _ _ | assumption | refine Below.drew ?_ | refine below_drewN ?_ _ | refine Below.setCell ?_ (by first | omega | (simp <;> omega)) _ | refine Below.alloc ?_ (by have := hb.size; first | omega | (simp <;> omega)) _))) (hx.mono (by have := hb.size; first | omega | (simp <;> omega)))
  clear hx
  go_wp2_with fail
  refine (sub_at SB.out).mono ?_
  rintro e w4 ⟨rfl, hx⟩
  try clear c0_oa c1_oa f0_oa f1_oa z_oa
  first | replace oa := oa.below hx | replace oa := (oa.alloc _).below hx | replace oa := ((oa.alloc _).alloc _).below hx | replace oa := (((oa.alloc _).alloc _).alloc _).below hx
  obtain ⟨c0_oa, c1_oa, f0_oa, f1_oa, z_oa⟩ := oa.two
  try clear c0_ob c1_ob f0_ob f1_ob z_ob
  first | replace ob := ob.below hx | replace ob := (ob.alloc _).below hx | replace ob := ((ob.alloc _).alloc _).below hx | replace ob := (((ob.alloc _).alloc _).alloc _).below hx
  obtain ⟨c0_ob, c1_ob, f0_ob, f1_ob, z_ob⟩ := ob.two
  try clear c0_oc c1_oc f0_oc f1_oc z_oc
  first | replace oc := oc.below hx | replace oc := (oc.alloc _).below hx | replace oc := ((oc.alloc _).alloc _).below hx | replace oc := (((oc.alloc _).alloc _).alloc _).below hx
  obtain ⟨c0_oc, c1_oc, f0_oc, f1_oc, z_oc⟩ := oc.two
  try clear c0_ox c1_ox f0_ox f1_ox z_ox
  first | replace ox := ox.below hx | replace ox := (ox.alloc _).below hx | replace ox := ((ox.alloc _).alloc _).below hx | replace ox := (((ox.alloc _).alloc _).alloc _).below hx
  obtain ⟨c0_ox, c1_ox, f0_ox, f1_ox, z_ox⟩ := ox.two
  try clear c0_oy c1_oy f0_oy f1_oy z_oy
  first | have oy := (Own.new w3 _ _).below hx | have oy := ((Own.new w3 _ _).alloc _).below hx | have oy := (((Own.new w3 _ _).alloc _).alloc _).below hx | have oy := ((((Own.new w3 _ _).alloc _).alloc _).alloc _).below hx
  obtain ⟨c0_oy, c1_oy, f0_oy, f1_oy, z_oy⟩ := oy.two
  replace hb : Below w.heap.size w w4 := Below.trans (by (repeat (first | exact Below.refl _ _ | assumption | refine Below.drew ?_ | refine below_drewN ?_ _ | refine Below.setCell ?_ (by first | omega | (simp <;> omega)) _ | refine Below.alloc ?_ (by have := hb.size; first | omega | (simp <;> omega)) _))) (hx.mono (by have := hb.size; first | omega | (simp <;> omega)))
  clear hx
  go_wp2_with fail
  refine (add_at AL.out).mono ?_
  rintro e w5 ⟨rfl, hx⟩
  try clear c0_oa c1_oa f0_oa f1_oa z_oa
  first | replace oa := oa.below hx | replace oa := (oa.alloc _).below hx | replace oa := ((oa.alloc _).alloc _).below hx | replace oa := (((oa.alloc _).alloc _).alloc _).below hx
  obtain ⟨c0_oa, c1_oa, f0_oa, f1_oa, z_oa⟩ := oa.two
  try clear c0_ob c1_ob f0_ob f1_ob z_ob
  first | replace ob := ob.below hx | replace ob := (ob.alloc _).below hx | replace ob := ((ob.alloc _).alloc _).below hx | replace ob := (((ob.alloc _).alloc _).alloc _).below hx
  obtain ⟨c0_ob, c1_ob, f0_ob, f1_ob, z_ob⟩ := ob.two
  try clear c0_oc c1_oc f0_oc f1_oc z_oc
  first | replace oc := oc.below hx | replace oc := (oc.alloc _).below hx | replace oc := ((oc.alloc _).alloc _).below hx | replace oc := (((oc.alloc _).alloc _).alloc _).below hx
  obtain ⟨c0_oc, c1_oc, f0_oc, f1_oc, z_oc⟩ := oc.two
  try clear c0_ox c1_ox f0_ox f1_ox z_ox
  first | replace ox := ox.below hx | replace ox := (ox.alloc _).below hx | replace ox := ((ox.alloc _).alloc _).below hx | replace ox := (((ox.alloc _).alloc _).alloc _).below hx
  obtain ⟨c0_ox, c1_ox, f0_ox, f1_ox, z_ox⟩ := ox.two
  try clear c0_ob2 c1_ob2 f0_ob2 f1_ob2 z_ob2
  first | have ob2 := (Own.new w4 _ _).below hx | have ob2 := ((Own.new w4 _ _).alloc _).below hx | have ob2 := (((Own.new w4 _ _).alloc _).alloc _).below hx | have ob2 := ((((Own.new w4 _ _).alloc _).alloc _).alloc _).below hx
  obtain ⟨c0_ob2, c1_ob2, f0_ob2, f1_ob2, z_ob2⟩ := ob2.two
  replace hb : Below w.heap.size w w5 := Below.trans (by (repeat (first | exact Below.refl _ _ | assumption | refine Below.drew ?_ | refine below_drewN ?_ _ | refine Below.setCell ?_ (by first | omega | (simp <;> omega)) _ | refine Below.alloc ?_ (by have := hb.size; first | omega | (simp <;> omega)) _))) (hx.mono (by have := hb.size; first | omega | (simp <;> omega)))
  clear hx
  go_wp2_with fail
  refine (add_at AZ.out).mono ?_
  rintro e w6 ⟨rfl, hx⟩
  try clear c0_oa c1_oa f0_oa f1_oa z_oa
  first | replace oa := oa.below hx | replace oa := (oa.alloc _).below hx | replace oa := ((oa.alloc _).alloc _).below hx | replace oa := (((oa.alloc _).alloc _).alloc _).below hx
  obtain ⟨c0_oa, c1_oa, f0_oa, f1_oa, z_oa⟩ := oa.two
  try clear c0_ob c1_ob f0_ob f1_ob z_ob
  first | replace ob := ob.below hx | replace ob := (ob.alloc _).below hx | replace ob := ((ob.alloc _).alloc _).below hx | replace ob := (((ob.alloc _).alloc _).alloc _).below hx
  obtain ⟨c0_ob, c1_ob, f0_ob, f1_ob, z_ob⟩ := ob.two
  try clear c0_oc c1_oc f0_oc f1_oc z_oc
  first | replace oc := oc.below hx | replace oc := (oc.alloc _).below hx | replace oc := ((oc.alloc _).alloc _).below hx | replace oc := (((oc.alloc _).alloc _).alloc _).below hx
  obtain ⟨c0_oc, c1_oc, f0_oc, f1_oc, z_oc⟩ := oc.two
  try clear c0_ox c1_ox f0_ox f1_ox z_ox
  first | replace ox := ox.below hx | replace ox := (ox.alloc _).below hx | replace ox := ((ox.alloc _).alloc _).below hx | replace ox := (((ox.alloc _).alloc _).alloc _).below hx
  obtain ⟨c0_ox, c1_ox, f0_ox, f1_ox, z_ox⟩ := ox.two
  try clear c0_ob2 c1_ob2 f0_ob2 f1_ob2 z_ob2
  first | replace ob2 := ob2.below hx | replace ob2 := (ob2.alloc _).below hx | replace ob2 := ((ob2.alloc _).alloc _).below hx | replace ob2 := (((ob2.alloc _).alloc _).alloc _).below hx
  obtain ⟨c0_ob2, c1_ob2, f0_ob2, f1_ob2, z_ob2⟩ := ob2.two
  try clear c0_ol c1_ol f0_ol f1_ol z_ol
  first | have ol := (Own.new w5 _ _).below hx | have ol := ((Own.new w5 _ _).alloc _).below hx | have ol := (((Own.new w5 _ _).alloc _).alloc _).below hx | have ol := ((((Own.new w5 _ _).alloc _).alloc _).alloc _).below hx
  obtain ⟨c0_ol, c1_ol, f0_ol, f1_ol, z_ol⟩ := ol.two
  replace hb : Below w.heap.size w w6 := Below.trans (by (repeat (first | exact Below.refl _ _ | assumption | refine Below.drew ?_ | refine below_drewN ?_ _ | refine Below.setCell ?_ (by first | omega | (simp <;> omega)) _ | refine Below.alloc ?_ (by have := hb.size; first | omega | (simp <;> omega)) _))) (hx.mono (by have := hb.size; first | omega | (simp <;> omega)))
  clear hx
  go_wp2_with fail
  refine (add_at AR.out).mono ?_
  rintro e w7 ⟨rfl, hx⟩
  try clear c0_oa c1_oa f0_oa f1_oa z_oa
  first | replace oa := oa.below hx | replace oa := (oa.alloc _).below hx | replace oa := ((oa.alloc _).alloc _).below hx | replace oa := (((oa.alloc _).alloc _).alloc _).below hx
  obtain ⟨c0_oa, c1_oa, f0_oa, f1_oa, z_oa⟩ := oa.two
  try clear c0_ob c1_ob f0_ob f1_ob z_ob
  first | replace ob := ob.below hx | replace ob := (ob.alloc _).below hx | replace ob := ((ob.alloc _).alloc _).below hx | replace ob := (((ob.alloc _).alloc _).alloc _).below hx
  obtain ⟨c0_ob, c1_ob, f0_ob, f1_ob, z_ob⟩ := ob.two
  try clear c0_oc c1_oc f0_oc f1_oc z_oc
  first | replace oc := oc.below hx | replace oc := (oc.alloc _).below hx | replace oc := ((oc.alloc _).alloc _).below hx | replace oc := (((oc.alloc _).alloc _).alloc _).below hx
  obtain ⟨c0_oc, c1_oc, f0_oc, f1_oc, z_oc⟩ := oc.two
  try clear c0_ox c1_ox f0_ox f1_ox z_ox
  first | replace ox := ox.below hx | replace ox := (ox.alloc _).below hx | replace ox := ((ox.alloc _).alloc _).below hx | replace ox := (((ox.alloc _).alloc _).alloc _).below hx
  obtain ⟨c0_ox, c1_ox, f0_ox, f1_ox, z_ox⟩ := ox.two
  try clear c0_ob2 c1_ob2 f0_ob2 f1_ob2 z_ob2
  first | replace ob2 := ob2.below hx | replace ob2 := (ob2.alloc _).below hx | replace ob2 := ((ob2.alloc _).alloc _).below hx | replace ob2 := (((ob2.alloc _).alloc _).alloc _).below hx
  obtain ⟨c0_ob2, c1_ob2, f0_ob2, f1_ob2, z_ob2⟩ := ob2.two
  try clear c0_ol c1_ol f0_ol f1_ol z_ol
  first | replace ol := ol.below hx | replace ol := (ol.alloc _).below hx | replace ol := ((ol.alloc _).alloc _).below hx | replace ol := (((ol.alloc _).alloc _).alloc _).below hx
  obtain ⟨c0_ol, c1_ol, f0_ol, f1_ol, z_ol⟩ := ol.two
  try clear c0_oz c1_oz f0_oz f1_oz z_oz
  first | have oz := (Own.new w6 _ _).below hx | have oz := ((Own.new w6 _ _).alloc _).below hx | have oz := (((Own.new w6 _ _).alloc _).alloc _).below hx | have oz := ((((Own.new w6 _ _).alloc _).alloc _).alloc _).below hx
  obtain ⟨c0_oz, c1_oz, f0_oz, f1_oz, z_oz⟩ := oz.two
  replace hb : Below w.heap.size w w7 := Below.trans (by (repeat (first | exact Below.refl _ _ | assumption | refine Below.drew ?_ | refine below_drewN ?_ _ | refine Below.setCell ?_ (by first | omega | (simp <;> omega)) _ | refine Below.alloc ?_ (by have := hb.size; first | omega | (simp <;> omega)) _))) (hx.mono (by have := hb.size; first | omega | (simp <;> omega)))
  clear hx
  go_wp2_with fail
  go_ret
  exact Ret.mk rfl (by (have hbs := hb.size; repeat (first | exact Below.refl _ _ | assumption | refine Below.drew ?_ | refine below_drewN ?_ _ | refine Below.setCell ?_ (by first | omega | (simp <;> omega)) _ | refine Below.alloc ?_ (by first | omega | (simp <;> omega)) _)))

set_option maxHeartbeats 1600000 in
set_option maxRecDepth 100000 in
theorem sums_ok3 (a1 a2 b1 b2 c1 c2 : Int) (x1 x2 l1 l2 z1 z2 : Int) (A1 : Hid (addF a1 a2 b1 b2 = (x1, x2, 0))) (A2 : Hid (addF b1 b2 a1 a2 = (x1, x2, 0))) (SB : Hid (subF x1 x2 b1 b2 = (a1, a2, 0))) (AL : Hid (addF x1 x2 c1 c2 = (l1, l2, 0))) (AZ : Hid (addF b1 b2 c1 c2 = (z1, z2, 0))) (AR : Hid (addF a1 a2 z1 z2 = (l1, l2, 0))) (w : World) : Calls Try.prog 5 #[.agg #[.int .i64 a1, .int .i64 a2], .agg #[.int .i64 b1, .int .i64 b2], .agg #[.int .i64 c1, .int .i64 c2]] w (Ret (.bool true) w) := by
  have hb : Below w.heap.size w w := Below.refl _ _
  have he := eql_rat
  have hn := neq_rat
  go_enter Try.func5, Try.ntmps5
  go_wp2_with fail
  refine (head_any _).mono ?_
  rintro e w1 ⟨rfl, hx⟩
  try clear c0_oa c1_oa f0_oa f1_oa z_oa
  first | have oa := (Own.new w _ _).below hx | have oa := ((Own.new w _ _).alloc _).below hx | have oa := (((Own.new w _ _).alloc _).alloc _).below hx | have oa := ((((Own.new w _ _).alloc _).alloc _).alloc _).below hx
  obtain ⟨c0_oa, c1_oa, f0_oa, f1_oa, z_oa⟩ := oa.two
  try clear c0_ob c1_ob f0_ob f1_ob z_ob
  first | have ob := (Own.at (w.alloc _) _ _ (w.heap.size + 1) (by simp)).below hx | have ob := ((Own.at (w.alloc _) _ _ (w.heap.size + 1) (by simp)).alloc _).below hx | have ob := (((Own.at (w.alloc _) _ _ (w.heap.size + 1) (by simp)).alloc _).alloc _).below hx | have ob := ((((Own.at (w.alloc _) _ _ (w.heap.size + 1) (by simp)).alloc _).alloc _).alloc _).below hx
  obtain ⟨c0_ob, c1_ob, f0_ob, f1_ob, z_ob⟩ := ob.two
  try clear c0_oc c1_oc f0_oc f1_oc z_oc
  first | have oc := (Own.at ((w.alloc _).alloc _) _ _ (w.heap.size + 1 + 1) (by simp)).below hx | have oc := ((Own.at ((w.alloc _).alloc _) _ _ (w.heap.size + 1 + 1) (by simp)).alloc _).below hx | have oc := (((Own.at ((w.alloc _).alloc _) _ _ (w.heap.size + 1 + 1) (by simp)).alloc _).alloc _).below hx | have oc := ((((Own.at ((w.alloc _).alloc _) _ _ (w.heap.size + 1 + 1) (by simp)).alloc _).alloc _).alloc _).below hx
  obtain ⟨c0_oc, c1_oc, f0_oc, f1_oc, z_oc⟩ := oc.two
  replace hb : Below w.heap.size w w1 := Below.trans (by (repeat (first | exact Below.refl _ _ | assumption | refine Below.drew ?_ | refine below_drewN ?_ _ | refine Below.setCell ?_ (by first | omega | (simp <;> omega)) _ | refine Below.alloc ?_ (by have := hb.size; first | omega | (simp <;> omega)) _))) (hx.mono (by have := hb.size; first | omega | (simp <;> omega)))
  clear hx
  go_wp2_with fail
  refine (add_at A1.out).mono ?_
  rintro e w2 ⟨rfl, hx⟩
  try clear c0_oa c1_oa f0_oa f1_oa z_oa
  first | replace oa := oa.below hx | replace oa := (oa.alloc _).below hx | replace oa := ((oa.alloc _).alloc _).below hx | replace oa := (((oa.alloc _).alloc _).alloc _).below hx
  obtain ⟨c0_oa, c1_oa, f0_oa, f1_oa, z_oa⟩ := oa.two
  try clear c0_ob c1_ob f0_ob f1_ob z_ob
  first | replace ob := ob.below hx | replace ob := (ob.alloc _).below hx | replace ob := ((ob.alloc _).alloc _).below hx | replace ob := (((ob.alloc _).alloc _).alloc _).below hx
  obtain ⟨c0_ob, c1_ob, f0_ob, f1_ob, z_ob⟩ := ob.two
  try clear c0_oc c1_oc f0_oc f1_oc z_oc
  first | replace oc := oc.below hx | replace oc := (oc.alloc _).below hx | replace oc := ((oc.alloc _).alloc _).below hx | replace oc := (((oc.alloc _).alloc _).alloc _).below hx
  obtain ⟨c0_oc, c1_oc, f0_oc, f1_oc, z_oc⟩ := oc.two
  replace hb : Below w.heap.size w w2 := Below.trans (by (repeat (first | exact Below.refl _ _ | assumption | refine Below.drew ?_ | refine below_drewN ?_ _ | refine Below.setCell ?_ (by first | omega | (simp <;> omega)) _ | refine Below.alloc ?_ (by have := hb.size; first | omega | (simp <;> omega)) _))) (hx.mono (by have := hb.size; first | omega | (simp <;> omega)))
  clear hx
  go_wp2_with fail
  refine (add_at A2.out).mono ?_
  rintro e w3 ⟨rfl, hx⟩
  try clear c0_oa c1_oa f0_oa f1_oa z_oa
  first | replace oa := oa.below hx | replace oa := (oa.alloc _).below hx | replace oa := ((oa.alloc _).alloc _).below hx | replace oa := (((oa.alloc _).alloc _).alloc _).below hx
  obtain ⟨c0_oa, c1_oa, f0_oa, f1_oa, z_oa⟩ := oa.two
  try clear c0_ob c1_ob f0_ob f1_ob z_ob
  first | replace ob := ob.below hx | replace ob := (ob.alloc _).below hx | replace ob := ((ob.alloc _).alloc _).below hx | replace ob := (((ob.alloc _).alloc _).alloc _).below hx
  obtain ⟨c0_ob, c1_ob, f0_ob, f1_ob, z_ob⟩ := ob.two
  try clear c0_oc c1_oc f0_oc f1_oc z_oc
  first | replace oc := oc.below hx | replace oc := (oc.alloc _).below hx | replace oc := ((oc.alloc _).alloc _).below hx | replace oc := (((oc.alloc _).alloc _).alloc _).below hx
  obtain ⟨c0_oc, c1_oc, f0_oc, f1_oc, z_oc⟩ := oc.two
  try clear c0_ox c1_ox f0_ox f1_ox z_ox
  first | have ox := (Own.new w2 _ _).below hx | have ox := ((Own.new w2 _ _).alloc _).below hx | have ox := (((Own.new w2 _ _).alloc _).alloc _).below hx | have ox := ((((Own.new w2 _ _).alloc _).alloc _).alloc _).below hx
  obtain ⟨c0_ox, c1_ox, f0_ox, f1_ox, z_ox⟩ := ox.two
  replace hb : Below w.heap.size w w3 := Below.trans (by (repeat (first | exact Below.refl _ _ | assumption | refine Below.drew ?_ | refine below_drewN ?_ _ | refine Below.setCell ?_ (by first | omega | (simp <;> omega)) _ | refine Below.alloc ?_ (by have := hb.size; first | omega | (simp <;> omega)) _))) (hx.mono (by have := hb.size; first | omega | (simp <;> omega)))
  clear hx
  go_wp2_with fail
  refine (sub_at SB.out).mono ?_
  rintro e w4 ⟨rfl, hx⟩
  try clear c0_oa c1_oa f0_oa f1_oa z_oa
  first | replace oa := oa.below hx | replace oa := (oa.alloc _).below hx | replace oa := ((oa.alloc _).alloc _).below hx | replace oa := (((oa.alloc _).alloc _).alloc _).below hx
  obtain ⟨c0_oa, c1_oa, f0_oa, f1_oa, z_oa⟩ := oa.two
  try clear c0_ob c1_ob f0_ob f1_ob z_ob
  first | replace ob := ob.below hx | replace ob := (ob.alloc _).below hx | replace ob := ((ob.alloc _).alloc _).below hx | replace ob := (((ob.alloc _).alloc _).alloc _).below hx
  obtain ⟨c0_ob, c1_ob, f0_ob, f1_ob, z_ob⟩ := ob.two
  try clear c0_oc c1_oc f0_oc f1_oc z_oc
  first | replace oc := oc.below hx | replace oc := (oc.alloc _).below hx | replace oc := ((oc.alloc _).alloc _).below hx | replace oc := (((oc.alloc _).alloc _).alloc _).below hx
  obtain ⟨c0_oc, c1_oc, f0_oc, f1_oc, z_oc⟩ := oc.two
  try clear c0_ox c1_ox f0_ox f1_ox z_ox
  first | replace ox := ox.below hx | replace ox := (ox.alloc _).below hx | replace ox := ((ox.alloc _).alloc _).below hx | replace ox := (((ox.alloc _).alloc _).alloc _).below hx
  obtain ⟨c0_ox, c1_ox, f0_ox, f1_ox, z_ox⟩ := ox.two
  try clear c0_oy c1_oy f0_oy f1_oy z_oy
  first | have oy := (Own.new w3 _ _).below hx | have oy := ((Own.new w3 _ _).alloc _).below hx | have oy := (((Own.new w3 _ _).alloc _).alloc _).below hx | have oy := ((((Own.new w3 _ _).alloc _).alloc _).alloc _).below hx
  obtain ⟨c0_oy, c1_oy, f0_oy, f1_oy, z_oy⟩ := oy.two
  replace hb : Below w.heap.size w w4 := Below.trans (by (repeat (first | exact Below.refl _ _ | assumption | refine Below.drew ?_ | refine below_drewN ?_ _ | refine Below.setCell ?_ (by first | omega | (simp <;> omega)) _ | refine Below.alloc ?_ (by have := hb.size; first | omega | (simp <;> omega)) _))) (hx.mono (by have := hb.size; first | omega | (simp <;> omega)))
  clear hx
  go_wp2_with fail
  refine (add_at AL.out).mono ?_
  rintro e w5 ⟨rfl, hx⟩
  try clear c0_oa c1_oa f0_oa f1_oa z_oa
  first | replace oa := oa.below hx | replace oa := (oa.alloc _).below hx | replace oa := ((oa.alloc _).alloc _).below hx | replace oa := (((oa.alloc _).alloc _).alloc _).below hx
  obtain ⟨c0_oa, c1_oa, f0_oa, f1_oa, z_oa⟩ := oa.two
  try clear c0_ob c1_ob f0_ob f1_ob z_ob
  first | replace ob := ob.below hx | replace ob := (ob.alloc _).below hx | replace ob := ((ob.alloc _).alloc _).below hx | replace ob := (((ob.alloc _).alloc _).alloc _).below hx
  obtain ⟨c0_ob, c1_ob, f0_ob, f1_ob, z_ob⟩ := ob.two
  try clear c0_oc c1_oc f0_oc f1_oc z_oc
  first | replace oc := oc.below hx | replace oc := (oc.alloc _).below hx | replace oc := ((oc.alloc _).alloc _).below hx | replace oc := (((oc.alloc _).alloc _).alloc _).below hx
  obtain ⟨c0_oc, c1_oc, f0_oc, f1_oc, z_oc⟩ := oc.two
  try clear c0_ox c1_ox f0_ox f1_ox z_ox
  first | replace ox := ox.below hx | replace ox := (ox.alloc _).below hx | replace ox := ((ox.alloc _).alloc _).below hx | replace ox := (((ox.alloc _).alloc _).alloc _).below hx
  obtain ⟨c0_ox, c1_ox, f0_ox, f1_ox, z_ox⟩ := ox.two
  try clear c0_ob2 c1_ob2 f0_ob2 f1_ob2 z_ob2
  first | have ob2 := (Own.new w4 _ _).below hx | have ob2 := ((Own.new w4 _ _).alloc _).below hx | have ob2 := (((Own.new w4 _ _).alloc _).alloc _).below hx | have ob2 := ((((Own.new w4 _ _).alloc _).alloc _).alloc _).below hx
  obtain ⟨c0_ob2, c1_ob2, f0_ob2, f1_ob2, z_ob2⟩ := ob2.two
  replace hb : Below w.heap.size w w5 := Below.trans (by (repeat (first | exact Below.refl _ _ | assumption | refine Below.drew ?_ | refine below_drewN ?_ _ | refine Below.setCell ?_ (by first | omega | (simp <;> omega)) _ | refine Below.alloc ?_ (by have := hb.size; first | omega | (simp <;> omega)) _))) (hx.mono (by have := hb.size; first | omega | (simp <;> omega)))
  clear hx
  go_wp2_with fail
  refine (add_at AZ.out).mono ?_
  rintro e w6 ⟨rfl, hx⟩
  try clear c0_oa c1_oa f0_oa f1_oa z_oa
  first | replace oa := oa.below hx | replace oa := (oa.alloc _).below hx | replace oa := ((oa.alloc _).alloc _).below hx | replace oa := (((oa.alloc _).alloc _).alloc _).below hx
  obtain ⟨c0_oa, c1_oa, f0_oa, f1_oa, z_oa⟩ := oa.two
  try clear c0_ob c1_ob f0_ob f1_ob z_ob
  first | replace ob := ob.below hx | replace ob := (ob.alloc _).below hx | replace ob := ((ob.alloc _).alloc _).below hx | replace ob := (((ob.alloc _).alloc _).alloc _).below hx
  obtain ⟨c0_ob, c1_ob, f0_ob, f1_ob, z_ob⟩ := ob.two
  try clear c0_oc c1_oc f0_oc f1_oc z_oc
  first | replace oc := oc.below hx | replace oc := (oc.alloc _).below hx | replace oc := ((oc.alloc _).alloc _).below hx | replace oc := (((oc.alloc _).alloc _).alloc _).below hx
  obtain ⟨c0_oc, c1_oc, f0_oc, f1_oc, z_oc⟩ := oc.two
  try clear c0_ox c1_ox f0_ox f1_ox z_ox
  first | replace ox := ox.below hx | replace ox := (ox.alloc _).below hx | replace ox := ((ox.alloc _).alloc _).below hx | replace ox := (((ox.alloc _).alloc _).alloc _).below hx
  obtain ⟨c0_ox, c1_ox, f0_ox, f1_ox, z_ox⟩ := ox.two
  try clear c0_ob2 c1_ob2 f0_ob2 f1_ob2 z_ob2
  first | replace ob2 := ob2.below hx | replace ob2 := (ob2.alloc _).below hx | replace ob2 := ((ob2.alloc _).alloc _).below hx | replace ob2 := (((ob2.alloc _).alloc _).alloc _).below hx
  obtain ⟨c0_ob2, c1_ob2, f0_ob2, f1_ob2, z_ob2⟩ := ob2.two
  try clear c0_ol c1_ol f0_ol f1_ol z_ol
  first | have ol := (Own.new w5 _ _).below hx | have ol := ((Own.new w5 _ _).alloc _).below hx | have ol := (((Own.new w5 _ _).alloc _).alloc _).below hx | have ol := ((((Own.new w5 _ _).alloc _).alloc _).alloc _).below hx
  obtain ⟨c0_ol, c1_ol, f0_ol, f1_ol, z_ol⟩ := ol.two
  replace hb : Below w.heap.size w w6 := Below.trans (by (repeat (first | exact Below.refl _ _ | assumption | refine Below.drew ?_ | refine below_drewN ?_ _ | refine Below.setCell ?_ (by first | omega | (simp <;> omega)) _ | refine Below.alloc ?_ (by have := hb.size; first | omega | (simp <;> omega)) _))) (hx.mono (by have := hb.size; first | omega | (simp <;> omega)))
  clear hx
  go_wp2_with fail
  refine (add_at AR.out).mono ?_
  rintro e w7 ⟨rfl, hx⟩
  try clear c0_oa c1_oa f0_oa f1_oa z_oa
  first | replace oa := oa.below hx | replace oa := (oa.alloc _).below hx | replace oa := ((oa.alloc _).alloc _).below hx | replace oa := (((oa.alloc _).alloc _).alloc _).below hx
  obtain ⟨c0_oa, c1_oa, f0_oa, f1_oa, z_oa⟩ := oa.two
  try clear c0_ob c1_ob f0_ob f1_ob z_ob
  first | replace ob := ob.below hx | replace ob := (ob.alloc _).below hx | replace ob := ((ob.alloc _).alloc _).below hx | replace ob := (((ob.alloc _).alloc _).alloc _).below hx
  obtain ⟨c0_ob, c1_ob, f0_ob, f1_ob, z_ob⟩ := ob.two
  try clear c0_oc c1_oc f0_oc f1_oc z_oc
  first | replace oc := oc.below hx | replace oc := (oc.alloc _).below hx | replace oc := ((oc.alloc _).alloc _).below hx | replace oc := (((oc.alloc _).alloc _).alloc _).below hx
  obtain ⟨c0_oc, c1_oc, f0_oc, f1_oc, z_oc⟩ := oc.two
  try clear c0_ox c1_ox f0_ox f1_ox z_ox
  first | replace ox := ox.below hx | replace ox := (ox.alloc _).below hx | replace ox := ((ox.alloc _).alloc _).below hx | replace ox := (((ox.alloc _).alloc _).alloc _).below hx
  obtain ⟨c0_ox, c1_ox, f0_ox, f1_ox, z_ox⟩ := ox.two
  try clear c0_ob2 c1_ob2 f0_ob2 f1_ob2 z_ob2
  first | replace ob2 := ob2.below hx | replace ob2 := (ob2.alloc _).below hx | replace ob2 := ((ob2.alloc _).alloc _).below hx | replace ob2 := (((ob2.alloc _).alloc _).alloc _).below hx
  obtain ⟨c0_ob2, c1_ob2, f0_ob2, f1_ob2, z_ob2⟩ := ob2.two
  try clear c0_ol c1_ol f0_ol f1_ol z_ol
  first | replace ol := ol.below hx | replace ol := (ol.alloc _).below hx | replace ol := ((ol.alloc _).alloc _).below hx | replace ol := (((ol.alloc _).alloc _).alloc _).below hx
  obtain ⟨c0_ol, c1_ol, f0_ol, f1_ol, z_ol⟩ := ol.two
  try clear c0_oz c1_oz f0_oz f1_oz z_oz
  first | have oz := (Own.new w6 _ _).below hx | have oz := ((Own.new w6 _ _).alloc _).below hx | have oz := (((Own.new w6 _ _).alloc _).alloc _).below hx | have oz := ((((Own.new w6 _ _).alloc _).alloc _).alloc _).below hx
  obtain ⟨c0_oz, c1_oz, f0_oz, f1_oz, z_oz⟩ := oz.two
  replace hb : Below w.heap.size w w7 := Below.trans (by (repeat (first | exact Below.refl _ _ | assumption | refine Below.drew ?_ | refine below_drewN ?_ _ | refine Below.setCell ?_ (by first | omega | (simp <;> omega)) _ | refine Below.alloc ?_ (by have := hb.size; first | omega | (simp <;> omega)) _))) (hx.mono (by have := hb.size; first | omega | (simp <;> omega)))
  clear hx
  go_wp2_with fail
  go_ret
  exact Ret.mk rfl (by (have hbs := hb.size; repeat (first | exact Below.refl _ _ | assumption | refine Below.drew ?_ | refine below_drewN ?_ _ | refine Below.setCell ?_ (by first | omega | (simp <;> omega)) _ | refine Below.alloc ?_ (by first | omega | (simp <;> omega)) _)))

theorem walkSums (a1 a2 b1 b2 c1 c2 : Int) (_ : (Lit.int .i64 a1).wf = true) (_ : (Lit.int .i64 a2).wf = true) (_ : (Lit.int .i64 b1).wf = true) (_ : (Lit.int .i64 b2).wf = true) (_ : (Lit.int .i64 c1).wf = true) (_ : (Lit.int .i64 c2).wf = true) (w : World) : Calls Try.prog 5 #[.agg #[.int .i64 a1, .int .i64 a2], .agg #[.int .i64 b1, .int .i64 b2], .agg #[.int .i64 c1, .int .i64 c2]] w (Ret (.bool true) w) := by
  have hcm := add_comm' b1 b2 a1 a2
  rcases opF_cases a1 a2 b1 b2 (a1 * b2 + b1 * a2) (a2 * b2) with ⟨q, h⟩ | ⟨ha, hb, h⟩
  · have q1 : addF a1 a2 b1 b2 = (0, 0, 1) := q
    have q2 := hcm.trans q1
    cases ha : vldB a1 a2 with
    | false => exact sums_arg1 a1 a2 b1 b2 c1 c2 (Lib.hid q1) (Lib.hid q2) (Lib.hid ha) w
    | true =>
      rw [ha] at h
      exact sums_arg2 a1 a2 b1 b2 c1 c2 (Lib.hid q1) (Lib.hid q2) (Lib.hid ha) (Lib.hid (by simpa using h)) w
  · rcases h with h | ⟨x1, x2, h, _⟩
    · have q1 : addF a1 a2 b1 b2 = (0, 0, 3) := h
      exact sums_range a1 a2 b1 b2 c1 c2 (Lib.hid q1) (Lib.hid (hcm.trans q1)) w
    · have q1 : addF a1 a2 b1 b2 = (x1, x2, 0) := h
      have hs := sums_back ha hb q1
      obtain ⟨l1, l2, l3, hl⟩ : ∃ p q r, addF x1 x2 c1 c2 = (p, q, r) := ⟨_, _, _, rfl⟩
      obtain ⟨z1, z2, z3, hz⟩ : ∃ p q r, addF b1 b2 c1 c2 = (p, q, r) := ⟨_, _, _, rfl⟩
      obtain ⟨r1, r2, r3, hr⟩ : ∃ p q r, addF a1 a2 z1 z2 = (p, q, r) := ⟨_, _, _, rfl⟩
      by_cases e1 : l3 = 0
      · by_cases e2 : z3 = 0
        · subst e1 e2
          have hr' := sums_three ha hb q1 hl hz
          exact sums_ok3 a1 a2 b1 b2 c1 c2 x1 x2 l1 l2 z1 z2 (Lib.hid q1) (Lib.hid (hcm.trans q1)) (Lib.hid hs) (Lib.hid hl) (Lib.hid hz) (Lib.hid hr') w
        · exact sums_ok2 a1 a2 b1 b2 c1 c2 x1 x2 l1 l2 l3 z1 z2 z3 r1 r2 r3 (Lib.hid q1) (Lib.hid (hcm.trans q1)) (Lib.hid hs) (Lib.hid hl) (Lib.hid hz) (Lib.hid hr) (by simpa using e1) (by simpa using e2) w
      · exact sums_ok1 a1 a2 b1 b2 c1 c2 x1 x2 l1 l2 l3 z1 z2 z3 r1 r2 r3 (Lib.hid q1) (Lib.hid (hcm.trans q1)) (Lib.hid hs) (Lib.hid hl) (Lib.hid hz) (Lib.hid hr) (by simpa using e1) w

theorem own_ratioSums : ownKnob Try.prog.godebug = none := by kernel_rfl
theorem laid_ratioSums : laidOutB Try.prog = true := by kernel_rfl

set_option maxRecDepth 100000 in
theorem lifted_ratioSums (os : Os) (started : os.Started) (H : Type) (enc : TypeId × Value → H) :
    ReturnsInHanded {} Try.checked os 5 .any (Rows.ratioSumsSpec.pre6 enc Try.prog Try.f5 Rows.ratioSumsRow.domain false) (Rows.ratioSumsSpec.post enc Try.prog Try.f5 false true false false) := by
  refine returnsInHanded_of_change (C := Try.checked) own_ratioSums started (by kernel_rfl) Try.func5
    (ChangeSpec.witness6 (enc := enc) (C := Try.checked) false ⟨#[], #[.agg #[.int .i64 0, .int .i64 0], .agg #[.int .i64 0, .int .i64 0], .agg #[.int .i64 0, .int .i64 0]], []⟩ 8 (by kernel_rfl) (by kernel_rfl) (by kernel_rfl) (by kernel_rfl)) ?_
  intro W base args ds gs before hval0 hW hcnd _
  have hval : ∀ (j : Nat) t v, Try.f5.params[j]? = some t → args[j]? = some v → Value.okWide Try.prog W .any base t v := hval0
  have hW' := hW
  obtain ⟨p, q, hA0, hV, rfl, hfz, hnd⟩ := hW
  have hA : DataW.TrodAll enc Try.prog W 0 (fun _ => true) true Try.f5.params.toList args.toList ds p := hA0
  rw [Try.params5] at hA hval
  obtain ⟨v0, vs0, d0, ds0, p0, q0, hargs, rfl, rfl, h0, r0⟩ := trodAll_cons hA
  obtain ⟨v1, vs1, d1, ds1, p1, q1, rfl, rfl, rfl, h1, r1⟩ := trodAll_cons r0
  obtain ⟨v2, vs2, d2, ds2, p2, q2, rfl, rfl, rfl, h2, r2⟩ := trodAll_cons r1
  obtain ⟨rfl, rfl, rfl⟩ := trodAll_nil r2
  obtain rfl : args = #[v0, v1, v2] := by cases args; simp_all
  obtain ⟨rfl, rfl⟩ := trodVars_none hV
  have k0 := h0
  have lt0 : ∀ x ∈ p0, x.block < W.heap.size := by obtain ⟨m, hm⟩ := k0; exact DataW.trod_lt m _ _ _ hm
  have cells0 : Try.prog.cellsOf 23 = 2 := by kernel_rfl
  obtain ⟨c00, c01, y00, y01, m0, rfl, _, _, hy00, hy01⟩ := open_agg2 Try.underlying23 (by kernel_rfl) cells0 (hval 0 23 v0 rfl rfl) h0
  obtain ⟨a00, e00, _, w00⟩ := DataW.trod_int Try.underlying3 hy00
  simp at e00
  subst e00
  obtain ⟨a01, e01, _, w01⟩ := DataW.trod_int Try.underlying3 hy01
  simp at e01
  subst e01
  have k1 := h1
  have lt1 : ∀ x ∈ p1, x.block < W.heap.size := by obtain ⟨m, hm⟩ := k1; exact DataW.trod_lt m _ _ _ hm
  have cells1 : Try.prog.cellsOf 23 = 2 := by kernel_rfl
  obtain ⟨c10, c11, y10, y11, m1, rfl, _, _, hy10, hy11⟩ := open_agg2 Try.underlying23 (by kernel_rfl) cells1 (hval 1 23 v1 rfl rfl) h1
  obtain ⟨a10, e10, _, w10⟩ := DataW.trod_int Try.underlying3 hy10
  simp at e10
  subst e10
  obtain ⟨a11, e11, _, w11⟩ := DataW.trod_int Try.underlying3 hy11
  simp at e11
  subst e11
  have k2 := h2
  have lt2 : ∀ x ∈ p2, x.block < W.heap.size := by obtain ⟨m, hm⟩ := k2; exact DataW.trod_lt m _ _ _ hm
  have cells2 : Try.prog.cellsOf 23 = 2 := by kernel_rfl
  obtain ⟨c20, c21, y20, y21, m2, rfl, _, _, hy20, hy21⟩ := open_agg2 Try.underlying23 (by kernel_rfl) cells2 (hval 2 23 v2 rfl rfl) h2
  obtain ⟨a20, e20, _, w20⟩ := DataW.trod_int Try.underlying3 hy20
  simp at e20
  subst e20
  obtain ⟨a21, e21, _, w21⟩ := DataW.trod_int Try.underlying3 hy21
  simp at e21
  subst e21
  clear hA0 hval0
  refine (walkSums a00 a01 a10 a11 a20 a21 w00 w01 w10 w11 w20 w21 W).mono fun e W' ⟨he, bel⟩ => ?_
  subst he
  exact ⟨_, rfl, _, _, _, [], _, [], hW', trodAll_mk1 (shut_bool Try.underlying4 _), (trodAll_cons_mk (Below.trod laid_ratioSums (by kernel_rfl) (of_decide_eq_true (by kernel_rfl)) k0 bel lt0) (trodAll_cons_mk (Below.trod laid_ratioSums (by kernel_rfl) (of_decide_eq_true (by kernel_rfl)) k1 bel lt1) (trodAll_cons_mk (Below.trod laid_ratioSums (by kernel_rfl) (of_decide_eq_true (by kernel_rfl)) k2 bel lt2) trodAll_mk0))), rfl, bel.frame _, fun h => by cases h⟩

/-- The given statement. -/
theorem ratioSums_holds : Rows.RatioSumsSaid :=
  OpenClaim.holds_of_wide 5 Try.f5 rfl rfl rfl rfl rfl rfl rfl ⟨rfl, rfl, rfl, rfl, rfl⟩ rfl rfl rfl rfl rfl (by kernel_rfl) Try.func5 (by kernel_rfl)
    (of_decide_eq_true (by kernel_rfl)) (by unfold Func.isWrapper; first | (rw [if_pos (by decide +kernel)]; kernel_rfl) | (rw [if_neg (by decide +kernel)]; exact ⟨rfl, rfl⟩))
    (fun os started H enc _ => lifted_ratioSums os started H enc)
end Go.Proofs.Ytojjjbhkpcmooaa
