/-
  RatioOrder: comparing says the sign of the difference, the other way round the opposite, 0 exactly for the same ratio, and is transitive. No conditions: for every input.
-/
import Derived.Test.YtojjjbhkpcmooaaLawOrder0
import Derived.Test.YtojjjbhkpcmooaaLawOrder1
import Derived.Test.YtojjjbhkpcmooaaLawOrder2
namespace Go.Proofs.Ytojjjbhkpcmooaa
open Go.ChangeShapes Go.WideShapes Go.ChangeAt Go.RowKit Go.Joins
set_option linter.unusedVariables false

theorem order_ok (a1 a2 b1 b2 c1 c2 : Int) (w : World) (ha : vldB a1 a2 = true) (hb : vldB b1 b2 = true) (hc : vldB c1 c2 = true) : Calls Try.prog 7 #[.agg #[.int .i64 a1, .int .i64 a2], .agg #[.int .i64 b1, .int .i64 b2], .agg #[.int .i64 c1, .int .i64 c2]] w (Ret (.bool true) w) := by
  obtain ⟨_, _, ga, _⟩ := vld_bd ha
  obtain ⟨_, _, gb, _⟩ := vld_bd hb
  obtain ⟨_, _, gc, _⟩ := vld_bd hc
  have VA := Lib.hid ha
  have VB := Lib.hid hb
  have VC := Lib.hid hc
  rcases cmp_val ha hb with ⟨hx, e1⟩ | ⟨hx, e1⟩ | ⟨hx, e1⟩
  · have e2 : cmpF b1 b2 a1 a2 = (1, 0) := by rcases cmp_val hb ha with ⟨h, e⟩ | ⟨h, e⟩ | ⟨h, e⟩ <;> first | exact e | omega
    rcases cmp_val hb hc with ⟨hz, e3⟩ | ⟨hz, e3⟩ | ⟨hz, e3⟩
    · have hw0 := cross_lt1 ga gb gc hx (Int.le_of_lt hz)
      rcases cmp_val ha hc with ⟨hw, e4⟩ | ⟨hw, e4⟩ | ⟨hw, e4⟩
      · rcases sub_sign ha hb with hs | ⟨s1, s2, hs, q1, q2⟩
        · exact order_0_3 a1 a2 b1 b2 c1 c2 0 0 w VA VB VC (Lib.hid e1) (Lib.hid e2) (Lib.hid e3) (Lib.hid e4) (neq_of_cross (by omega)) (Lib.hid hs)
        · exact order_0_0 a1 a2 b1 b2 c1 c2 s1 s2 w VA VB VC (Lib.hid e1) (Lib.hid e2) (Lib.hid e3) (Lib.hid e4) (neq_of_cross (by omega)) (Lib.hid hs) (by rw [decide_eq_true_iff]; omega) (by rw [decide_eq_false_iff_not]; omega)
      · omega
      · omega
    · have hw0 := cross_lt1 ga gb gc hx (Int.le_of_eq hz)
      rcases cmp_val ha hc with ⟨hw, e4⟩ | ⟨hw, e4⟩ | ⟨hw, e4⟩
      · rcases sub_sign ha hb with hs | ⟨s1, s2, hs, q1, q2⟩
        · exact order_1_3 a1 a2 b1 b2 c1 c2 0 0 w VA VB VC (Lib.hid e1) (Lib.hid e2) (Lib.hid e3) (Lib.hid e4) (neq_of_cross (by omega)) (Lib.hid hs)
        · exact order_1_0 a1 a2 b1 b2 c1 c2 s1 s2 w VA VB VC (Lib.hid e1) (Lib.hid e2) (Lib.hid e3) (Lib.hid e4) (neq_of_cross (by omega)) (Lib.hid hs) (by rw [decide_eq_true_iff]; omega) (by rw [decide_eq_false_iff_not]; omega)
      · omega
      · omega
    · rcases cmp_val ha hc with ⟨hw, e4⟩ | ⟨hw, e4⟩ | ⟨hw, e4⟩
      · rcases sub_sign ha hb with hs | ⟨s1, s2, hs, q1, q2⟩
        · exact order_7_3 a1 a2 b1 b2 c1 c2 0 0 w VA VB VC (Lib.hid e1) (Lib.hid e2) (Lib.hid e3) (Lib.hid e4) (neq_of_cross (by omega)) (Lib.hid hs)
        · exact order_7_0 a1 a2 b1 b2 c1 c2 s1 s2 w VA VB VC (Lib.hid e1) (Lib.hid e2) (Lib.hid e3) (Lib.hid e4) (neq_of_cross (by omega)) (Lib.hid hs) (by rw [decide_eq_true_iff]; omega) (by rw [decide_eq_false_iff_not]; omega)
      · rcases sub_sign ha hb with hs | ⟨s1, s2, hs, q1, q2⟩
        · exact order_8_3 a1 a2 b1 b2 c1 c2 0 0 w VA VB VC (Lib.hid e1) (Lib.hid e2) (Lib.hid e3) (Lib.hid e4) (neq_of_cross (by omega)) (Lib.hid hs)
        · exact order_8_0 a1 a2 b1 b2 c1 c2 s1 s2 w VA VB VC (Lib.hid e1) (Lib.hid e2) (Lib.hid e3) (Lib.hid e4) (neq_of_cross (by omega)) (Lib.hid hs) (by rw [decide_eq_true_iff]; omega) (by rw [decide_eq_false_iff_not]; omega)
      · rcases sub_sign ha hb with hs | ⟨s1, s2, hs, q1, q2⟩
        · exact order_9_3 a1 a2 b1 b2 c1 c2 0 0 w VA VB VC (Lib.hid e1) (Lib.hid e2) (Lib.hid e3) (Lib.hid e4) (neq_of_cross (by omega)) (Lib.hid hs)
        · exact order_9_0 a1 a2 b1 b2 c1 c2 s1 s2 w VA VB VC (Lib.hid e1) (Lib.hid e2) (Lib.hid e3) (Lib.hid e4) (neq_of_cross (by omega)) (Lib.hid hs) (by rw [decide_eq_true_iff]; omega) (by rw [decide_eq_false_iff_not]; omega)
  · have e2 : cmpF b1 b2 a1 a2 = (0, 0) := by rcases cmp_val hb ha with ⟨h, e⟩ | ⟨h, e⟩ | ⟨h, e⟩ <;> first | exact e | omega
    rcases cmp_val hb hc with ⟨hz, e3⟩ | ⟨hz, e3⟩ | ⟨hz, e3⟩
    · have hw0 := cross_lt2 ga gb gc (Int.le_of_eq hx) hz
      rcases cmp_val ha hc with ⟨hw, e4⟩ | ⟨hw, e4⟩ | ⟨hw, e4⟩
      · rcases sub_sign ha hb with hs | ⟨s1, s2, hs, q1, q2⟩
        · exact order_2_3 a1 a2 b1 b2 c1 c2 0 0 w VA VB VC (Lib.hid e1) (Lib.hid e2) (Lib.hid e3) (Lib.hid e4) (by have := vld_eq ha hb hx; simp [this.1, this.2]) (Lib.hid hs)
        · exact order_2_0 a1 a2 b1 b2 c1 c2 s1 s2 w VA VB VC (Lib.hid e1) (Lib.hid e2) (Lib.hid e3) (Lib.hid e4) (by have := vld_eq ha hb hx; simp [this.1, this.2]) (Lib.hid hs) (by rw [decide_eq_false_iff_not]; omega) (by rw [decide_eq_false_iff_not]; omega)
      · omega
      · omega
    · have hw0 := cross_le ga gb gc (Int.le_of_eq hx) (Int.le_of_eq hz)
      have hw1 := cross_le gc gb ga (Int.le_of_eq hz.symm) (Int.le_of_eq hx.symm)
      rcases cmp_val ha hc with ⟨hw, e4⟩ | ⟨hw, e4⟩ | ⟨hw, e4⟩
      · omega
      · rcases sub_sign ha hb with hs | ⟨s1, s2, hs, q1, q2⟩
        · exact order_3_3 a1 a2 b1 b2 c1 c2 0 0 w VA VB VC (Lib.hid e1) (Lib.hid e2) (Lib.hid e3) (Lib.hid e4) (by have := vld_eq ha hb hx; simp [this.1, this.2]) (Lib.hid hs)
        · exact order_3_0 a1 a2 b1 b2 c1 c2 s1 s2 w VA VB VC (Lib.hid e1) (Lib.hid e2) (Lib.hid e3) (Lib.hid e4) (by have := vld_eq ha hb hx; simp [this.1, this.2]) (Lib.hid hs) (by rw [decide_eq_false_iff_not]; omega) (by rw [decide_eq_false_iff_not]; omega)
      · omega
    · have hw0 := cross_lt1 gc gb ga hz (Int.le_of_eq hx.symm)
      rcases cmp_val ha hc with ⟨hw, e4⟩ | ⟨hw, e4⟩ | ⟨hw, e4⟩
      · omega
      · omega
      · rcases sub_sign ha hb with hs | ⟨s1, s2, hs, q1, q2⟩
        · exact order_4_3 a1 a2 b1 b2 c1 c2 0 0 w VA VB VC (Lib.hid e1) (Lib.hid e2) (Lib.hid e3) (Lib.hid e4) (by have := vld_eq ha hb hx; simp [this.1, this.2]) (Lib.hid hs)
        · exact order_4_0 a1 a2 b1 b2 c1 c2 s1 s2 w VA VB VC (Lib.hid e1) (Lib.hid e2) (Lib.hid e3) (Lib.hid e4) (by have := vld_eq ha hb hx; simp [this.1, this.2]) (Lib.hid hs) (by rw [decide_eq_false_iff_not]; omega) (by rw [decide_eq_false_iff_not]; omega)
  · have e2 : cmpF b1 b2 a1 a2 = (-1, 0) := by rcases cmp_val hb ha with ⟨h, e⟩ | ⟨h, e⟩ | ⟨h, e⟩ <;> first | exact e | omega
    rcases cmp_val hb hc with ⟨hz, e3⟩ | ⟨hz, e3⟩ | ⟨hz, e3⟩
    · rcases cmp_val ha hc with ⟨hw, e4⟩ | ⟨hw, e4⟩ | ⟨hw, e4⟩
      · rcases sub_sign ha hb with hs | ⟨s1, s2, hs, q1, q2⟩
        · exact order_10_3 a1 a2 b1 b2 c1 c2 0 0 w VA VB VC (Lib.hid e1) (Lib.hid e2) (Lib.hid e3) (Lib.hid e4) (neq_of_cross (by omega)) (Lib.hid hs)
        · exact order_10_0 a1 a2 b1 b2 c1 c2 s1 s2 w VA VB VC (Lib.hid e1) (Lib.hid e2) (Lib.hid e3) (Lib.hid e4) (neq_of_cross (by omega)) (Lib.hid hs) (by rw [decide_eq_false_iff_not]; omega) (by rw [decide_eq_true_iff]; omega)
      · rcases sub_sign ha hb with hs | ⟨s1, s2, hs, q1, q2⟩
        · exact order_11_3 a1 a2 b1 b2 c1 c2 0 0 w VA VB VC (Lib.hid e1) (Lib.hid e2) (Lib.hid e3) (Lib.hid e4) (neq_of_cross (by omega)) (Lib.hid hs)
        · exact order_11_0 a1 a2 b1 b2 c1 c2 s1 s2 w VA VB VC (Lib.hid e1) (Lib.hid e2) (Lib.hid e3) (Lib.hid e4) (neq_of_cross (by omega)) (Lib.hid hs) (by rw [decide_eq_false_iff_not]; omega) (by rw [decide_eq_true_iff]; omega)
      · rcases sub_sign ha hb with hs | ⟨s1, s2, hs, q1, q2⟩
        · exact order_12_3 a1 a2 b1 b2 c1 c2 0 0 w VA VB VC (Lib.hid e1) (Lib.hid e2) (Lib.hid e3) (Lib.hid e4) (neq_of_cross (by omega)) (Lib.hid hs)
        · exact order_12_0 a1 a2 b1 b2 c1 c2 s1 s2 w VA VB VC (Lib.hid e1) (Lib.hid e2) (Lib.hid e3) (Lib.hid e4) (neq_of_cross (by omega)) (Lib.hid hs) (by rw [decide_eq_false_iff_not]; omega) (by rw [decide_eq_true_iff]; omega)
    · have hw0 := cross_lt2 gc gb ga (Int.le_of_eq hz.symm) hx
      rcases cmp_val ha hc with ⟨hw, e4⟩ | ⟨hw, e4⟩ | ⟨hw, e4⟩
      · omega
      · omega
      · rcases sub_sign ha hb with hs | ⟨s1, s2, hs, q1, q2⟩
        · exact order_5_3 a1 a2 b1 b2 c1 c2 0 0 w VA VB VC (Lib.hid e1) (Lib.hid e2) (Lib.hid e3) (Lib.hid e4) (neq_of_cross (by omega)) (Lib.hid hs)
        · exact order_5_0 a1 a2 b1 b2 c1 c2 s1 s2 w VA VB VC (Lib.hid e1) (Lib.hid e2) (Lib.hid e3) (Lib.hid e4) (neq_of_cross (by omega)) (Lib.hid hs) (by rw [decide_eq_false_iff_not]; omega) (by rw [decide_eq_true_iff]; omega)
    · have hw0 := cross_lt1 gc gb ga hz (Int.le_of_lt hx)
      rcases cmp_val ha hc with ⟨hw, e4⟩ | ⟨hw, e4⟩ | ⟨hw, e4⟩
      · omega
      · omega
      · rcases sub_sign ha hb with hs | ⟨s1, s2, hs, q1, q2⟩
        · exact order_6_3 a1 a2 b1 b2 c1 c2 0 0 w VA VB VC (Lib.hid e1) (Lib.hid e2) (Lib.hid e3) (Lib.hid e4) (neq_of_cross (by omega)) (Lib.hid hs)
        · exact order_6_0 a1 a2 b1 b2 c1 c2 s1 s2 w VA VB VC (Lib.hid e1) (Lib.hid e2) (Lib.hid e3) (Lib.hid e4) (neq_of_cross (by omega)) (Lib.hid hs) (by rw [decide_eq_false_iff_not]; omega) (by rw [decide_eq_true_iff]; omega)

set_option maxHeartbeats 800000 in
set_option maxRecDepth 100000 in
theorem order_bad1 (a1 a2 b1 b2 c1 c2 : Int) (w : World) (VA : Hid (vldB a1 a2 = false)) : Calls Try.prog 7 #[.agg #[.int .i64 a1, .int .i64 a2], .agg #[.int .i64 b1, .int .i64 b2], .agg #[.int .i64 c1, .int .i64 c2]] w (Ret (.bool true) w) := by
  have hb : Below w.heap.size w w := Below.refl _ _
  go_enter Try.func7, Try.ntmps7
  go_wp2_with fail
  refine (head_any _).mono ?_
  rintro e w1 ⟨rfl, hx⟩
  try clear c0_oa c1_oa f0_oa f1_oa z_oa
  first | have oa := (Own.new w _ _).below hx | have oa := ((Own.new w _ _).alloc _).below hx | have oa := (((Own.new w _ _).alloc _).alloc _).below hx | have oa := ((((Own.new w _ _).alloc _).alloc _).alloc _).below hx
  obtain ⟨c0_oa, c1_oa, f0_oa, f1_oa, z_oa⟩ := oa.two
  try clear c0_ob c1_ob f0_ob f1_ob z_ob
  first | have ob := (Own.at (w.alloc _) _ _ (w.heap.size + 1) (by simp)).below hx | have ob := ((Own.at (w.alloc _) _ _ (w.heap.size + 1) (by simp)).alloc _).below hx | have ob := (((Own.at (w.alloc _) _ _ (w.heap.size + 1) (by simp)).alloc _).alloc _).below hx | have ob := ((((Own.at (w.alloc _) _ _ (w.heap.size + 1) (by simp)).alloc _).alloc _).alloc _).below hx
  obtain ⟨c0_ob, c1_ob, f0_ob, f1_ob, z_ob⟩ := ob.two
  try clear c0_oc c1_oc f0_oc f1_oc z_oc
  first | have oc := (Own.at ((w.alloc _).alloc _) _ _ (w.heap.size + 1 + 1) (by simp)).below hx | have oc := ((Own.at ((w.alloc _).alloc _) _ _ (w.heap.size + 1 + 1) (by simp)).alloc _).below hx | have oc := (((Own.at ((w.alloc _).alloc _) _ _ (w.heap.size + 1 + 1) (by simp)).alloc _).alloc _).below hx | have oc := ((((Own.at ((w.alloc _).alloc _) _ _ (w.heap.size + 1 + 1) (by simp)).alloc _).alloc _).alloc _).below hx
  obtain ⟨c0_oc, c1_oc, f0_oc, f1_oc, z_oc⟩ := oc.two
  replace hb : Below w.heap.size w w1 := Below.trans (by (repeat (first | exact Below.refl _ _ | assumption | refine Below.drew ?_ | refine below_drewN ?_ _ | refine Below.setCell ?_ (by first | omega | (simp <;> omega)) _ | refine Below.alloc ?_ (by have := hb.size; first | omega | (simp <;> omega)) _))) (hx.mono (by have := hb.size; first | omega | (simp <;> omega)))
  clear hx
  go_wp2_with fail
  refine (r_valid_at _ _ _ VA.out).mono ?_
  rintro e w2 ⟨rfl, hx⟩
  try clear c0_oa c1_oa f0_oa f1_oa z_oa
  first | replace oa := oa.below hx | replace oa := (oa.alloc _).below hx | replace oa := ((oa.alloc _).alloc _).below hx | replace oa := (((oa.alloc _).alloc _).alloc _).below hx
  obtain ⟨c0_oa, c1_oa, f0_oa, f1_oa, z_oa⟩ := oa.two
  try clear c0_ob c1_ob f0_ob f1_ob z_ob
  first | replace ob := ob.below hx | replace ob := (ob.alloc _).below hx | replace ob := ((ob.alloc _).alloc _).below hx | replace ob := (((ob.alloc _).alloc _).alloc _).below hx
  obtain ⟨c0_ob, c1_ob, f0_ob, f1_ob, z_ob⟩ := ob.two
  try clear c0_oc c1_oc f0_oc f1_oc z_oc
  first | replace oc := oc.below hx | replace oc := (oc.alloc _).below hx | replace oc := ((oc.alloc _).alloc _).below hx | replace oc := (((oc.alloc _).alloc _).alloc _).below hx
  obtain ⟨c0_oc, c1_oc, f0_oc, f1_oc, z_oc⟩ := oc.two
  replace hb : Below w.heap.size w w2 := Below.trans (by (repeat (first | exact Below.refl _ _ | assumption | refine Below.drew ?_ | refine below_drewN ?_ _ | refine Below.setCell ?_ (by first | omega | (simp <;> omega)) _ | refine Below.alloc ?_ (by have := hb.size; first | omega | (simp <;> omega)) _))) (hx.mono (by have := hb.size; first | omega | (simp <;> omega)))
  clear hx
  go_wp2_with fail
  go_ret
  exact Ret.mk rfl hb

set_option maxHeartbeats 800000 in
set_option maxRecDepth 100000 in
theorem order_bad2 (a1 a2 b1 b2 c1 c2 : Int) (w : World) (VA : Hid (vldB a1 a2 = true)) (VB : Hid (vldB b1 b2 = false)) : Calls Try.prog 7 #[.agg #[.int .i64 a1, .int .i64 a2], .agg #[.int .i64 b1, .int .i64 b2], .agg #[.int .i64 c1, .int .i64 c2]] w (Ret (.bool true) w) := by
  have hb : Below w.heap.size w w := Below.refl _ _
  go_enter Try.func7, Try.ntmps7
  go_wp2_with fail
  refine (head_any _).mono ?_
  rintro e w1 ⟨rfl, hx⟩
  try clear c0_oa c1_oa f0_oa f1_oa z_oa
  first | have oa := (Own.new w _ _).below hx | have oa := ((Own.new w _ _).alloc _).below hx | have oa := (((Own.new w _ _).alloc _).alloc _).below hx | have oa := ((((Own.new w _ _).alloc _).alloc _).alloc _).below hx
  obtain ⟨c0_oa, c1_oa, f0_oa, f1_oa, z_oa⟩ := oa.two
  try clear c0_ob c1_ob f0_ob f1_ob z_ob
  first | have ob := (Own.at (w.alloc _) _ _ (w.heap.size + 1) (by simp)).below hx | have ob := ((Own.at (w.alloc _) _ _ (w.heap.size + 1) (by simp)).alloc _).below hx | have ob := (((Own.at (w.alloc _) _ _ (w.heap.size + 1) (by simp)).alloc _).alloc _).below hx | have ob := ((((Own.at (w.alloc _) _ _ (w.heap.size + 1) (by simp)).alloc _).alloc _).alloc _).below hx
  obtain ⟨c0_ob, c1_ob, f0_ob, f1_ob, z_ob⟩ := ob.two
  try clear c0_oc c1_oc f0_oc f1_oc z_oc
  first | have oc := (Own.at ((w.alloc _).alloc _) _ _ (w.heap.size + 1 + 1) (by simp)).below hx | have oc := ((Own.at ((w.alloc _).alloc _) _ _ (w.heap.size + 1 + 1) (by simp)).alloc _).below hx | have oc := (((Own.at ((w.alloc _).alloc _) _ _ (w.heap.size + 1 + 1) (by simp)).alloc _).alloc _).below hx | have oc := ((((Own.at ((w.alloc _).alloc _) _ _ (w.heap.size + 1 + 1) (by simp)).alloc _).alloc _).alloc _).below hx
  obtain ⟨c0_oc, c1_oc, f0_oc, f1_oc, z_oc⟩ := oc.two
  replace hb : Below w.heap.size w w1 := Below.trans (by (repeat (first | exact Below.refl _ _ | assumption | refine Below.drew ?_ | refine below_drewN ?_ _ | refine Below.setCell ?_ (by first | omega | (simp <;> omega)) _ | refine Below.alloc ?_ (by have := hb.size; first | omega | (simp <;> omega)) _))) (hx.mono (by have := hb.size; first | omega | (simp <;> omega)))
  clear hx
  go_wp2_with fail
  refine (r_valid_at _ _ _ VA.out).mono ?_
  rintro e w2 ⟨rfl, hx⟩
  try clear c0_oa c1_oa f0_oa f1_oa z_oa
  first | replace oa := oa.below hx | replace oa := (oa.alloc _).below hx | replace oa := ((oa.alloc _).alloc _).below hx | replace oa := (((oa.alloc _).alloc _).alloc _).below hx
  obtain ⟨c0_oa, c1_oa, f0_oa, f1_oa, z_oa⟩ := oa.two
  try clear c0_ob c1_ob f0_ob f1_ob z_ob
  first | replace ob := ob.below hx | replace ob := (ob.alloc _).below hx | replace ob := ((ob.alloc _).alloc _).below hx | replace ob := (((ob.alloc _).alloc _).alloc _).below hx
  obtain ⟨c0_ob, c1_ob, f0_ob, f1_ob, z_ob⟩ := ob.two
  try clear c0_oc c1_oc f0_oc f1_oc z_oc
  first | replace oc := oc.below hx | replace oc := (oc.alloc _).below hx | replace oc := ((oc.alloc _).alloc _).below hx | replace oc := (((oc.alloc _).alloc _).alloc _).below hx
  obtain ⟨c0_oc, c1_oc, f0_oc, f1_oc, z_oc⟩ := oc.two
  replace hb : Below w.heap.size w w2 := Below.trans (by (repeat (first | exact Below.refl _ _ | assumption | refine Below.drew ?_ | refine below_drewN ?_ _ | refine Below.setCell ?_ (by first | omega | (simp <;> omega)) _ | refine Below.alloc ?_ (by have := hb.size; first | omega | (simp <;> omega)) _))) (hx.mono (by have := hb.size; first | omega | (simp <;> omega)))
  clear hx
  go_wp2_with fail
  refine (r_valid_at _ _ _ VB.out).mono ?_
  rintro e w3 ⟨rfl, hx⟩
  try clear c0_oa c1_oa f0_oa f1_oa z_oa
  first | replace oa := oa.below hx | replace oa := (oa.alloc _).below hx | replace oa := ((oa.alloc _).alloc _).below hx | replace oa := (((oa.alloc _).alloc _).alloc _).below hx
  obtain ⟨c0_oa, c1_oa, f0_oa, f1_oa, z_oa⟩ := oa.two
  try clear c0_ob c1_ob f0_ob f1_ob z_ob
  first | replace ob := ob.below hx | replace ob := (ob.alloc _).below hx | replace ob := ((ob.alloc _).alloc _).below hx | replace ob := (((ob.alloc _).alloc _).alloc _).below hx
  obtain ⟨c0_ob, c1_ob, f0_ob, f1_ob, z_ob⟩ := ob.two
  try clear c0_oc c1_oc f0_oc f1_oc z_oc
  first | replace oc := oc.below hx | replace oc := (oc.alloc _).below hx | replace oc := ((oc.alloc _).alloc _).below hx | replace oc := (((oc.alloc _).alloc _).alloc _).below hx
  obtain ⟨c0_oc, c1_oc, f0_oc, f1_oc, z_oc⟩ := oc.two
  replace hb : Below w.heap.size w w3 := Below.trans (by (repeat (first | exact Below.refl _ _ | assumption | refine Below.drew ?_ | refine below_drewN ?_ _ | refine Below.setCell ?_ (by first | omega | (simp <;> omega)) _ | refine Below.alloc ?_ (by have := hb.size; first | omega | (simp <;> omega)) _))) (hx.mono (by have := hb.size; first | omega | (simp <;> omega)))
  clear hx
  go_wp2_with fail
  go_ret
  exact Ret.mk rfl hb

set_option maxHeartbeats 800000 in
set_option maxRecDepth 100000 in
theorem order_bad3 (a1 a2 b1 b2 c1 c2 : Int) (w : World) (VA : Hid (vldB a1 a2 = true)) (VB : Hid (vldB b1 b2 = true)) (VC : Hid (vldB c1 c2 = false)) : Calls Try.prog 7 #[.agg #[.int .i64 a1, .int .i64 a2], .agg #[.int .i64 b1, .int .i64 b2], .agg #[.int .i64 c1, .int .i64 c2]] w (Ret (.bool true) w) := by
  have hb : Below w.heap.size w w := Below.refl _ _
  go_enter Try.func7, Try.ntmps7
  go_wp2_with fail
  refine (head_any _).mono ?_
  rintro e w1 ⟨rfl, hx⟩
  try clear c0_oa c1_oa f0_oa f1_oa z_oa
  first | have oa := (Own.new w _ _).below hx | have oa := ((Own.new w _ _).alloc _).below hx | have oa := (((Own.new w _ _).alloc _).alloc _).below hx | have oa := ((((Own.new w _ _).alloc _).alloc _).alloc _).below hx
  obtain ⟨c0_oa, c1_oa, f0_oa, f1_oa, z_oa⟩ := oa.two
  try clear c0_ob c1_ob f0_ob f1_ob z_ob
  first | have ob := (Own.at (w.alloc _) _ _ (w.heap.size + 1) (by simp)).below hx | have ob := ((Own.at (w.alloc _) _ _ (w.heap.size + 1) (by simp)).alloc _).below hx | have ob := (((Own.at (w.alloc _) _ _ (w.heap.size + 1) (by simp)).alloc _).alloc _).below hx | have ob := ((((Own.at (w.alloc _) _ _ (w.heap.size + 1) (by simp)).alloc _).alloc _).alloc _).below hx
  obtain ⟨c0_ob, c1_ob, f0_ob, f1_ob, z_ob⟩ := ob.two
  try clear c0_oc c1_oc f0_oc f1_oc z_oc
  first | have oc := (Own.at ((w.alloc _).alloc _) _ _ (w.heap.size + 1 + 1) (by simp)).below hx | have oc := ((Own.at ((w.alloc _).alloc _) _ _ (w.heap.size + 1 + 1) (by simp)).alloc _).below hx | have oc := (((Own.at ((w.alloc _).alloc _) _ _ (w.heap.size + 1 + 1) (by simp)).alloc _).alloc _).below hx | have oc := ((((Own.at ((w.alloc _).alloc _) _ _ (w.heap.size + 1 + 1) (by simp)).alloc _).alloc _).alloc _).below hx
  obtain ⟨c0_oc, c1_oc, f0_oc, f1_oc, z_oc⟩ := oc.two
  replace hb : Below w.heap.size w w1 := Below.trans (by (repeat (first | exact Below.refl _ _ | assumption | refine Below.drew ?_ | refine below_drewN ?_ _ | refine Below.setCell ?_ (by first | omega | (simp <;> omega)) _ | refine Below.alloc ?_ (by have := hb.size; first | omega | (simp <;> omega)) _))) (hx.mono (by have := hb.size; first | omega | (simp <;> omega)))
  clear hx
  go_wp2_with fail
  refine (r_valid_at _ _ _ VA.out).mono ?_
  rintro e w2 ⟨rfl, hx⟩
  try clear c0_oa c1_oa f0_oa f1_oa z_oa
  first | replace oa := oa.below hx | replace oa := (oa.alloc _).below hx | replace oa := ((oa.alloc _).alloc _).below hx | replace oa := (((oa.alloc _).alloc _).alloc _).below hx
  obtain ⟨c0_oa, c1_oa, f0_oa, f1_oa, z_oa⟩ := oa.two
  try clear c0_ob c1_ob f0_ob f1_ob z_ob
  first | replace ob := ob.below hx | replace ob := (ob.alloc _).below hx | replace ob := ((ob.alloc _).alloc _).below hx | replace ob := (((ob.alloc _).alloc _).alloc _).below hx
  obtain ⟨c0_ob, c1_ob, f0_ob, f1_ob, z_ob⟩ := ob.two
  try clear c0_oc c1_oc f0_oc f1_oc z_oc
  first | replace oc := oc.below hx | replace oc := (oc.alloc _).below hx | replace oc := ((oc.alloc _).alloc _).below hx | replace oc := (((oc.alloc _).alloc _).alloc _).below hx
  obtain ⟨c0_oc, c1_oc, f0_oc, f1_oc, z_oc⟩ := oc.two
  replace hb : Below w.heap.size w w2 := Below.trans (by (repeat (first | exact Below.refl _ _ | assumption | refine Below.drew ?_ | refine below_drewN ?_ _ | refine Below.setCell ?_ (by first | omega | (simp <;> omega)) _ | refine Below.alloc ?_ (by have := hb.size; first | omega | (simp <;> omega)) _))) (hx.mono (by have := hb.size; first | omega | (simp <;> omega)))
  clear hx
  go_wp2_with fail
  refine (r_valid_at _ _ _ VB.out).mono ?_
  rintro e w3 ⟨rfl, hx⟩
  try clear c0_oa c1_oa f0_oa f1_oa z_oa
  first | replace oa := oa.below hx | replace oa := (oa.alloc _).below hx | replace oa := ((oa.alloc _).alloc _).below hx | replace oa := (((oa.alloc _).alloc _).alloc _).below hx
  obtain ⟨c0_oa, c1_oa, f0_oa, f1_oa, z_oa⟩ := oa.two
  try clear c0_ob c1_ob f0_ob f1_ob z_ob
  first | replace ob := ob.below hx | replace ob := (ob.alloc _).below hx | replace ob := ((ob.alloc _).alloc _).below hx | replace ob := (((ob.alloc _).alloc _).alloc _).below hx
  obtain ⟨c0_ob, c1_ob, f0_ob, f1_ob, z_ob⟩ := ob.two
  try clear c0_oc c1_oc f0_oc f1_oc z_oc
  first | replace oc := oc.below hx | replace oc := (oc.alloc _).below hx | replace oc := ((oc.alloc _).alloc _).below hx | replace oc := (((oc.alloc _).alloc _).alloc _).below hx
  obtain ⟨c0_oc, c1_oc, f0_oc, f1_oc, z_oc⟩ := oc.two
  replace hb : Below w.heap.size w w3 := Below.trans (by (repeat (first | exact Below.refl _ _ | assumption | refine Below.drew ?_ | refine below_drewN ?_ _ | refine Below.setCell ?_ (by first | omega | (simp <;> omega)) _ | refine Below.alloc ?_ (by have := hb.size; first | omega | (simp <;> omega)) _))) (hx.mono (by have := hb.size; first | omega | (simp <;> omega)))
  clear hx
  go_wp2_with fail
  refine (r_valid_at _ _ _ VC.out).mono ?_
  rintro e w4 ⟨rfl, hx⟩
  try clear c0_oa c1_oa f0_oa f1_oa z_oa
  first | replace oa := oa.below hx | replace oa := (oa.alloc _).below hx | replace oa := ((oa.alloc _).alloc _).below hx | replace oa := (((oa.alloc _).alloc _).alloc _).below hx
  obtain ⟨c0_oa, c1_oa, f0_oa, f1_oa, z_oa⟩ := oa.two
  try clear c0_ob c1_ob f0_ob f1_ob z_ob
  first | replace ob := ob.below hx | replace ob := (ob.alloc _).below hx | replace ob := ((ob.alloc _).alloc _).below hx | replace ob := (((ob.alloc _).alloc _).alloc _).below hx
  obtain ⟨c0_ob, c1_ob, f0_ob, f1_ob, z_ob⟩ := ob.two
  try clear c0_oc c1_oc f0_oc f1_oc z_oc
  first | replace oc := oc.below hx | replace oc := (oc.alloc _).below hx | replace oc := ((oc.alloc _).alloc _).below hx | replace oc := (((oc.alloc _).alloc _).alloc _).below hx
  obtain ⟨c0_oc, c1_oc, f0_oc, f1_oc, z_oc⟩ := oc.two
  replace hb : Below w.heap.size w w4 := Below.trans (by (repeat (first | exact Below.refl _ _ | assumption | refine Below.drew ?_ | refine below_drewN ?_ _ | refine Below.setCell ?_ (by first | omega | (simp <;> omega)) _ | refine Below.alloc ?_ (by have := hb.size; first | omega | (simp <;> omega)) _))) (hx.mono (by have := hb.size; first | omega | (simp <;> omega)))
  clear hx
  go_wp2_with fail
  go_ret
  exact Ret.mk rfl hb

theorem walkOrder (a1 a2 b1 b2 c1 c2 : Int) (_ : (Lit.int .i64 a1).wf = true) (_ : (Lit.int .i64 a2).wf = true) (_ : (Lit.int .i64 b1).wf = true) (_ : (Lit.int .i64 b2).wf = true) (_ : (Lit.int .i64 c1).wf = true) (_ : (Lit.int .i64 c2).wf = true) (w : World) : Calls Try.prog 7 #[.agg #[.int .i64 a1, .int .i64 a2], .agg #[.int .i64 b1, .int .i64 b2], .agg #[.int .i64 c1, .int .i64 c2]] w (Ret (.bool true) w) := by
  cases ha : vldB a1 a2 with
  | false => exact order_bad1 a1 a2 b1 b2 c1 c2 w (Lib.hid ha)
  | true =>
    cases hb : vldB b1 b2 with
    | false => exact order_bad2 a1 a2 b1 b2 c1 c2 w (Lib.hid ha) (Lib.hid hb)
    | true =>
      cases hc : vldB c1 c2 with
      | false => exact order_bad3 a1 a2 b1 b2 c1 c2 w (Lib.hid ha) (Lib.hid hb) (Lib.hid hc)
      | true => exact order_ok a1 a2 b1 b2 c1 c2 w ha hb hc

theorem own_ratioOrder : ownKnob Try.prog.godebug = none := by kernel_rfl
theorem laid_ratioOrder : laidOutB Try.prog = true := by kernel_rfl

set_option maxRecDepth 100000 in
theorem lifted_ratioOrder (os : Os) (started : os.Started) (H : Type) (enc : TypeId × Value → H) :
    ReturnsInHanded {} Try.checked os 7 .any (Rows.ratioOrderSpec.pre6 enc Try.prog Try.f7 Rows.ratioOrderRow.domain false) (Rows.ratioOrderSpec.post enc Try.prog Try.f7 false true false false) := by
  refine returnsInHanded_of_change (C := Try.checked) own_ratioOrder started (by kernel_rfl) Try.func7
    (ChangeSpec.witness6 (enc := enc) (C := Try.checked) false ⟨#[], #[.agg #[.int .i64 0, .int .i64 0], .agg #[.int .i64 0, .int .i64 0], .agg #[.int .i64 0, .int .i64 0]], []⟩ 8 (by kernel_rfl) (by kernel_rfl) (by kernel_rfl) (by kernel_rfl)) ?_
  intro W base args ds gs before hval0 hW hcnd _
  have hval : ∀ (j : Nat) t v, Try.f7.params[j]? = some t → args[j]? = some v → Value.okWide Try.prog W .any base t v := hval0
  have hW' := hW
  obtain ⟨p, q, hA0, hV, rfl, hfz, hnd⟩ := hW
  have hA : DataW.TrodAll enc Try.prog W 0 (fun _ => true) true Try.f7.params.toList args.toList ds p := hA0
  rw [Try.params7] at hA hval
  obtain ⟨v0, vs0, d0, ds0, p0, q0, hargs, rfl, rfl, h0, r0⟩ := trodAll_cons hA
  obtain ⟨v1, vs1, d1, ds1, p1, q1, rfl, rfl, rfl, h1, r1⟩ := trodAll_cons r0
  obtain ⟨v2, vs2, d2, ds2, p2, q2, rfl, rfl, rfl, h2, r2⟩ := trodAll_cons r1
  obtain ⟨rfl, rfl, rfl⟩ := trodAll_nil r2
  obtain rfl : args = #[v0, v1, v2] := by cases args; simp_all
  obtain ⟨rfl, rfl⟩ := trodVars_none hV
  have k0 := h0
  have lt0 : ∀ x ∈ p0, x.block < W.heap.size := by obtain ⟨m, hm⟩ := k0; exact DataW.trod_lt m _ _ _ hm
  have cells0 : Try.prog.cellsOf 23 = 2 := by kernel_rfl
  obtain ⟨c00, c01, y00, y01, m0, rfl, _, _, hy00, hy01⟩ := open_agg2 Try.underlying23 (by kernel_rfl) cells0 (hval 0 23 v0 rfl rfl) h0
  obtain ⟨a00, e00, _, w00⟩ := DataW.trod_int Try.underlying3 hy00
  simp at e00
  subst e00
  obtain ⟨a01, e01, _, w01⟩ := DataW.trod_int Try.underlying3 hy01
  simp at e01
  subst e01
  have k1 := h1
  have lt1 : ∀ x ∈ p1, x.block < W.heap.size := by obtain ⟨m, hm⟩ := k1; exact DataW.trod_lt m _ _ _ hm
  have cells1 : Try.prog.cellsOf 23 = 2 := by kernel_rfl
  obtain ⟨c10, c11, y10, y11, m1, rfl, _, _, hy10, hy11⟩ := open_agg2 Try.underlying23 (by kernel_rfl) cells1 (hval 1 23 v1 rfl rfl) h1
  obtain ⟨a10, e10, _, w10⟩ := DataW.trod_int Try.underlying3 hy10
  simp at e10
  subst e10
  obtain ⟨a11, e11, _, w11⟩ := DataW.trod_int Try.underlying3 hy11
  simp at e11
  subst e11
  have k2 := h2
  have lt2 : ∀ x ∈ p2, x.block < W.heap.size := by obtain ⟨m, hm⟩ := k2; exact DataW.trod_lt m _ _ _ hm
  have cells2 : Try.prog.cellsOf 23 = 2 := by kernel_rfl
  obtain ⟨c20, c21, y20, y21, m2, rfl, _, _, hy20, hy21⟩ := open_agg2 Try.underlying23 (by kernel_rfl) cells2 (hval 2 23 v2 rfl rfl) h2
  obtain ⟨a20, e20, _, w20⟩ := DataW.trod_int Try.underlying3 hy20
  simp at e20
  subst e20
  obtain ⟨a21, e21, _, w21⟩ := DataW.trod_int Try.underlying3 hy21
  simp at e21
  subst e21
  clear hA0 hval0
  refine (walkOrder a00 a01 a10 a11 a20 a21 w00 w01 w10 w11 w20 w21 W).mono fun e W' ⟨he, bel⟩ => ?_
  subst he
  exact ⟨_, rfl, _, _, _, [], _, [], hW', trodAll_mk1 (shut_bool Try.underlying4 _), (trodAll_cons_mk (Below.trod laid_ratioOrder (by kernel_rfl) (of_decide_eq_true (by kernel_rfl)) k0 bel lt0) (trodAll_cons_mk (Below.trod laid_ratioOrder (by kernel_rfl) (of_decide_eq_true (by kernel_rfl)) k1 bel lt1) (trodAll_cons_mk (Below.trod laid_ratioOrder (by kernel_rfl) (of_decide_eq_true (by kernel_rfl)) k2 bel lt2) trodAll_mk0))), rfl, bel.frame _, fun h => by cases h⟩

/-- The given statement. -/
theorem ratioOrder_holds : Rows.RatioOrderSaid :=
  OpenClaim.holds_of_wide 7 Try.f7 rfl rfl rfl rfl rfl rfl rfl ⟨rfl, rfl, rfl, rfl, rfl⟩ rfl rfl rfl rfl rfl (by kernel_rfl) Try.func7 (by kernel_rfl)
    (of_decide_eq_true (by kernel_rfl)) (by unfold Func.isWrapper; first | (rw [if_pos (by decide +kernel)]; kernel_rfl) | (rw [if_neg (by decide +kernel)]; exact ⟨rfl, rfl⟩))
    (fun os started H enc _ => lifted_ratioOrder os started H enc)
end Go.Proofs.Ytojjjbhkpcmooaa
