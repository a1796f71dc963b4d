/-
  RatioMakes: what Make returns is valid, and the same for the same fraction with any factor; a valid ratio is made of its own numbers. No conditions: for every input.
-/
import Derived.Test.YtojjjbhkpcmooaaLaw01At
namespace Go.Proofs.Ytojjjbhkpcmooaa
open Go.ChangeShapes Go.WideShapes Go.ChangeAt Go.RowKit Go.Joins
set_option linter.unusedVariables false

set_option maxHeartbeats 1600000 in
set_option maxRecDepth 100000 in
theorem makes_v_d0 (n d k a1 a2 : Int) (n1 : -2147483648 ≤ n) (n2 : n ≤ 2147483647) (d1 : -2147483648 ≤ d) (d2 : d ≤ 2147483647) (k1 : -32768 ≤ k) (k2 : k ≤ 32767) (VA : Hid (vldB a1 a2 = true)) (MA : Hid (mkF a1 a2 = (a1, a2, 0))) (e0 : (d == 0) = true) (w : World) : Calls Try.prog 4 #[.int .i32 n, .int .i32 d, .int .i16 k, .agg #[.int .i64 a1, .int .i64 a2]] w (Ret (.bool true) w) := by
  have hb : Below w.heap.size w w := Below.refl _ _
  have he := eql_rat
  have hn := neq_rat
  go_enter Try.func4, Try.ntmps4
  go_wp2_with fail
  refine (head_any _).mono ?_
  rintro e w1 ⟨rfl, hx⟩
  try clear c0_oa c1_oa f0_oa f1_oa z_oa
  first | have oa := (Own.new w _ _).below hx | have oa := ((Own.new w _ _).alloc _).below hx | have oa := (((Own.new w _ _).alloc _).alloc _).below hx | have oa := ((((Own.new w _ _).alloc _).alloc _).alloc _).below hx
  obtain ⟨c0_oa, c1_oa, f0_oa, f1_oa, z_oa⟩ := oa.two
  replace hb : Below w.heap.size w w1 := Below.trans (by (repeat (first | exact Below.refl _ _ | assumption | refine Below.drew ?_ | refine below_drewN ?_ _ | refine Below.setCell ?_ (by first | omega | (simp <;> omega)) _ | refine Below.alloc ?_ (by have := hb.size; first | omega | (simp <;> omega)) _))) (hx.mono (by have := hb.size; first | omega | (simp <;> omega)))
  clear hx
  go_wp2_with fail
  refine (r_valid_at _ _ _ VA.out).mono ?_
  rintro e w2 ⟨rfl, hx⟩
  try clear c0_oa c1_oa f0_oa f1_oa z_oa
  first | replace oa := oa.below hx | replace oa := (oa.alloc _).below hx | replace oa := ((oa.alloc _).alloc _).below hx | replace oa := (((oa.alloc _).alloc _).alloc _).below hx
  obtain ⟨c0_oa, c1_oa, f0_oa, f1_oa, z_oa⟩ := oa.two
  replace hb : Below w.heap.size w w2 := Below.trans (by (repeat (first | exact Below.refl _ _ | assumption | refine Below.drew ?_ | refine below_drewN ?_ _ | refine Below.setCell ?_ (by first | omega | (simp <;> omega)) _ | refine Below.alloc ?_ (by have := hb.size; first | omega | (simp <;> omega)) _))) (hx.mono (by have := hb.size; first | omega | (simp <;> omega)))
  clear hx
  go_wp2_with fail
  refine (make_at MA.out).mono ?_
  rintro e w3 ⟨rfl, hx⟩
  try clear c0_oa c1_oa f0_oa f1_oa z_oa
  first | replace oa := oa.below hx | replace oa := (oa.alloc _).below hx | replace oa := ((oa.alloc _).alloc _).below hx | replace oa := (((oa.alloc _).alloc _).alloc _).below hx
  obtain ⟨c0_oa, c1_oa, f0_oa, f1_oa, z_oa⟩ := oa.two
  replace hb : Below w.heap.size w w3 := Below.trans (by (repeat (first | exact Below.refl _ _ | assumption | refine Below.drew ?_ | refine below_drewN ?_ _ | refine Below.setCell ?_ (by first | omega | (simp <;> omega)) _ | refine Below.alloc ?_ (by have := hb.size; first | omega | (simp <;> omega)) _))) (hx.mono (by have := hb.size; first | omega | (simp <;> omega)))
  clear hx
  go_wp2_with fail
  go_ret
  exact Ret.mk rfl (by (have hbs := hb.size; repeat (first | exact Below.refl _ _ | assumption | refine Below.drew ?_ | refine below_drewN ?_ _ | refine Below.setCell ?_ (by first | omega | (simp <;> omega)) _ | refine Below.alloc ?_ (by first | omega | (simp <;> omega)) _)))

set_option maxHeartbeats 1600000 in
set_option maxRecDepth 100000 in
theorem makes_v_k0 (n d k a1 a2 : Int) (n1 : -2147483648 ≤ n) (n2 : n ≤ 2147483647) (d1 : -2147483648 ≤ d) (d2 : d ≤ 2147483647) (k1 : -32768 ≤ k) (k2 : k ≤ 32767) (VA : Hid (vldB a1 a2 = true)) (MA : Hid (mkF a1 a2 = (a1, a2, 0))) (e0 : (d == 0) = false) (e1 : (k == 0) = true) (w : World) : Calls Try.prog 4 #[.int .i32 n, .int .i32 d, .int .i16 k, .agg #[.int .i64 a1, .int .i64 a2]] w (Ret (.bool true) w) := by
  have hb : Below w.heap.size w w := Below.refl _ _
  have he := eql_rat
  have hn := neq_rat
  go_enter Try.func4, Try.ntmps4
  go_wp2_with fail
  refine (head_any _).mono ?_
  rintro e w1 ⟨rfl, hx⟩
  try clear c0_oa c1_oa f0_oa f1_oa z_oa
  first | have oa := (Own.new w _ _).below hx | have oa := ((Own.new w _ _).alloc _).below hx | have oa := (((Own.new w _ _).alloc _).alloc _).below hx | have oa := ((((Own.new w _ _).alloc _).alloc _).alloc _).below hx
  obtain ⟨c0_oa, c1_oa, f0_oa, f1_oa, z_oa⟩ := oa.two
  replace hb : Below w.heap.size w w1 := Below.trans (by (repeat (first | exact Below.refl _ _ | assumption | refine Below.drew ?_ | refine below_drewN ?_ _ | refine Below.setCell ?_ (by first | omega | (simp <;> omega)) _ | refine Below.alloc ?_ (by have := hb.size; first | omega | (simp <;> omega)) _))) (hx.mono (by have := hb.size; first | omega | (simp <;> omega)))
  clear hx
  go_wp2_with fail
  refine (r_valid_at _ _ _ VA.out).mono ?_
  rintro e w2 ⟨rfl, hx⟩
  try clear c0_oa c1_oa f0_oa f1_oa z_oa
  first | replace oa := oa.below hx | replace oa := (oa.alloc _).below hx | replace oa := ((oa.alloc _).alloc _).below hx | replace oa := (((oa.alloc _).alloc _).alloc _).below hx
  obtain ⟨c0_oa, c1_oa, f0_oa, f1_oa, z_oa⟩ := oa.two
  replace hb : Below w.heap.size w w2 := Below.trans (by (repeat (first | exact Below.refl _ _ | assumption | refine Below.drew ?_ | refine below_drewN ?_ _ | refine Below.setCell ?_ (by first | omega | (simp <;> omega)) _ | refine Below.alloc ?_ (by have := hb.size; first | omega | (simp <;> omega)) _))) (hx.mono (by have := hb.size; first | omega | (simp <;> omega)))
  clear hx
  go_wp2_with fail
  refine (make_at MA.out).mono ?_
  rintro e w3 ⟨rfl, hx⟩
  try clear c0_oa c1_oa f0_oa f1_oa z_oa
  first | replace oa := oa.below hx | replace oa := (oa.alloc _).below hx | replace oa := ((oa.alloc _).alloc _).below hx | replace oa := (((oa.alloc _).alloc _).alloc _).below hx
  obtain ⟨c0_oa, c1_oa, f0_oa, f1_oa, z_oa⟩ := oa.two
  replace hb : Below w.heap.size w w3 := Below.trans (by (repeat (first | exact Below.refl _ _ | assumption | refine Below.drew ?_ | refine below_drewN ?_ _ | refine Below.setCell ?_ (by first | omega | (simp <;> omega)) _ | refine Below.alloc ?_ (by have := hb.size; first | omega | (simp <;> omega)) _))) (hx.mono (by have := hb.size; first | omega | (simp <;> omega)))
  clear hx
  go_wp2_with fail
  go_ret
  exact Ret.mk rfl (by (have hbs := hb.size; repeat (first | exact Below.refl _ _ | assumption | refine Below.drew ?_ | refine below_drewN ?_ _ | refine Below.setCell ?_ (by first | omega | (simp <;> omega)) _ | refine Below.alloc ?_ (by first | omega | (simp <;> omega)) _)))

set_option maxHeartbeats 1600000 in
set_option maxRecDepth 100000 in
theorem makes_v_r (n d k a1 a2 : Int) (n1 : -2147483648 ≤ n) (n2 : n ≤ 2147483647) (d1 : -2147483648 ≤ d) (d2 : d ≤ 2147483647) (k1 : -32768 ≤ k) (k2 : k ≤ 32767) (VA : Hid (vldB a1 a2 = true)) (MA : Hid (mkF a1 a2 = (a1, a2, 0))) (p1 : -70368744177664 ≤ n * k) (p2 : n * k ≤ 70368744177664) (p3 : -70368744177664 ≤ d * k) (p4 : d * k ≤ 70368744177664) (e0 : (d == 0) = false) (e1 : (k == 0) = false) (M1 : Hid (mkF n d = (0, 0, 3))) (M2 : Hid (mkF (n * k) (d * k) = (0, 0, 3))) (w : World) : Calls Try.prog 4 #[.int .i32 n, .int .i32 d, .int .i16 k, .agg #[.int .i64 a1, .int .i64 a2]] w (Ret (.bool true) w) := by
  have hb : Below w.heap.size w w := Below.refl _ _
  have he := eql_rat
  have hn := neq_rat
  go_enter Try.func4, Try.ntmps4
  go_wp2_with fail
  refine (head_any _).mono ?_
  rintro e w1 ⟨rfl, hx⟩
  try clear c0_oa c1_oa f0_oa f1_oa z_oa
  first | have oa := (Own.new w _ _).below hx | have oa := ((Own.new w _ _).alloc _).below hx | have oa := (((Own.new w _ _).alloc _).alloc _).below hx | have oa := ((((Own.new w _ _).alloc _).alloc _).alloc _).below hx
  obtain ⟨c0_oa, c1_oa, f0_oa, f1_oa, z_oa⟩ := oa.two
  replace hb : Below w.heap.size w w1 := Below.trans (by (repeat (first | exact Below.refl _ _ | assumption | refine Below.drew ?_ | refine below_drewN ?_ _ | refine Below.setCell ?_ (by first | omega | (simp <;> omega)) _ | refine Below.alloc ?_ (by have := hb.size; first | omega | (simp <;> omega)) _))) (hx.mono (by have := hb.size; first | omega | (simp <;> omega)))
  clear hx
  go_wp2_with fail
  refine (r_valid_at _ _ _ VA.out).mono ?_
  rintro e w2 ⟨rfl, hx⟩
  try clear c0_oa c1_oa f0_oa f1_oa z_oa
  first | replace oa := oa.below hx | replace oa := (oa.alloc _).below hx | replace oa := ((oa.alloc _).alloc _).below hx | replace oa := (((oa.alloc _).alloc _).alloc _).below hx
  obtain ⟨c0_oa, c1_oa, f0_oa, f1_oa, z_oa⟩ := oa.two
  replace hb : Below w.heap.size w w2 := Below.trans (by (repeat (first | exact Below.refl _ _ | assumption | refine Below.drew ?_ | refine below_drewN ?_ _ | refine Below.setCell ?_ (by first | omega | (simp <;> omega)) _ | refine Below.alloc ?_ (by have := hb.size; first | omega | (simp <;> omega)) _))) (hx.mono (by have := hb.size; first | omega | (simp <;> omega)))
  clear hx
  go_wp2_with fail
  refine (make_at MA.out).mono ?_
  rintro e w3 ⟨rfl, hx⟩
  try clear c0_oa c1_oa f0_oa f1_oa z_oa
  first | replace oa := oa.below hx | replace oa := (oa.alloc _).below hx | replace oa := ((oa.alloc _).alloc _).below hx | replace oa := (((oa.alloc _).alloc _).alloc _).below hx
  obtain ⟨c0_oa, c1_oa, f0_oa, f1_oa, z_oa⟩ := oa.two
  replace hb : Below w.heap.size w w3 := Below.trans (by (repeat (first | exact Below.refl _ _ | assumption | refine Below.drew ?_ | refine below_drewN ?_ _ | refine Below.setCell ?_ (by first | omega | (simp <;> omega)) _ | refine Below.alloc ?_ (by have := hb.size; first | omega | (simp <;> omega)) _))) (hx.mono (by have := hb.size; first | omega | (simp <;> omega)))
  clear hx
  go_wp2_with fail
  refine (make_at M1.out).mono ?_
  rintro e w4 ⟨rfl, hx⟩
  try clear c0_oa c1_oa f0_oa f1_oa z_oa
  first | replace oa := oa.below hx | replace oa := (oa.alloc _).below hx | replace oa := ((oa.alloc _).alloc _).below hx | replace oa := (((oa.alloc _).alloc _).alloc _).below hx
  obtain ⟨c0_oa, c1_oa, f0_oa, f1_oa, z_oa⟩ := oa.two
  try clear c0_oo c1_oo f0_oo f1_oo z_oo
  first | have oo := (Own.new w3 _ _).below hx | have oo := ((Own.new w3 _ _).alloc _).below hx | have oo := (((Own.new w3 _ _).alloc _).alloc _).below hx | have oo := ((((Own.new w3 _ _).alloc _).alloc _).alloc _).below hx
  obtain ⟨c0_oo, c1_oo, f0_oo, f1_oo, z_oo⟩ := oo.two
  replace hb : Below w.heap.size w w4 := Below.trans (by (repeat (first | exact Below.refl _ _ | assumption | refine Below.drew ?_ | refine below_drewN ?_ _ | refine Below.setCell ?_ (by first | omega | (simp <;> omega)) _ | refine Below.alloc ?_ (by have := hb.size; first | omega | (simp <;> omega)) _))) (hx.mono (by have := hb.size; first | omega | (simp <;> omega)))
  clear hx
  go_wp2_with fail
  refine (make_at M2.out).mono ?_
  rintro e w5 ⟨rfl, hx⟩
  try clear c0_oa c1_oa f0_oa f1_oa z_oa
  first | replace oa := oa.below hx | replace oa := (oa.alloc _).below hx | replace oa := ((oa.alloc _).alloc _).below hx | replace oa := (((oa.alloc _).alloc _).alloc _).below hx
  obtain ⟨c0_oa, c1_oa, f0_oa, f1_oa, z_oa⟩ := oa.two
  try clear c0_ox c1_ox f0_ox f1_ox z_ox
  first | have ox := (Own.new w4 _ _).below hx | have ox := ((Own.new w4 _ _).alloc _).below hx | have ox := (((Own.new w4 _ _).alloc _).alloc _).below hx | have ox := ((((Own.new w4 _ _).alloc _).alloc _).alloc _).below hx
  obtain ⟨c0_ox, c1_ox, f0_ox, f1_ox, z_ox⟩ := ox.two
  replace hb : Below w.heap.size w w5 := Below.trans (by (repeat (first | exact Below.refl _ _ | assumption | refine Below.drew ?_ | refine below_drewN ?_ _ | refine Below.setCell ?_ (by first | omega | (simp <;> omega)) _ | refine Below.alloc ?_ (by have := hb.size; first | omega | (simp <;> omega)) _))) (hx.mono (by have := hb.size; first | omega | (simp <;> omega)))
  clear hx
  go_wp2_with fail
  go_ret
  exact Ret.mk rfl (by (have hbs := hb.size; repeat (first | exact Below.refl _ _ | assumption | refine Below.drew ?_ | refine below_drewN ?_ _ | refine Below.setCell ?_ (by first | omega | (simp <;> omega)) _ | refine Below.alloc ?_ (by first | omega | (simp <;> omega)) _)))

set_option maxHeartbeats 1600000 in
set_option maxRecDepth 100000 in
theorem makes_v_ok (n d k a1 a2 : Int) (n1 : -2147483648 ≤ n) (n2 : n ≤ 2147483647) (d1 : -2147483648 ≤ d) (d2 : d ≤ 2147483647) (k1 : -32768 ≤ k) (k2 : k ≤ 32767) (x1 x2 : Int) (VA : Hid (vldB a1 a2 = true)) (MA : Hid (mkF a1 a2 = (a1, a2, 0))) (p1 : -70368744177664 ≤ n * k) (p2 : n * k ≤ 70368744177664) (p3 : -70368744177664 ≤ d * k) (p4 : d * k ≤ 70368744177664) (e0 : (d == 0) = false) (e1 : (k == 0) = false) (M1 : Hid (mkF n d = (x1, x2, 0))) (M2 : Hid (mkF (n * k) (d * k) = (x1, x2, 0))) (VX : Hid (vldB x1 x2 = true)) (q1 : -4000000000000000000 ≤ x1 * d) (q2 : x1 * d ≤ 4000000000000000000) (q3 : -4000000000000000000 ≤ x2 * n) (q4 : x2 * n ≤ 4000000000000000000) (q5 : (x1 * d == x2 * n) = true) (w : World) : Calls Try.prog 4 #[.int .i32 n, .int .i32 d, .int .i16 k, .agg #[.int .i64 a1, .int .i64 a2]] w (Ret (.bool true) w) := by
  have hb : Below w.heap.size w w := Below.refl _ _
  have he := eql_rat
  have hn := neq_rat
  go_enter Try.func4, Try.ntmps4
  go_wp2_with fail
  refine (head_any _).mono ?_
  rintro e w1 ⟨rfl, hx⟩
  try clear c0_oa c1_oa f0_oa f1_oa z_oa
  first | have oa := (Own.new w _ _).below hx | have oa := ((Own.new w _ _).alloc _).below hx | have oa := (((Own.new w _ _).alloc _).alloc _).below hx | have oa := ((((Own.new w _ _).alloc _).alloc _).alloc _).below hx
  obtain ⟨c0_oa, c1_oa, f0_oa, f1_oa, z_oa⟩ := oa.two
  replace hb : Below w.heap.size w w1 := Below.trans (by (repeat (first | exact Below.refl _ _ | assumption | refine Below.drew ?_ | refine below_drewN ?_ _ | refine Below.setCell ?_ (by first | omega | (simp <;> omega)) _ | refine Below.alloc ?_ (by have := hb.size; first | omega | (simp <;> omega)) _))) (hx.mono (by have := hb.size; first | omega | (simp <;> omega)))
  clear hx
  go_wp2_with fail
  refine (r_valid_at _ _ _ VA.out).mono ?_
  rintro e w2 ⟨rfl, hx⟩
  try clear c0_oa c1_oa f0_oa f1_oa z_oa
  first | replace oa := oa.below hx | replace oa := (oa.alloc _).below hx | replace oa := ((oa.alloc _).alloc _).below hx | replace oa := (((oa.alloc _).alloc _).alloc _).below hx
  obtain ⟨c0_oa, c1_oa, f0_oa, f1_oa, z_oa⟩ := oa.two
  replace hb : Below w.heap.size w w2 := Below.trans (by (repeat (first | exact Below.refl _ _ | assumption | refine Below.drew ?_ | refine below_drewN ?_ _ | refine Below.setCell ?_ (by first | omega | (simp <;> omega)) _ | refine Below.alloc ?_ (by have := hb.size; first | omega | (simp <;> omega)) _))) (hx.mono (by have := hb.size; first | omega | (simp <;> omega)))
  clear hx
  go_wp2_with fail
  refine (make_at MA.out).mono ?_
  rintro e w3 ⟨rfl, hx⟩
  try clear c0_oa c1_oa f0_oa f1_oa z_oa
  first | replace oa := oa.below hx | replace oa := (oa.alloc _).below hx | replace oa := ((oa.alloc _).alloc _).below hx | replace oa := (((oa.alloc _).alloc _).alloc _).below hx
  obtain ⟨c0_oa, c1_oa, f0_oa, f1_oa, z_oa⟩ := oa.two
  replace hb : Below w.heap.size w w3 := Below.trans (by (repeat (first | exact Below.refl _ _ | assumption | refine Below.drew ?_ | refine below_drewN ?_ _ | refine Below.setCell ?_ (by first | omega | (simp <;> omega)) _ | refine Below.alloc ?_ (by have := hb.size; first | omega | (simp <;> omega)) _))) (hx.mono (by have := hb.size; first | omega | (simp <;> omega)))
  clear hx
  go_wp2_with fail
  refine (make_at M1.out).mono ?_
  rintro e w4 ⟨rfl, hx⟩
  try clear c0_oa c1_oa f0_oa f1_oa z_oa
  first | replace oa := oa.below hx | replace oa := (oa.alloc _).below hx | replace oa := ((oa.alloc _).alloc _).below hx | replace oa := (((oa.alloc _).alloc _).alloc _).below hx
  obtain ⟨c0_oa, c1_oa, f0_oa, f1_oa, z_oa⟩ := oa.two
  try clear c0_oo c1_oo f0_oo f1_oo z_oo
  first | have oo := (Own.new w3 _ _).below hx | have oo := ((Own.new w3 _ _).alloc _).below hx | have oo := (((Own.new w3 _ _).alloc _).alloc _).below hx | have oo := ((((Own.new w3 _ _).alloc _).alloc _).alloc _).below hx
  obtain ⟨c0_oo, c1_oo, f0_oo, f1_oo, z_oo⟩ := oo.two
  replace hb : Below w.heap.size w w4 := Below.trans (by (repeat (first | exact Below.refl _ _ | assumption | refine Below.drew ?_ | refine below_drewN ?_ _ | refine Below.setCell ?_ (by first | omega | (simp <;> omega)) _ | refine Below.alloc ?_ (by have := hb.size; first | omega | (simp <;> omega)) _))) (hx.mono (by have := hb.size; first | omega | (simp <;> omega)))
  clear hx
  go_wp2_with fail
  refine (make_at M2.out).mono ?_
  rintro e w5 ⟨rfl, hx⟩
  try clear c0_oa c1_oa f0_oa f1_oa z_oa
  first | replace oa := oa.below hx | replace oa := (oa.alloc _).below hx | replace oa := ((oa.alloc _).alloc _).below hx | replace oa := (((oa.alloc _).alloc _).alloc _).below hx
  obtain ⟨c0_oa, c1_oa, f0_oa, f1_oa, z_oa⟩ := oa.two
  try clear c0_ox c1_ox f0_ox f1_ox z_ox
  first | have ox := (Own.new w4 _ _).below hx | have ox := ((Own.new w4 _ _).alloc _).below hx | have ox := (((Own.new w4 _ _).alloc _).alloc _).below hx | have ox := ((((Own.new w4 _ _).alloc _).alloc _).alloc _).below hx
  obtain ⟨c0_ox, c1_ox, f0_ox, f1_ox, z_ox⟩ := ox.two
  replace hb : Below w.heap.size w w5 := Below.trans (by (repeat (first | exact Below.refl _ _ | assumption | refine Below.drew ?_ | refine below_drewN ?_ _ | refine Below.setCell ?_ (by first | omega | (simp <;> omega)) _ | refine Below.alloc ?_ (by have := hb.size; first | omega | (simp <;> omega)) _))) (hx.mono (by have := hb.size; first | omega | (simp <;> omega)))
  clear hx
  go_wp2_with fail
  refine (r_valid_at _ _ _ VX.out).mono ?_
  rintro e w6 ⟨rfl, hx⟩
  try clear c0_oa c1_oa f0_oa f1_oa z_oa
  first | replace oa := oa.below hx | replace oa := (oa.alloc _).below hx | replace oa := ((oa.alloc _).alloc _).below hx | replace oa := (((oa.alloc _).alloc _).alloc _).below hx
  obtain ⟨c0_oa, c1_oa, f0_oa, f1_oa, z_oa⟩ := oa.two
  try clear c0_ox c1_ox f0_ox f1_ox z_ox
  first | replace ox := ox.below hx | replace ox := (ox.alloc _).below hx | replace ox := ((ox.alloc _).alloc _).below hx | replace ox := (((ox.alloc _).alloc _).alloc _).below hx
  obtain ⟨c0_ox, c1_ox, f0_ox, f1_ox, z_ox⟩ := ox.two
  replace hb : Below w.heap.size w w6 := Below.trans (by (repeat (first | exact Below.refl _ _ | assumption | refine Below.drew ?_ | refine below_drewN ?_ _ | refine Below.setCell ?_ (by first | omega | (simp <;> omega)) _ | refine Below.alloc ?_ (by have := hb.size; first | omega | (simp <;> omega)) _))) (hx.mono (by have := hb.size; first | omega | (simp <;> omega)))
  clear hx
  go_wp2_with fail
  go_ret
  exact Ret.mk rfl (by (have hbs := hb.size; repeat (first | exact Below.refl _ _ | assumption | refine Below.drew ?_ | refine below_drewN ?_ _ | refine Below.setCell ?_ (by first | omega | (simp <;> omega)) _ | refine Below.alloc ?_ (by first | omega | (simp <;> omega)) _)))

set_option maxHeartbeats 1600000 in
set_option maxRecDepth 100000 in
theorem makes_i_d0 (n d k a1 a2 : Int) (n1 : -2147483648 ≤ n) (n2 : n ≤ 2147483647) (d1 : -2147483648 ≤ d) (d2 : d ≤ 2147483647) (k1 : -32768 ≤ k) (k2 : k ≤ 32767) (VA : Hid (vldB a1 a2 = false)) (e0 : (d == 0) = true) (w : World) : Calls Try.prog 4 #[.int .i32 n, .int .i32 d, .int .i16 k, .agg #[.int .i64 a1, .int .i64 a2]] w (Ret (.bool true) w) := by
  have hb : Below w.heap.size w w := Below.refl _ _
  have he := eql_rat
  have hn := neq_rat
  go_enter Try.func4, Try.ntmps4
  go_wp2_with fail
  refine (head_any _).mono ?_
  rintro e w1 ⟨rfl, hx⟩
  try clear c0_oa c1_oa f0_oa f1_oa z_oa
  first | have oa := (Own.new w _ _).below hx | have oa := ((Own.new w _ _).alloc _).below hx | have oa := (((Own.new w _ _).alloc _).alloc _).below hx | have oa := ((((Own.new w _ _).alloc _).alloc _).alloc _).below hx
  obtain ⟨c0_oa, c1_oa, f0_oa, f1_oa, z_oa⟩ := oa.two
  replace hb : Below w.heap.size w w1 := Below.trans (by (repeat (first | exact Below.refl _ _ | assumption | refine Below.drew ?_ | refine below_drewN ?_ _ | refine Below.setCell ?_ (by first | omega | (simp <;> omega)) _ | refine Below.alloc ?_ (by have := hb.size; first | omega | (simp <;> omega)) _))) (hx.mono (by have := hb.size; first | omega | (simp <;> omega)))
  clear hx
  go_wp2_with fail
  refine (r_valid_at _ _ _ VA.out).mono ?_
  rintro e w2 ⟨rfl, hx⟩
  try clear c0_oa c1_oa f0_oa f1_oa z_oa
  first | replace oa := oa.below hx | replace oa := (oa.alloc _).below hx | replace oa := ((oa.alloc _).alloc _).below hx | replace oa := (((oa.alloc _).alloc _).alloc _).below hx
  obtain ⟨c0_oa, c1_oa, f0_oa, f1_oa, z_oa⟩ := oa.two
  replace hb : Below w.heap.size w w2 := Below.trans (by (repeat (first | exact Below.refl _ _ | assumption | refine Below.drew ?_ | refine below_drewN ?_ _ | refine Below.setCell ?_ (by first | omega | (simp <;> omega)) _ | refine Below.alloc ?_ (by have := hb.size; first | omega | (simp <;> omega)) _))) (hx.mono (by have := hb.size; first | omega | (simp <;> omega)))
  clear hx
  go_wp2_with fail
  go_ret
  exact Ret.mk rfl (by (have hbs := hb.size; repeat (first | exact Below.refl _ _ | assumption | refine Below.drew ?_ | refine below_drewN ?_ _ | refine Below.setCell ?_ (by first | omega | (simp <;> omega)) _ | refine Below.alloc ?_ (by first | omega | (simp <;> omega)) _)))

set_option maxHeartbeats 1600000 in
set_option maxRecDepth 100000 in
theorem makes_i_k0 (n d k a1 a2 : Int) (n1 : -2147483648 ≤ n) (n2 : n ≤ 2147483647) (d1 : -2147483648 ≤ d) (d2 : d ≤ 2147483647) (k1 : -32768 ≤ k) (k2 : k ≤ 32767) (VA : Hid (vldB a1 a2 = false)) (e0 : (d == 0) = false) (e1 : (k == 0) = true) (w : World) : Calls Try.prog 4 #[.int .i32 n, .int .i32 d, .int .i16 k, .agg #[.int .i64 a1, .int .i64 a2]] w (Ret (.bool true) w) := by
  have hb : Below w.heap.size w w := Below.refl _ _
  have he := eql_rat
  have hn := neq_rat
  go_enter Try.func4, Try.ntmps4
  go_wp2_with fail
  refine (head_any _).mono ?_
  rintro e w1 ⟨rfl, hx⟩
  try clear c0_oa c1_oa f0_oa f1_oa z_oa
  first | have oa := (Own.new w _ _).below hx | have oa := ((Own.new w _ _).alloc _).below hx | have oa := (((Own.new w _ _).alloc _).alloc _).below hx | have oa := ((((Own.new w _ _).alloc _).alloc _).alloc _).below hx
  obtain ⟨c0_oa, c1_oa, f0_oa, f1_oa, z_oa⟩ := oa.two
  replace hb : Below w.heap.size w w1 := Below.trans (by (repeat (first | exact Below.refl _ _ | assumption | refine Below.drew ?_ | refine below_drewN ?_ _ | refine Below.setCell ?_ (by first | omega | (simp <;> omega)) _ | refine Below.alloc ?_ (by have := hb.size; first | omega | (simp <;> omega)) _))) (hx.mono (by have := hb.size; first | omega | (simp <;> omega)))
  clear hx
  go_wp2_with fail
  refine (r_valid_at _ _ _ VA.out).mono ?_
  rintro e w2 ⟨rfl, hx⟩
  try clear c0_oa c1_oa f0_oa f1_oa z_oa
  first | replace oa := oa.below hx | replace oa := (oa.alloc _).below hx | replace oa := ((oa.alloc _).alloc _).below hx | replace oa := (((oa.alloc _).alloc _).alloc _).below hx
  obtain ⟨c0_oa, c1_oa, f0_oa, f1_oa, z_oa⟩ := oa.two
  replace hb : Below w.heap.size w w2 := Below.trans (by (repeat (first | exact Below.refl _ _ | assumption | refine Below.drew ?_ | refine below_drewN ?_ _ | refine Below.setCell ?_ (by first | omega | (simp <;> omega)) _ | refine Below.alloc ?_ (by have := hb.size; first | omega | (simp <;> omega)) _))) (hx.mono (by have := hb.size; first | omega | (simp <;> omega)))
  clear hx
  go_wp2_with fail
  go_ret
  exact Ret.mk rfl (by (have hbs := hb.size; repeat (first | exact Below.refl _ _ | assumption | refine Below.drew ?_ | refine below_drewN ?_ _ | refine Below.setCell ?_ (by first | omega | (simp <;> omega)) _ | refine Below.alloc ?_ (by first | omega | (simp <;> omega)) _)))

set_option maxHeartbeats 1600000 in
set_option maxRecDepth 100000 in
theorem makes_i_r (n d k a1 a2 : Int) (n1 : -2147483648 ≤ n) (n2 : n ≤ 2147483647) (d1 : -2147483648 ≤ d) (d2 : d ≤ 2147483647) (k1 : -32768 ≤ k) (k2 : k ≤ 32767) (VA : Hid (vldB a1 a2 = false)) (p1 : -70368744177664 ≤ n * k) (p2 : n * k ≤ 70368744177664) (p3 : -70368744177664 ≤ d * k) (p4 : d * k ≤ 70368744177664) (e0 : (d == 0) = false) (e1 : (k == 0) = false) (M1 : Hid (mkF n d = (0, 0, 3))) (M2 : Hid (mkF (n * k) (d * k) = (0, 0, 3))) (w : World) : Calls Try.prog 4 #[.int .i32 n, .int .i32 d, .int .i16 k, .agg #[.int .i64 a1, .int .i64 a2]] w (Ret (.bool true) w) := by
  have hb : Below w.heap.size w w := Below.refl _ _
  have he := eql_rat
  have hn := neq_rat
  go_enter Try.func4, Try.ntmps4
  go_wp2_with fail
  refine (head_any _).mono ?_
  rintro e w1 ⟨rfl, hx⟩
  try clear c0_oa c1_oa f0_oa f1_oa z_oa
  first | have oa := (Own.new w _ _).below hx | have oa := ((Own.new w _ _).alloc _).below hx | have oa := (((Own.new w _ _).alloc _).alloc _).below hx | have oa := ((((Own.new w _ _).alloc _).alloc _).alloc _).below hx
  obtain ⟨c0_oa, c1_oa, f0_oa, f1_oa, z_oa⟩ := oa.two
  replace hb : Below w.heap.size w w1 := Below.trans (by (repeat (first | exact Below.refl _ _ | assumption | refine Below.drew ?_ | refine below_drewN ?_ _ | refine Below.setCell ?_ (by first | omega | (simp <;> omega)) _ | refine Below.alloc ?_ (by have := hb.size; first | omega | (simp <;> omega)) _))) (hx.mono (by have := hb.size; first | omega | (simp <;> omega)))
  clear hx
  go_wp2_with fail
  refine (r_valid_at _ _ _ VA.out).mono ?_
  rintro e w2 ⟨rfl, hx⟩
  try clear c0_oa c1_oa f0_oa f1_oa z_oa
  first | replace oa := oa.below hx | replace oa := (oa.alloc _).below hx | replace oa := ((oa.alloc _).alloc _).below hx | replace oa := (((oa.alloc _).alloc _).alloc _).below hx
  obtain ⟨c0_oa, c1_oa, f0_oa, f1_oa, z_oa⟩ := oa.two
  replace hb : Below w.heap.size w w2 := Below.trans (by (repeat (first | exact Below.refl _ _ | assumption | refine Below.drew ?_ | refine below_drewN ?_ _ | refine Below.setCell ?_ (by first | omega | (simp <;> omega)) _ | refine Below.alloc ?_ (by have := hb.size; first | omega | (simp <;> omega)) _))) (hx.mono (by have := hb.size; first | omega | (simp <;> omega)))
  clear hx
  go_wp2_with fail
  refine (make_at M1.out).mono ?_
  rintro e w4 ⟨rfl, hx⟩
  try clear c0_oa c1_oa f0_oa f1_oa z_oa
  first | replace oa := oa.below hx | replace oa := (oa.alloc _).below hx | replace oa := ((oa.alloc _).alloc _).below hx | replace oa := (((oa.alloc _).alloc _).alloc _).below hx
  obtain ⟨c0_oa, c1_oa, f0_oa, f1_oa, z_oa⟩ := oa.two
  replace hb : Below w.heap.size w w4 := Below.trans (by (repeat (first | exact Below.refl _ _ | assumption | refine Below.drew ?_ | refine below_drewN ?_ _ | refine Below.setCell ?_ (by first | omega | (simp <;> omega)) _ | refine Below.alloc ?_ (by have := hb.size; first | omega | (simp <;> omega)) _))) (hx.mono (by have := hb.size; first | omega | (simp <;> omega)))
  clear hx
  go_wp2_with fail
  refine (make_at M2.out).mono ?_
  rintro e w5 ⟨rfl, hx⟩
  try clear c0_oa c1_oa f0_oa f1_oa z_oa
  first | replace oa := oa.below hx | replace oa := (oa.alloc _).below hx | replace oa := ((oa.alloc _).alloc _).below hx | replace oa := (((oa.alloc _).alloc _).alloc _).below hx
  obtain ⟨c0_oa, c1_oa, f0_oa, f1_oa, z_oa⟩ := oa.two
  try clear c0_ox c1_ox f0_ox f1_ox z_ox
  first | have ox := (Own.new w4 _ _).below hx | have ox := ((Own.new w4 _ _).alloc _).below hx | have ox := (((Own.new w4 _ _).alloc _).alloc _).below hx | have ox := ((((Own.new w4 _ _).alloc _).alloc _).alloc _).below hx
  obtain ⟨c0_ox, c1_ox, f0_ox, f1_ox, z_ox⟩ := ox.two
  replace hb : Below w.heap.size w w5 := Below.trans (by (repeat (first | exact Below.refl _ _ | assumption | refine Below.drew ?_ | refine below_drewN ?_ _ | refine Below.setCell ?_ (by first | omega | (simp <;> omega)) _ | refine Below.alloc ?_ (by have := hb.size; first | omega | (simp <;> omega)) _))) (hx.mono (by have := hb.size; first | omega | (simp <;> omega)))
  clear hx
  go_wp2_with fail
  go_ret
  exact Ret.mk rfl (by (have hbs := hb.size; repeat (first | exact Below.refl _ _ | assumption | refine Below.drew ?_ | refine below_drewN ?_ _ | refine Below.setCell ?_ (by first | omega | (simp <;> omega)) _ | refine Below.alloc ?_ (by first | omega | (simp <;> omega)) _)))

set_option maxHeartbeats 1600000 in
set_option maxRecDepth 100000 in
theorem makes_i_ok (n d k a1 a2 : Int) (n1 : -2147483648 ≤ n) (n2 : n ≤ 2147483647) (d1 : -2147483648 ≤ d) (d2 : d ≤ 2147483647) (k1 : -32768 ≤ k) (k2 : k ≤ 32767) (x1 x2 : Int) (VA : Hid (vldB a1 a2 = false)) (p1 : -70368744177664 ≤ n * k) (p2 : n * k ≤ 70368744177664) (p3 : -70368744177664 ≤ d * k) (p4 : d * k ≤ 70368744177664) (e0 : (d == 0) = false) (e1 : (k == 0) = false) (M1 : Hid (mkF n d = (x1, x2, 0))) (M2 : Hid (mkF (n * k) (d * k) = (x1, x2, 0))) (VX : Hid (vldB x1 x2 = true)) (q1 : -4000000000000000000 ≤ x1 * d) (q2 : x1 * d ≤ 4000000000000000000) (q3 : -4000000000000000000 ≤ x2 * n) (q4 : x2 * n ≤ 4000000000000000000) (q5 : (x1 * d == x2 * n) = true) (w : World) : Calls Try.prog 4 #[.int .i32 n, .int .i32 d, .int .i16 k, .agg #[.int .i64 a1, .int .i64 a2]] w (Ret (.bool true) w) := by
  have hb : Below w.heap.size w w := Below.refl _ _
  have he := eql_rat
  have hn := neq_rat
  go_enter Try.func4, Try.ntmps4
  go_wp2_with fail
  refine (head_any _).mono ?_
  rintro e w1 ⟨rfl, hx⟩
  try clear c0_oa c1_oa f0_oa f1_oa z_oa
  first | have oa := (Own.new w _ _).below hx | have oa := ((Own.new w _ _).alloc _).below hx | have oa := (((Own.new w _ _).alloc _).alloc _).below hx | have oa := ((((Own.new w _ _).alloc _).alloc _).alloc _).below hx
  obtain ⟨c0_oa, c1_oa, f0_oa, f1_oa, z_oa⟩ := oa.two
  replace hb : Below w.heap.size w w1 := Below.trans (by (repeat (first | exact Below.refl _ _ | assumption | refine Below.drew ?_ | refine below_drewN ?_ _ | refine Below.setCell ?_ (by first | omega | (simp <;> omega)) _ | refine Below.alloc ?_ (by have := hb.size; first | omega | (simp <;> omega)) _))) (hx.mono (by have := hb.size; first | omega | (simp <;> omega)))
  clear hx
  go_wp2_with fail
  refine (r_valid_at _ _ _ VA.out).mono ?_
  rintro e w2 ⟨rfl, hx⟩
  try clear c0_oa c1_oa f0_oa f1_oa z_oa
  first | replace oa := oa.below hx | replace oa := (oa.alloc _).below hx | replace oa := ((oa.alloc _).alloc _).below hx | replace oa := (((oa.alloc _).alloc _).alloc _).below hx
  obtain ⟨c0_oa, c1_oa, f0_oa, f1_oa, z_oa⟩ := oa.two
  replace hb : Below w.heap.size w w2 := Below.trans (by (repeat (first | exact Below.refl _ _ | assumption | refine Below.drew ?_ | refine below_drewN ?_ _ | refine Below.setCell ?_ (by first | omega | (simp <;> omega)) _ | refine Below.alloc ?_ (by have := hb.size; first | omega | (simp <;> omega)) _))) (hx.mono (by have := hb.size; first | omega | (simp <;> omega)))
  clear hx
  go_wp2_with fail
  refine (make_at M1.out).mono ?_
  rintro e w4 ⟨rfl, hx⟩
  try clear c0_oa c1_oa f0_oa f1_oa z_oa
  first | replace oa := oa.below hx | replace oa := (oa.alloc _).below hx | replace oa := ((oa.alloc _).alloc _).below hx | replace oa := (((oa.alloc _).alloc _).alloc _).below hx
  obtain ⟨c0_oa, c1_oa, f0_oa, f1_oa, z_oa⟩ := oa.two
  replace hb : Below w.heap.size w w4 := Below.trans (by (repeat (first | exact Below.refl _ _ | assumption | refine Below.drew ?_ | refine below_drewN ?_ _ | refine Below.setCell ?_ (by first | omega | (simp <;> omega)) _ | refine Below.alloc ?_ (by have := hb.size; first | omega | (simp <;> omega)) _))) (hx.mono (by have := hb.size; first | omega | (simp <;> omega)))
  clear hx
  go_wp2_with fail
  refine (make_at M2.out).mono ?_
  rintro e w5 ⟨rfl, hx⟩
  try clear c0_oa c1_oa f0_oa f1_oa z_oa
  first | replace oa := oa.below hx | replace oa := (oa.alloc _).below hx | replace oa := ((oa.alloc _).alloc _).below hx | replace oa := (((oa.alloc _).alloc _).alloc _).below hx
  obtain ⟨c0_oa, c1_oa, f0_oa, f1_oa, z_oa⟩ := oa.two
  try clear c0_ox c1_ox f0_ox f1_ox z_ox
  first | have ox := (Own.new w4 _ _).below hx | have ox := ((Own.new w4 _ _).alloc _).below hx | have ox := (((Own.new w4 _ _).alloc _).alloc _).below hx | have ox := ((((Own.new w4 _ _).alloc _).alloc _).alloc _).below hx
  obtain ⟨c0_ox, c1_ox, f0_ox, f1_ox, z_ox⟩ := ox.two
  replace hb : Below w.heap.size w w5 := Below.trans (by (repeat (first | exact Below.refl _ _ | assumption | refine Below.drew ?_ | refine below_drewN ?_ _ | refine Below.setCell ?_ (by first | omega | (simp <;> omega)) _ | refine Below.alloc ?_ (by have := hb.size; first | omega | (simp <;> omega)) _))) (hx.mono (by have := hb.size; first | omega | (simp <;> omega)))
  clear hx
  go_wp2_with fail
  refine (r_valid_at _ _ _ VX.out).mono ?_
  rintro e w6 ⟨rfl, hx⟩
  try clear c0_oa c1_oa f0_oa f1_oa z_oa
  first | replace oa := oa.below hx | replace oa := (oa.alloc _).below hx | replace oa := ((oa.alloc _).alloc _).below hx | replace oa := (((oa.alloc _).alloc _).alloc _).below hx
  obtain ⟨c0_oa, c1_oa, f0_oa, f1_oa, z_oa⟩ := oa.two
  try clear c0_ox c1_ox f0_ox f1_ox z_ox
  first | replace ox := ox.below hx | replace ox := (ox.alloc _).below hx | replace ox := ((ox.alloc _).alloc _).below hx | replace ox := (((ox.alloc _).alloc _).alloc _).below hx
  obtain ⟨c0_ox, c1_ox, f0_ox, f1_ox, z_ox⟩ := ox.two
  replace hb : Below w.heap.size w w6 := Below.trans (by (repeat (first | exact Below.refl _ _ | assumption | refine Below.drew ?_ | refine below_drewN ?_ _ | refine Below.setCell ?_ (by first | omega | (simp <;> omega)) _ | refine Below.alloc ?_ (by have := hb.size; first | omega | (simp <;> omega)) _))) (hx.mono (by have := hb.size; first | omega | (simp <;> omega)))
  clear hx
  go_wp2_with fail
  go_ret
  exact Ret.mk rfl (by (have hbs := hb.size; repeat (first | exact Below.refl _ _ | assumption | refine Below.drew ?_ | refine below_drewN ?_ _ | refine Below.setCell ?_ (by first | omega | (simp <;> omega)) _ | refine Below.alloc ?_ (by first | omega | (simp <;> omega)) _)))

theorem makes_setl (n d : Int) (n1 : -70368744177664 ≤ n) (n2 : n ≤ 70368744177664) (d1 : -70368744177664 ≤ d) (d2 : d ≤ 70368744177664) (hd : d ≠ 0) : mkF n d = setl n d := by
  have f1 : wthB n 1000000000000000 = true := by simp [wthB]; omega
  have f2 : wthB d 1000000000000000 = true := by simp [wthB]; omega
  unfold mkF
  rw [if_pos ⟨hd, f1, f2⟩]

theorem walkMakes (n d k a1 a2 : Int) (wn : (Lit.int .i32 n).wf = true) (wd : (Lit.int .i32 d).wf = true) (wk : (Lit.int .i16 k).wf = true) (_ : (Lit.int .i64 a1).wf = true) (_ : (Lit.int .i64 a2).wf = true) (w : World) : Calls Try.prog 4 #[.int .i32 n, .int .i32 d, .int .i16 k, .agg #[.int .i64 a1, .int .i64 a2]] w (Ret (.bool true) w) := by
  have ⟨n1, n2⟩ : -2147483648 ≤ n ∧ n ≤ 2147483647 := by simp only [Lit.wf, Bool.and_eq_true, decide_eq_true_eq] at wn; exact wn
  have ⟨d1, d2⟩ : -2147483648 ≤ d ∧ d ≤ 2147483647 := by simp only [Lit.wf, Bool.and_eq_true, decide_eq_true_eq] at wd; exact wd
  have ⟨k1, k2⟩ : -32768 ≤ k ∧ k ≤ 32767 := by simp only [Lit.wf, Bool.and_eq_true, decide_eq_true_eq] at wk; exact wk
  have ⟨p1, p2⟩ := mul_bd (X := 2147483648) (Y := 32768) n1 (by omega : n ≤ 2147483648) k1 (by omega : k ≤ 32768)
  have ⟨p3, p4⟩ := mul_bd (X := 2147483648) (Y := 32768) d1 (by omega : d ≤ 2147483648) k1 (by omega : k ≤ 32768)
  by_cases e0 : d = 0
  · cases ha : vldB a1 a2 with
    | true => exact makes_v_d0 n d k a1 a2 n1 n2 d1 d2 k1 k2 (Lib.hid ha) (Lib.hid (make_own ha)) (by simpa using e0) w
    | false => exact makes_i_d0 n d k a1 a2 n1 n2 d1 d2 k1 k2 (Lib.hid ha) (by simpa using e0) w
  · by_cases e1 : k = 0
    · cases ha : vldB a1 a2 with
      | true => exact makes_v_k0 n d k a1 a2 n1 n2 d1 d2 k1 k2 (Lib.hid ha) (Lib.hid (make_own ha)) (by simpa using e0) (by simpa using e1) w
      | false => exact makes_i_k0 n d k a1 a2 n1 n2 d1 d2 k1 k2 (Lib.hid ha) (by simpa using e0) (by simpa using e1) w
    · have h1 := makes_setl n d (by omega) (by omega) (by omega) (by omega) e0
      have h2 := (makes_setl (n * k) (d * k) (by omega) (by omega) (by omega) (by omega) (Int.mul_ne_zero e0 e1)).trans (make_factor n d k e0 e1)
      rcases setl_or n d with ⟨x1, x2, h⟩ | h
      · rw [h] at h1 h2
        obtain ⟨hv, hx⟩ := setl_is e0 h
        obtain ⟨v1, v2, v3, v4⟩ := vld_bd hv
        have ⟨q1, q2⟩ := mul_bd (X := 1000000000) (Y := 2147483648) v1 v2 d1 (by omega : d ≤ 2147483648)
        have ⟨q3, q4⟩ := mul_bd (X := 1000000) (Y := 2147483648) (by omega : -1000000 ≤ x2) v4 n1 (by omega : n ≤ 2147483648)
        cases ha : vldB a1 a2 with
        | true => exact makes_v_ok n d k a1 a2 n1 n2 d1 d2 k1 k2 x1 x2 (Lib.hid ha) (Lib.hid (make_own ha)) (by omega) (by omega) (by omega) (by omega) (by simpa using e0) (by simpa using e1) (Lib.hid h1) (Lib.hid h2) (Lib.hid hv) (by omega) (by omega) (by omega) (by omega) (by simpa using hx) w
        | false => exact makes_i_ok n d k a1 a2 n1 n2 d1 d2 k1 k2 x1 x2 (Lib.hid ha) (by omega) (by omega) (by omega) (by omega) (by simpa using e0) (by simpa using e1) (Lib.hid h1) (Lib.hid h2) (Lib.hid hv) (by omega) (by omega) (by omega) (by omega) (by simpa using hx) w
      · rw [h] at h1 h2
        cases ha : vldB a1 a2 with
        | true => exact makes_v_r n d k a1 a2 n1 n2 d1 d2 k1 k2 (Lib.hid ha) (Lib.hid (make_own ha)) (by omega) (by omega) (by omega) (by omega) (by simpa using e0) (by simpa using e1) (Lib.hid h1) (Lib.hid h2) w
        | false => exact makes_i_r n d k a1 a2 n1 n2 d1 d2 k1 k2 (Lib.hid ha) (by omega) (by omega) (by omega) (by omega) (by simpa using e0) (by simpa using e1) (Lib.hid h1) (Lib.hid h2) w

theorem own_ratioMakes : ownKnob Try.prog.godebug = none := by kernel_rfl
theorem laid_ratioMakes : laidOutB Try.prog = true := by kernel_rfl

set_option maxRecDepth 100000 in
theorem lifted_ratioMakes (os : Os) (started : os.Started) (H : Type) (enc : TypeId × Value → H) :
    ReturnsInHanded {} Try.checked os 4 .any (Rows.ratioMakesSpec.pre6 enc Try.prog Try.f4 Rows.ratioMakesRow.domain false) (Rows.ratioMakesSpec.post enc Try.prog Try.f4 false true false false) := by
  refine returnsInHanded_of_change (C := Try.checked) own_ratioMakes started (by kernel_rfl) Try.func4
    (ChangeSpec.witness6 (enc := enc) (C := Try.checked) false ⟨#[], #[.int .i32 0, .int .i32 0, .int .i16 0, .agg #[.int .i64 0, .int .i64 0]], []⟩ 8 (by kernel_rfl) (by kernel_rfl) (by kernel_rfl) (by kernel_rfl)) ?_
  intro W base args ds gs before hval0 hW hcnd _
  have hval : ∀ (j : Nat) t v, Try.f4.params[j]? = some t → args[j]? = some v → Value.okWide Try.prog W .any base t v := hval0
  have hW' := hW
  obtain ⟨p, q, hA0, hV, rfl, hfz, hnd⟩ := hW
  have hA : DataW.TrodAll enc Try.prog W 0 (fun _ => true) true Try.f4.params.toList args.toList ds p := hA0
  rw [Try.params4] at hA hval
  obtain ⟨v0, vs0, d0, ds0, p0, q0, hargs, rfl, rfl, h0, r0⟩ := trodAll_cons hA
  obtain ⟨v1, vs1, d1, ds1, p1, q1, rfl, rfl, rfl, h1, r1⟩ := trodAll_cons r0
  obtain ⟨v2, vs2, d2, ds2, p2, q2, rfl, rfl, rfl, h2, r2⟩ := trodAll_cons r1
  obtain ⟨v3, vs3, d3, ds3, p3, q3, rfl, rfl, rfl, h3, r3⟩ := trodAll_cons r2
  obtain ⟨rfl, rfl, rfl⟩ := trodAll_nil r3
  obtain rfl : args = #[v0, v1, v2, v3] := by cases args; simp_all
  obtain ⟨rfl, rfl⟩ := trodVars_none hV
  have k0 := h0
  have lt0 : ∀ x ∈ p0, x.block < W.heap.size := by obtain ⟨m, hm⟩ := k0; exact DataW.trod_lt m _ _ _ hm
  obtain ⟨a0, rfl, _, _, w0⟩ := open_int Try.underlying21 (hval 0 21 v0 rfl rfl) h0
  have k1 := h1
  have lt1 : ∀ x ∈ p1, x.block < W.heap.size := by obtain ⟨m, hm⟩ := k1; exact DataW.trod_lt m _ _ _ hm
  obtain ⟨a1, rfl, _, _, w1⟩ := open_int Try.underlying21 (hval 1 21 v1 rfl rfl) h1
  have k2 := h2
  have lt2 : ∀ x ∈ p2, x.block < W.heap.size := by obtain ⟨m, hm⟩ := k2; exact DataW.trod_lt m _ _ _ hm
  obtain ⟨a2, rfl, _, _, w2⟩ := open_int Try.underlying35 (hval 2 35 v2 rfl rfl) h2
  have k3 := h3
  have lt3 : ∀ x ∈ p3, x.block < W.heap.size := by obtain ⟨m, hm⟩ := k3; exact DataW.trod_lt m _ _ _ hm
  have cells3 : Try.prog.cellsOf 23 = 2 := by kernel_rfl
  obtain ⟨c30, c31, y30, y31, m3, rfl, _, _, hy30, hy31⟩ := open_agg2 Try.underlying23 (by kernel_rfl) cells3 (hval 3 23 v3 rfl rfl) h3
  obtain ⟨a30, e30, _, w30⟩ := DataW.trod_int Try.underlying3 hy30
  simp at e30
  subst e30
  obtain ⟨a31, e31, _, w31⟩ := DataW.trod_int Try.underlying3 hy31
  simp at e31
  subst e31
  clear hA0 hval0
  refine (walkMakes a0 a1 a2 a30 a31 w0 w1 w2 w30 w31 W).mono fun e W' ⟨he, bel⟩ => ?_
  subst he
  exact ⟨_, rfl, _, _, _, [], _, [], hW', trodAll_mk1 (shut_bool Try.underlying4 _), (trodAll_cons_mk (Below.trod laid_ratioMakes (by kernel_rfl) (of_decide_eq_true (by kernel_rfl)) k0 bel lt0) (trodAll_cons_mk (Below.trod laid_ratioMakes (by kernel_rfl) (of_decide_eq_true (by kernel_rfl)) k1 bel lt1) (trodAll_cons_mk (Below.trod laid_ratioMakes (by kernel_rfl) (of_decide_eq_true (by kernel_rfl)) k2 bel lt2) (trodAll_cons_mk (Below.trod laid_ratioMakes (by kernel_rfl) (of_decide_eq_true (by kernel_rfl)) k3 bel lt3) trodAll_mk0)))), rfl, bel.frame _, fun h => by cases h⟩

/-- The given statement. -/
theorem ratioMakes_holds : Rows.RatioMakesSaid :=
  OpenClaim.holds_of_wide 4 Try.f4 rfl rfl rfl rfl rfl rfl rfl ⟨rfl, rfl, rfl, rfl, rfl⟩ rfl rfl rfl rfl rfl (by kernel_rfl) Try.func4 (by kernel_rfl)
    (of_decide_eq_true (by kernel_rfl)) (by unfold Func.isWrapper; first | (rw [if_pos (by decide +kernel)]; kernel_rfl) | (rw [if_neg (by decide +kernel)]; exact ⟨rfl, rfl⟩))
    (fun os started H enc _ => lifted_ratioMakes os started H enc)
end Go.Proofs.Ytojjjbhkpcmooaa
