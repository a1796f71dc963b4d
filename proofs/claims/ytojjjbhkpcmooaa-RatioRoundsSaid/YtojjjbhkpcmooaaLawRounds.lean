/-
  RatioRounds: a ratio lies between its values rounded down and up; the nearest one is one of them; the negative is rounded the other way round. No conditions: for every input.
-/
import Derived.Test.YtojjjbhkpcmooaaRows
import Derived.WalkKit
import Derived.ProofKit
import Derived.OpenShut
import Derived.ChangeOld
import Derived.Below
import Derived.Lib.SmallJoins
import Derived.Test.YtojjjbhkpcmooaaLaw01Plain
import Derived.Test.YtojjjbhkpcmooaaHead01
import Derived.Test.YtojjjbhkpcmooaaRef01D
namespace Go.Proofs.Ytojjjbhkpcmooaa
open Go.ChangeShapes Go.WideShapes Go.ChangeAt Go.RowKit Go.Joins
set_option linter.unusedVariables false

set_option maxHeartbeats 1600000 in
set_option maxRecDepth 100000 in
theorem roundsA (n d x1 x2 x3 : Int) (w : World) (Hv : Hid (vldB n d = true)) (hn1 : -1000000000 ≤ n) (hn2 : n ≤ 1000000000) (hd : 1 ≤ d) (hd2 : d ≤ 1000000)
    (hx1 : -1000000000 ≤ x1) (hx2 : x1 ≤ 1000000000) (hx3 : x1 ≤ x2) (hx4 : x2 ≤ x1 + 1) (hx5 : x1 ≤ x3) (hx6 : x3 ≤ x2) (i1 : n < x1 * d + d) (i2 : x2 * d < n + d) (i3 : x1 * d ≤ n) (i4 : n ≤ x2 * d)
    (G1 : Hid (∀ w, Calls Try.prog 23 #[.agg #[.int .i64 n, .int .i64 d], .int .i64 1] w (Ret (.tuple #[.int .i64 x1, .int .i64 0]) w)))
    (G2 : Hid (∀ w, Calls Try.prog 23 #[.agg #[.int .i64 n, .int .i64 d], .int .i64 2] w (Ret (.tuple #[.int .i64 x2, .int .i64 0]) w)))
    (G3 : Hid (∀ w, Calls Try.prog 23 #[.agg #[.int .i64 n, .int .i64 d], .int .i64 3] w (Ret (.tuple #[.int .i64 x3, .int .i64 0]) w)))
    (G4 : Hid (∀ w, Calls Try.prog 23 #[.agg #[.int .i64 (-n), .int .i64 d], .int .i64 1] w (Ret (.tuple #[.int .i64 (-x2), .int .i64 0]) w)))
    (G5 : Hid (∀ w, Calls Try.prog 23 #[.agg #[.int .i64 (-n), .int .i64 d], .int .i64 2] w (Ret (.tuple #[.int .i64 (-x1), .int .i64 0]) w)))
    (G6 : Hid (∀ w, Calls Try.prog 23 #[.agg #[.int .i64 (-n), .int .i64 d], .int .i64 3] w (Ret (.tuple #[.int .i64 (-x3), .int .i64 0]) w)))
    (hd1 : d = 1) (h12 : x2 = x1) (h13 : x3 = x1) : Calls Try.prog 8 #[.agg #[.int .i64 n, .int .i64 d]] w (Ret (.bool true) w) := by
  have b0 : (d == 1) = true := by simpa using hd1
  have t1 : decide (n < x1 * d) = false := by simp; omega
  have t2 : decide (x2 * d < n) = false := by simp; omega
  subst h12 h13
  clear hd1
  have hb : Below w.heap.size w w := Below.refl _ _
  go_enter Try.func8, Try.ntmps8
  go_wp2_with fail
  refine (head_any _).mono ?_
  rintro e w1 ⟨rfl, hx⟩
  try clear c0_oa c1_oa f0_oa f1_oa z_oa
  first | have oa := (Own.new w _ _).below hx | have oa := ((Own.new w _ _).alloc _).below hx | have oa := (((Own.new w _ _).alloc _).alloc _).below hx | have oa := ((((Own.new w _ _).alloc _).alloc _).alloc _).below hx
  obtain ⟨c0_oa, c1_oa, f0_oa, f1_oa, z_oa⟩ := oa.two
  replace hb : Below w.heap.size w w1 := Below.trans (by (repeat (first | exact Below.refl _ _ | assumption | refine Below.drew ?_ | refine below_drewN ?_ _ | refine Below.setCell ?_ (by simp <;> omega) _ | refine Below.alloc ?_ (by have := hb.size; simp <;> omega) _))) (hx.mono (by have := hb.size; simp <;> omega))
  clear hx
  go_wp2_with fail
  refine (r_valid_at _ _ _ Hv.out).mono ?_
  rintro e w2 ⟨rfl, hx⟩
  try clear c0_oa c1_oa f0_oa f1_oa z_oa
  first | replace oa := oa.below hx | replace oa := (oa.alloc _).below hx | replace oa := ((oa.alloc _).alloc _).below hx | replace oa := (((oa.alloc _).alloc _).alloc _).below hx
  obtain ⟨c0_oa, c1_oa, f0_oa, f1_oa, z_oa⟩ := oa.two
  replace hb : Below w.heap.size w w2 := Below.trans (by (repeat (first | exact Below.refl _ _ | assumption | refine Below.drew ?_ | refine below_drewN ?_ _ | refine Below.setCell ?_ (by simp <;> omega) _ | refine Below.alloc ?_ (by have := hb.size; simp <;> omega) _))) (hx.mono (by have := hb.size; simp <;> omega))
  clear hx
  go_wp2_with fail
  refine (rat_any (-n) d _).mono ?_
  rintro e w3 ⟨rfl, hx⟩
  try clear c0_oa c1_oa f0_oa f1_oa z_oa
  first | replace oa := oa.below hx | replace oa := (oa.alloc _).below hx | replace oa := ((oa.alloc _).alloc _).below hx | replace oa := (((oa.alloc _).alloc _).alloc _).below hx
  obtain ⟨c0_oa, c1_oa, f0_oa, f1_oa, z_oa⟩ := oa.two
  replace hb : Below w.heap.size w w3 := Below.trans (by (repeat (first | exact Below.refl _ _ | assumption | refine Below.drew ?_ | refine below_drewN ?_ _ | refine Below.setCell ?_ (by simp <;> omega) _ | refine Below.alloc ?_ (by have := hb.size; simp <;> omega) _))) (hx.mono (by have := hb.size; simp <;> omega))
  clear hx
  go_wp2_with fail
  refine (G1.out _).mono ?_
  rintro e w4 ⟨rfl, hx⟩
  try clear c0_oa c1_oa f0_oa f1_oa z_oa
  first | replace oa := oa.below hx | replace oa := (oa.alloc _).below hx | replace oa := ((oa.alloc _).alloc _).below hx | replace oa := (((oa.alloc _).alloc _).alloc _).below hx
  obtain ⟨c0_oa, c1_oa, f0_oa, f1_oa, z_oa⟩ := oa.two
  try clear c0_ob c1_ob f0_ob f1_ob z_ob
  first | have ob := (Own.new w3 _ _).below hx | have ob := ((Own.new w3 _ _).alloc _).below hx | have ob := (((Own.new w3 _ _).alloc _).alloc _).below hx | have ob := ((((Own.new w3 _ _).alloc _).alloc _).alloc _).below hx
  obtain ⟨c0_ob, c1_ob, f0_ob, f1_ob, z_ob⟩ := ob.two
  replace hb : Below w.heap.size w w4 := Below.trans (by (repeat (first | exact Below.refl _ _ | assumption | refine Below.drew ?_ | refine below_drewN ?_ _ | refine Below.setCell ?_ (by simp <;> omega) _ | refine Below.alloc ?_ (by have := hb.size; simp <;> omega) _))) (hx.mono (by have := hb.size; simp <;> omega))
  clear hx
  go_wp2_with fail
  refine (G2.out _).mono ?_
  rintro e w5 ⟨rfl, hx⟩
  try clear c0_oa c1_oa f0_oa f1_oa z_oa
  first | replace oa := oa.below hx | replace oa := (oa.alloc _).below hx | replace oa := ((oa.alloc _).alloc _).below hx | replace oa := (((oa.alloc _).alloc _).alloc _).below hx
  obtain ⟨c0_oa, c1_oa, f0_oa, f1_oa, z_oa⟩ := oa.two
  try clear c0_ob c1_ob f0_ob f1_ob z_ob
  first | replace ob := ob.below hx | replace ob := (ob.alloc _).below hx | replace ob := ((ob.alloc _).alloc _).below hx | replace ob := (((ob.alloc _).alloc _).alloc _).below hx
  obtain ⟨c0_ob, c1_ob, f0_ob, f1_ob, z_ob⟩ := ob.two
  replace hb : Below w.heap.size w w5 := Below.trans (by (repeat (first | exact Below.refl _ _ | assumption | refine Below.drew ?_ | refine below_drewN ?_ _ | refine Below.setCell ?_ (by simp <;> omega) _ | refine Below.alloc ?_ (by have := hb.size; simp <;> omega) _))) (hx.mono (by have := hb.size; simp <;> omega))
  clear hx
  go_wp2_with fail
  refine (G3.out _).mono ?_
  rintro e w6 ⟨rfl, hx⟩
  try clear c0_oa c1_oa f0_oa f1_oa z_oa
  first | replace oa := oa.below hx | replace oa := (oa.alloc _).below hx | replace oa := ((oa.alloc _).alloc _).below hx | replace oa := (((oa.alloc _).alloc _).alloc _).below hx
  obtain ⟨c0_oa, c1_oa, f0_oa, f1_oa, z_oa⟩ := oa.two
  try clear c0_ob c1_ob f0_ob f1_ob z_ob
  first | replace ob := ob.below hx | replace ob := (ob.alloc _).below hx | replace ob := ((ob.alloc _).alloc _).below hx | replace ob := (((ob.alloc _).alloc _).alloc _).below hx
  obtain ⟨c0_ob, c1_ob, f0_ob, f1_ob, z_ob⟩ := ob.two
  replace hb : Below w.heap.size w w6 := Below.trans (by (repeat (first | exact Below.refl _ _ | assumption | refine Below.drew ?_ | refine below_drewN ?_ _ | refine Below.setCell ?_ (by simp <;> omega) _ | refine Below.alloc ?_ (by have := hb.size; simp <;> omega) _))) (hx.mono (by have := hb.size; simp <;> omega))
  clear hx
  go_wp2_with fail
  refine (G4.out _).mono ?_
  rintro e w7 ⟨rfl, hx⟩
  try clear c0_oa c1_oa f0_oa f1_oa z_oa
  first | replace oa := oa.below hx | replace oa := (oa.alloc _).below hx | replace oa := ((oa.alloc _).alloc _).below hx | replace oa := (((oa.alloc _).alloc _).alloc _).below hx
  obtain ⟨c0_oa, c1_oa, f0_oa, f1_oa, z_oa⟩ := oa.two
  try clear c0_ob c1_ob f0_ob f1_ob z_ob
  first | replace ob := ob.below hx | replace ob := (ob.alloc _).below hx | replace ob := ((ob.alloc _).alloc _).below hx | replace ob := (((ob.alloc _).alloc _).alloc _).below hx
  obtain ⟨c0_ob, c1_ob, f0_ob, f1_ob, z_ob⟩ := ob.two
  replace hb : Below w.heap.size w w7 := Below.trans (by (repeat (first | exact Below.refl _ _ | assumption | refine Below.drew ?_ | refine below_drewN ?_ _ | refine Below.setCell ?_ (by simp <;> omega) _ | refine Below.alloc ?_ (by have := hb.size; simp <;> omega) _))) (hx.mono (by have := hb.size; simp <;> omega))
  clear hx
  go_wp2_with fail
  refine (G5.out _).mono ?_
  rintro e w8 ⟨rfl, hx⟩
  try clear c0_oa c1_oa f0_oa f1_oa z_oa
  first | replace oa := oa.below hx | replace oa := (oa.alloc _).below hx | replace oa := ((oa.alloc _).alloc _).below hx | replace oa := (((oa.alloc _).alloc _).alloc _).below hx
  obtain ⟨c0_oa, c1_oa, f0_oa, f1_oa, z_oa⟩ := oa.two
  try clear c0_ob c1_ob f0_ob f1_ob z_ob
  first | replace ob := ob.below hx | replace ob := (ob.alloc _).below hx | replace ob := ((ob.alloc _).alloc _).below hx | replace ob := (((ob.alloc _).alloc _).alloc _).below hx
  obtain ⟨c0_ob, c1_ob, f0_ob, f1_ob, z_ob⟩ := ob.two
  replace hb : Below w.heap.size w w8 := Below.trans (by (repeat (first | exact Below.refl _ _ | assumption | refine Below.drew ?_ | refine below_drewN ?_ _ | refine Below.setCell ?_ (by simp <;> omega) _ | refine Below.alloc ?_ (by have := hb.size; simp <;> omega) _))) (hx.mono (by have := hb.size; simp <;> omega))
  clear hx
  go_wp2_with fail
  refine (G6.out _).mono ?_
  rintro e w9 ⟨rfl, hx⟩
  try clear c0_oa c1_oa f0_oa f1_oa z_oa
  first | replace oa := oa.below hx | replace oa := (oa.alloc _).below hx | replace oa := ((oa.alloc _).alloc _).below hx | replace oa := (((oa.alloc _).alloc _).alloc _).below hx
  obtain ⟨c0_oa, c1_oa, f0_oa, f1_oa, z_oa⟩ := oa.two
  try clear c0_ob c1_ob f0_ob f1_ob z_ob
  first | replace ob := ob.below hx | replace ob := (ob.alloc _).below hx | replace ob := ((ob.alloc _).alloc _).below hx | replace ob := (((ob.alloc _).alloc _).alloc _).below hx
  obtain ⟨c0_ob, c1_ob, f0_ob, f1_ob, z_ob⟩ := ob.two
  replace hb : Below w.heap.size w w9 := Below.trans (by (repeat (first | exact Below.refl _ _ | assumption | refine Below.drew ?_ | refine below_drewN ?_ _ | refine Below.setCell ?_ (by simp <;> omega) _ | refine Below.alloc ?_ (by have := hb.size; simp <;> omega) _))) (hx.mono (by have := hb.size; simp <;> omega))
  clear hx
  go_wp2_with fail
  go_ret
  exact Ret.mk rfl hb


set_option maxHeartbeats 1600000 in
set_option maxRecDepth 100000 in
theorem rounds_x1_0 (n d x1 x2 x3 : Int) (w : World) (Hv : Hid (vldB n d = true)) (hn1 : -1000000000 ≤ n) (hn2 : n ≤ 1000000000) (hd : 1 ≤ d) (hd2 : d ≤ 1000000)
    (hx1 : -1000000000 ≤ x1) (hx2 : x1 ≤ 1000000000) (hx3 : x1 ≤ x2) (hx4 : x2 ≤ x1 + 1) (hx5 : x1 ≤ x3) (hx6 : x3 ≤ x2) (i1 : n < x1 * d + d) (i2 : x2 * d < n + d) (i3 : x1 * d ≤ n) (i4 : n ≤ x2 * d)
    (G1 : Hid (∀ w, Calls Try.prog 23 #[.agg #[.int .i64 n, .int .i64 d], .int .i64 1] w (Ret (.tuple #[.int .i64 x1, .int .i64 0]) w)))
    (G2 : Hid (∀ w, Calls Try.prog 23 #[.agg #[.int .i64 n, .int .i64 d], .int .i64 2] w (Ret (.tuple #[.int .i64 x2, .int .i64 0]) w)))
    (G3 : Hid (∀ w, Calls Try.prog 23 #[.agg #[.int .i64 n, .int .i64 d], .int .i64 3] w (Ret (.tuple #[.int .i64 x3, .int .i64 0]) w)))
    (G4 : Hid (∀ w, Calls Try.prog 23 #[.agg #[.int .i64 (-n), .int .i64 d], .int .i64 1] w (Ret (.tuple #[.int .i64 (-x2), .int .i64 0]) w)))
    (G5 : Hid (∀ w, Calls Try.prog 23 #[.agg #[.int .i64 (-n), .int .i64 d], .int .i64 2] w (Ret (.tuple #[.int .i64 (-x1), .int .i64 0]) w)))
    (G6 : Hid (∀ w, Calls Try.prog 23 #[.agg #[.int .i64 (-n), .int .i64 d], .int .i64 3] w (Ret (.tuple #[.int .i64 (-x3), .int .i64 0]) w)))
    (hd1 : d ≠ 1) (h12 : x2 = x1 + 1) (h13 : x3 = x1) (f1 : 2 * (n - x3 * d) = d) (f2 : x3.tmod 2 = 0) : Calls Try.prog 8 #[.agg #[.int .i64 n, .int .i64 d]] w (Ret (.bool true) w) := by
  have b0 : (d == 1) = false := by simpa using hd1
  have t1 : decide (n < x1 * d) = false := by simp; omega
  have t2 : decide (x2 * d < n) = false := by simp; omega
  have t3 : (x2 == x1 + 1) = true := by simpa using h12
  have t4 : (x2 != x1) = true := by simp; omega
  have u1 : decide (2 * (n - x3 * d) ≤ d) = true := by simp; omega
  have u2 : decide (-d ≤ 2 * (n - x3 * d)) = true := by simp; omega
  have u3 : (2 * (n - x3 * d) != d) = false := by simpa using f1
  have u4 : (x3.tmod 2 == 0) = true := by simpa using f2
  clear f1 f2
  subst h13
  clear hd1 h12
  have hb : Below w.heap.size w w := Below.refl _ _
  go_enter Try.func8, Try.ntmps8
  go_wp2_with fail
  refine (head_any _).mono ?_
  rintro e w1 ⟨rfl, hx⟩
  try clear c0_oa c1_oa f0_oa f1_oa z_oa
  first | have oa := (Own.new w _ _).below hx | have oa := ((Own.new w _ _).alloc _).below hx | have oa := (((Own.new w _ _).alloc _).alloc _).below hx | have oa := ((((Own.new w _ _).alloc _).alloc _).alloc _).below hx
  obtain ⟨c0_oa, c1_oa, f0_oa, f1_oa, z_oa⟩ := oa.two
  replace hb : Below w.heap.size w w1 := Below.trans (by (repeat (first | exact Below.refl _ _ | assumption | refine Below.drew ?_ | refine below_drewN ?_ _ | refine Below.setCell ?_ (by simp <;> omega) _ | refine Below.alloc ?_ (by have := hb.size; simp <;> omega) _))) (hx.mono (by have := hb.size; simp <;> omega))
  clear hx
  go_wp2_with fail
  refine (r_valid_at _ _ _ Hv.out).mono ?_
  rintro e w2 ⟨rfl, hx⟩
  try clear c0_oa c1_oa f0_oa f1_oa z_oa
  first | replace oa := oa.below hx | replace oa := (oa.alloc _).below hx | replace oa := ((oa.alloc _).alloc _).below hx | replace oa := (((oa.alloc _).alloc _).alloc _).below hx
  obtain ⟨c0_oa, c1_oa, f0_oa, f1_oa, z_oa⟩ := oa.two
  replace hb : Below w.heap.size w w2 := Below.trans (by (repeat (first | exact Below.refl _ _ | assumption | refine Below.drew ?_ | refine below_drewN ?_ _ | refine Below.setCell ?_ (by simp <;> omega) _ | refine Below.alloc ?_ (by have := hb.size; simp <;> omega) _))) (hx.mono (by have := hb.size; simp <;> omega))
  clear hx
  go_wp2_with fail
  refine (rat_any (-n) d _).mono ?_
  rintro e w3 ⟨rfl, hx⟩
  try clear c0_oa c1_oa f0_oa f1_oa z_oa
  first | replace oa := oa.below hx | replace oa := (oa.alloc _).below hx | replace oa := ((oa.alloc _).alloc _).below hx | replace oa := (((oa.alloc _).alloc _).alloc _).below hx
  obtain ⟨c0_oa, c1_oa, f0_oa, f1_oa, z_oa⟩ := oa.two
  replace hb : Below w.heap.size w w3 := Below.trans (by (repeat (first | exact Below.refl _ _ | assumption | refine Below.drew ?_ | refine below_drewN ?_ _ | refine Below.setCell ?_ (by simp <;> omega) _ | refine Below.alloc ?_ (by have := hb.size; simp <;> omega) _))) (hx.mono (by have := hb.size; simp <;> omega))
  clear hx
  go_wp2_with fail
  refine (G1.out _).mono ?_
  rintro e w4 ⟨rfl, hx⟩
  try clear c0_oa c1_oa f0_oa f1_oa z_oa
  first | replace oa := oa.below hx | replace oa := (oa.alloc _).below hx | replace oa := ((oa.alloc _).alloc _).below hx | replace oa := (((oa.alloc _).alloc _).alloc _).below hx
  obtain ⟨c0_oa, c1_oa, f0_oa, f1_oa, z_oa⟩ := oa.two
  try clear c0_ob c1_ob f0_ob f1_ob z_ob
  first | have ob := (Own.new w3 _ _).below hx | have ob := ((Own.new w3 _ _).alloc _).below hx | have ob := (((Own.new w3 _ _).alloc _).alloc _).below hx | have ob := ((((Own.new w3 _ _).alloc _).alloc _).alloc _).below hx
  obtain ⟨c0_ob, c1_ob, f0_ob, f1_ob, z_ob⟩ := ob.two
  replace hb : Below w.heap.size w w4 := Below.trans (by (repeat (first | exact Below.refl _ _ | assumption | refine Below.drew ?_ | refine below_drewN ?_ _ | refine Below.setCell ?_ (by simp <;> omega) _ | refine Below.alloc ?_ (by have := hb.size; simp <;> omega) _))) (hx.mono (by have := hb.size; simp <;> omega))
  clear hx
  go_wp2_with fail
  refine (G2.out _).mono ?_
  rintro e w5 ⟨rfl, hx⟩
  try clear c0_oa c1_oa f0_oa f1_oa z_oa
  first | replace oa := oa.below hx | replace oa := (oa.alloc _).below hx | replace oa := ((oa.alloc _).alloc _).below hx | replace oa := (((oa.alloc _).alloc _).alloc _).below hx
  obtain ⟨c0_oa, c1_oa, f0_oa, f1_oa, z_oa⟩ := oa.two
  try clear c0_ob c1_ob f0_ob f1_ob z_ob
  first | replace ob := ob.below hx | replace ob := (ob.alloc _).below hx | replace ob := ((ob.alloc _).alloc _).below hx | replace ob := (((ob.alloc _).alloc _).alloc _).below hx
  obtain ⟨c0_ob, c1_ob, f0_ob, f1_ob, z_ob⟩ := ob.two
  replace hb : Below w.heap.size w w5 := Below.trans (by (repeat (first | exact Below.refl _ _ | assumption | refine Below.drew ?_ | refine below_drewN ?_ _ | refine Below.setCell ?_ (by simp <;> omega) _ | refine Below.alloc ?_ (by have := hb.size; simp <;> omega) _))) (hx.mono (by have := hb.size; simp <;> omega))
  clear hx
  go_wp2_with fail
  refine (G3.out _).mono ?_
  rintro e w6 ⟨rfl, hx⟩
  try clear c0_oa c1_oa f0_oa f1_oa z_oa
  first | replace oa := oa.below hx | replace oa := (oa.alloc _).below hx | replace oa := ((oa.alloc _).alloc _).below hx | replace oa := (((oa.alloc _).alloc _).alloc _).below hx
  obtain ⟨c0_oa, c1_oa, f0_oa, f1_oa, z_oa⟩ := oa.two
  try clear c0_ob c1_ob f0_ob f1_ob z_ob
  first | replace ob := ob.below hx | replace ob := (ob.alloc _).below hx | replace ob := ((ob.alloc _).alloc _).below hx | replace ob := (((ob.alloc _).alloc _).alloc _).below hx
  obtain ⟨c0_ob, c1_ob, f0_ob, f1_ob, z_ob⟩ := ob.two
  replace hb : Below w.heap.size w w6 := Below.trans (by (repeat (first | exact Below.refl _ _ | assumption | refine Below.drew ?_ | refine below_drewN ?_ _ | refine Below.setCell ?_ (by simp <;> omega) _ | refine Below.alloc ?_ (by have := hb.size; simp <;> omega) _))) (hx.mono (by have := hb.size; simp <;> omega))
  clear hx
  go_wp2_with fail
  refine (G4.out _).mono ?_
  rintro e w7 ⟨rfl, hx⟩
  try clear c0_oa c1_oa f0_oa f1_oa z_oa
  first | replace oa := oa.below hx | replace oa := (oa.alloc _).below hx | replace oa := ((oa.alloc _).alloc _).below hx | replace oa := (((oa.alloc _).alloc _).alloc _).below hx
  obtain ⟨c0_oa, c1_oa, f0_oa, f1_oa, z_oa⟩ := oa.two
  try clear c0_ob c1_ob f0_ob f1_ob z_ob
  first | replace ob := ob.below hx | replace ob := (ob.alloc _).below hx | replace ob := ((ob.alloc _).alloc _).below hx | replace ob := (((ob.alloc _).alloc _).alloc _).below hx
  obtain ⟨c0_ob, c1_ob, f0_ob, f1_ob, z_ob⟩ := ob.two
  replace hb : Below w.heap.size w w7 := Below.trans (by (repeat (first | exact Below.refl _ _ | assumption | refine Below.drew ?_ | refine below_drewN ?_ _ | refine Below.setCell ?_ (by simp <;> omega) _ | refine Below.alloc ?_ (by have := hb.size; simp <;> omega) _))) (hx.mono (by have := hb.size; simp <;> omega))
  clear hx
  go_wp2_with fail
  refine (G5.out _).mono ?_
  rintro e w8 ⟨rfl, hx⟩
  try clear c0_oa c1_oa f0_oa f1_oa z_oa
  first | replace oa := oa.below hx | replace oa := (oa.alloc _).below hx | replace oa := ((oa.alloc _).alloc _).below hx | replace oa := (((oa.alloc _).alloc _).alloc _).below hx
  obtain ⟨c0_oa, c1_oa, f0_oa, f1_oa, z_oa⟩ := oa.two
  try clear c0_ob c1_ob f0_ob f1_ob z_ob
  first | replace ob := ob.below hx | replace ob := (ob.alloc _).below hx | replace ob := ((ob.alloc _).alloc _).below hx | replace ob := (((ob.alloc _).alloc _).alloc _).below hx
  obtain ⟨c0_ob, c1_ob, f0_ob, f1_ob, z_ob⟩ := ob.two
  replace hb : Below w.heap.size w w8 := Below.trans (by (repeat (first | exact Below.refl _ _ | assumption | refine Below.drew ?_ | refine below_drewN ?_ _ | refine Below.setCell ?_ (by simp <;> omega) _ | refine Below.alloc ?_ (by have := hb.size; simp <;> omega) _))) (hx.mono (by have := hb.size; simp <;> omega))
  clear hx
  go_wp2_with fail
  refine (G6.out _).mono ?_
  rintro e w9 ⟨rfl, hx⟩
  try clear c0_oa c1_oa f0_oa f1_oa z_oa
  first | replace oa := oa.below hx | replace oa := (oa.alloc _).below hx | replace oa := ((oa.alloc _).alloc _).below hx | replace oa := (((oa.alloc _).alloc _).alloc _).below hx
  obtain ⟨c0_oa, c1_oa, f0_oa, f1_oa, z_oa⟩ := oa.two
  try clear c0_ob c1_ob f0_ob f1_ob z_ob
  first | replace ob := ob.below hx | replace ob := (ob.alloc _).below hx | replace ob := ((ob.alloc _).alloc _).below hx | replace ob := (((ob.alloc _).alloc _).alloc _).below hx
  obtain ⟨c0_ob, c1_ob, f0_ob, f1_ob, z_ob⟩ := ob.two
  replace hb : Below w.heap.size w w9 := Below.trans (by (repeat (first | exact Below.refl _ _ | assumption | refine Below.drew ?_ | refine below_drewN ?_ _ | refine Below.setCell ?_ (by simp <;> omega) _ | refine Below.alloc ?_ (by have := hb.size; simp <;> omega) _))) (hx.mono (by have := hb.size; simp <;> omega))
  clear hx
  go_wp2_with fail
  go_ret
  exact Ret.mk rfl hb

set_option maxHeartbeats 1600000 in
set_option maxRecDepth 100000 in
theorem rounds_x1_1 (n d x1 x2 x3 : Int) (w : World) (Hv : Hid (vldB n d = true)) (hn1 : -1000000000 ≤ n) (hn2 : n ≤ 1000000000) (hd : 1 ≤ d) (hd2 : d ≤ 1000000)
    (hx1 : -1000000000 ≤ x1) (hx2 : x1 ≤ 1000000000) (hx3 : x1 ≤ x2) (hx4 : x2 ≤ x1 + 1) (hx5 : x1 ≤ x3) (hx6 : x3 ≤ x2) (i1 : n < x1 * d + d) (i2 : x2 * d < n + d) (i3 : x1 * d ≤ n) (i4 : n ≤ x2 * d)
    (G1 : Hid (∀ w, Calls Try.prog 23 #[.agg #[.int .i64 n, .int .i64 d], .int .i64 1] w (Ret (.tuple #[.int .i64 x1, .int .i64 0]) w)))
    (G2 : Hid (∀ w, Calls Try.prog 23 #[.agg #[.int .i64 n, .int .i64 d], .int .i64 2] w (Ret (.tuple #[.int .i64 x2, .int .i64 0]) w)))
    (G3 : Hid (∀ w, Calls Try.prog 23 #[.agg #[.int .i64 n, .int .i64 d], .int .i64 3] w (Ret (.tuple #[.int .i64 x3, .int .i64 0]) w)))
    (G4 : Hid (∀ w, Calls Try.prog 23 #[.agg #[.int .i64 (-n), .int .i64 d], .int .i64 1] w (Ret (.tuple #[.int .i64 (-x2), .int .i64 0]) w)))
    (G5 : Hid (∀ w, Calls Try.prog 23 #[.agg #[.int .i64 (-n), .int .i64 d], .int .i64 2] w (Ret (.tuple #[.int .i64 (-x1), .int .i64 0]) w)))
    (G6 : Hid (∀ w, Calls Try.prog 23 #[.agg #[.int .i64 (-n), .int .i64 d], .int .i64 3] w (Ret (.tuple #[.int .i64 (-x3), .int .i64 0]) w)))
    (hd1 : d ≠ 1) (h12 : x2 = x1 + 1) (h13 : x3 = x1) (f0 : 2 * (n - x3 * d) ≠ d) (f1 : 2 * (n - x3 * d) = -d) (f2 : x3.tmod 2 = 0) : Calls Try.prog 8 #[.agg #[.int .i64 n, .int .i64 d]] w (Ret (.bool true) w) := by
  have b0 : (d == 1) = false := by simpa using hd1
  have t1 : decide (n < x1 * d) = false := by simp; omega
  have t2 : decide (x2 * d < n) = false := by simp; omega
  have t3 : (x2 == x1 + 1) = true := by simpa using h12
  have t4 : (x2 != x1) = true := by simp; omega
  have u1 : decide (2 * (n - x3 * d) ≤ d) = true := by simp; omega
  have u2 : decide (-d ≤ 2 * (n - x3 * d)) = true := by simp; omega
  have u3 : (2 * (n - x3 * d) != d) = true := by simpa using f0
  have u5 : (2 * (n - x3 * d) != -d) = false := by simpa using f1
  have u4 : (x3.tmod 2 == 0) = true := by simpa using f2
  clear f0 f1 f2
  subst h13
  clear hd1 h12
  have hb : Below w.heap.size w w := Below.refl _ _
  go_enter Try.func8, Try.ntmps8
  go_wp2_with fail
  refine (head_any _).mono ?_
  rintro e w1 ⟨rfl, hx⟩
  try clear c0_oa c1_oa f0_oa f1_oa z_oa
  first | have oa := (Own.new w _ _).below hx | have oa := ((Own.new w _ _).alloc _).below hx | have oa := (((Own.new w _ _).alloc _).alloc _).below hx | have oa := ((((Own.new w _ _).alloc _).alloc _).alloc _).below hx
  obtain ⟨c0_oa, c1_oa, f0_oa, f1_oa, z_oa⟩ := oa.two
  replace hb : Below w.heap.size w w1 := Below.trans (by (repeat (first | exact Below.refl _ _ | assumption | refine Below.drew ?_ | refine below_drewN ?_ _ | refine Below.setCell ?_ (by simp <;> omega) _ | refine Below.alloc ?_ (by have := hb.size; simp <;> omega) _))) (hx.mono (by have := hb.size; simp <;> omega))
  clear hx
  go_wp2_with fail
  refine (r_valid_at _ _ _ Hv.out).mono ?_
  rintro e w2 ⟨rfl, hx⟩
  try clear c0_oa c1_oa f0_oa f1_oa z_oa
  first | replace oa := oa.below hx | replace oa := (oa.alloc _).below hx | replace oa := ((oa.alloc _).alloc _).below hx | replace oa := (((oa.alloc _).alloc _).alloc _).below hx
  obtain ⟨c0_oa, c1_oa, f0_oa, f1_oa, z_oa⟩ := oa.two
  replace hb : Below w.heap.size w w2 := Below.trans (by (repeat (first | exact Below.refl _ _ | assumption | refine Below.drew ?_ | refine below_drewN ?_ _ | refine Below.setCell ?_ (by simp <;> omega) _ | refine Below.alloc ?_ (by have := hb.size; simp <;> omega) _))) (hx.mono (by have := hb.size; simp <;> omega))
  clear hx
  go_wp2_with fail
  refine (rat_any (-n) d _).mono ?_
  rintro e w3 ⟨rfl, hx⟩
  try clear c0_oa c1_oa f0_oa f1_oa z_oa
  first | replace oa := oa.below hx | replace oa := (oa.alloc _).below hx | replace oa := ((oa.alloc _).alloc _).below hx | replace oa := (((oa.alloc _).alloc _).alloc _).below hx
  obtain ⟨c0_oa, c1_oa, f0_oa, f1_oa, z_oa⟩ := oa.two
  replace hb : Below w.heap.size w w3 := Below.trans (by (repeat (first | exact Below.refl _ _ | assumption | refine Below.drew ?_ | refine below_drewN ?_ _ | refine Below.setCell ?_ (by simp <;> omega) _ | refine Below.alloc ?_ (by have := hb.size; simp <;> omega) _))) (hx.mono (by have := hb.size; simp <;> omega))
  clear hx
  go_wp2_with fail
  refine (G1.out _).mono ?_
  rintro e w4 ⟨rfl, hx⟩
  try clear c0_oa c1_oa f0_oa f1_oa z_oa
  first | replace oa := oa.below hx | replace oa := (oa.alloc _).below hx | replace oa := ((oa.alloc _).alloc _).below hx | replace oa := (((oa.alloc _).alloc _).alloc _).below hx
  obtain ⟨c0_oa, c1_oa, f0_oa, f1_oa, z_oa⟩ := oa.two
  try clear c0_ob c1_ob f0_ob f1_ob z_ob
  first | have ob := (Own.new w3 _ _).below hx | have ob := ((Own.new w3 _ _).alloc _).below hx | have ob := (((Own.new w3 _ _).alloc _).alloc _).below hx | have ob := ((((Own.new w3 _ _).alloc _).alloc _).alloc _).below hx
  obtain ⟨c0_ob, c1_ob, f0_ob, f1_ob, z_ob⟩ := ob.two
  replace hb : Below w.heap.size w w4 := Below.trans (by (repeat (first | exact Below.refl _ _ | assumption | refine Below.drew ?_ | refine below_drewN ?_ _ | refine Below.setCell ?_ (by simp <;> omega) _ | refine Below.alloc ?_ (by have := hb.size; simp <;> omega) _))) (hx.mono (by have := hb.size; simp <;> omega))
  clear hx
  go_wp2_with fail
  refine (G2.out _).mono ?_
  rintro e w5 ⟨rfl, hx⟩
  try clear c0_oa c1_oa f0_oa f1_oa z_oa
  first | replace oa := oa.below hx | replace oa := (oa.alloc _).below hx | replace oa := ((oa.alloc _).alloc _).below hx | replace oa := (((oa.alloc _).alloc _).alloc _).below hx
  obtain ⟨c0_oa, c1_oa, f0_oa, f1_oa, z_oa⟩ := oa.two
  try clear c0_ob c1_ob f0_ob f1_ob z_ob
  first | replace ob := ob.below hx | replace ob := (ob.alloc _).below hx | replace ob := ((ob.alloc _).alloc _).below hx | replace ob := (((ob.alloc _).alloc _).alloc _).below hx
  obtain ⟨c0_ob, c1_ob, f0_ob, f1_ob, z_ob⟩ := ob.two
  replace hb : Below w.heap.size w w5 := Below.trans (by (repeat (first | exact Below.refl _ _ | assumption | refine Below.drew ?_ | refine below_drewN ?_ _ | refine Below.setCell ?_ (by simp <;> omega) _ | refine Below.alloc ?_ (by have := hb.size; simp <;> omega) _))) (hx.mono (by have := hb.size; simp <;> omega))
  clear hx
  go_wp2_with fail
  refine (G3.out _).mono ?_
  rintro e w6 ⟨rfl, hx⟩
  try clear c0_oa c1_oa f0_oa f1_oa z_oa
  first | replace oa := oa.below hx | replace oa := (oa.alloc _).below hx | replace oa := ((oa.alloc _).alloc _).below hx | replace oa := (((oa.alloc _).alloc _).alloc _).below hx
  obtain ⟨c0_oa, c1_oa, f0_oa, f1_oa, z_oa⟩ := oa.two
  try clear c0_ob c1_ob f0_ob f1_ob z_ob
  first | replace ob := ob.below hx | replace ob := (ob.alloc _).below hx | replace ob := ((ob.alloc _).alloc _).below hx | replace ob := (((ob.alloc _).alloc _).alloc _).below hx
  obtain ⟨c0_ob, c1_ob, f0_ob, f1_ob, z_ob⟩ := ob.two
  replace hb : Below w.heap.size w w6 := Below.trans (by (repeat (first | exact Below.refl _ _ | assumption | refine Below.drew ?_ | refine below_drewN ?_ _ | refine Below.setCell ?_ (by simp <;> omega) _ | refine Below.alloc ?_ (by have := hb.size; simp <;> omega) _))) (hx.mono (by have := hb.size; simp <;> omega))
  clear hx
  go_wp2_with fail
  refine (G4.out _).mono ?_
  rintro e w7 ⟨rfl, hx⟩
  try clear c0_oa c1_oa f0_oa f1_oa z_oa
  first | replace oa := oa.below hx | replace oa := (oa.alloc _).below hx | replace oa := ((oa.alloc _).alloc _).below hx | replace oa := (((oa.alloc _).alloc _).alloc _).below hx
  obtain ⟨c0_oa, c1_oa, f0_oa, f1_oa, z_oa⟩ := oa.two
  try clear c0_ob c1_ob f0_ob f1_ob z_ob
  first | replace ob := ob.below hx | replace ob := (ob.alloc _).below hx | replace ob := ((ob.alloc _).alloc _).below hx | replace ob := (((ob.alloc _).alloc _).alloc _).below hx
  obtain ⟨c0_ob, c1_ob, f0_ob, f1_ob, z_ob⟩ := ob.two
  replace hb : Below w.heap.size w w7 := Below.trans (by (repeat (first | exact Below.refl _ _ | assumption | refine Below.drew ?_ | refine below_drewN ?_ _ | refine Below.setCell ?_ (by simp <;> omega) _ | refine Below.alloc ?_ (by have := hb.size; simp <;> omega) _))) (hx.mono (by have := hb.size; simp <;> omega))
  clear hx
  go_wp2_with fail
  refine (G5.out _).mono ?_
  rintro e w8 ⟨rfl, hx⟩
  try clear c0_oa c1_oa f0_oa f1_oa z_oa
  first | replace oa := oa.below hx | replace oa := (oa.alloc _).below hx | replace oa := ((oa.alloc _).alloc _).below hx | replace oa := (((oa.alloc _).alloc _).alloc _).below hx
  obtain ⟨c0_oa, c1_oa, f0_oa, f1_oa, z_oa⟩ := oa.two
  try clear c0_ob c1_ob f0_ob f1_ob z_ob
  first | replace ob := ob.below hx | replace ob := (ob.alloc _).below hx | replace ob := ((ob.alloc _).alloc _).below hx | replace ob := (((ob.alloc _).alloc _).alloc _).below hx
  obtain ⟨c0_ob, c1_ob, f0_ob, f1_ob, z_ob⟩ := ob.two
  replace hb : Below w.heap.size w w8 := Below.trans (by (repeat (first | exact Below.refl _ _ | assumption | refine Below.drew ?_ | refine below_drewN ?_ _ | refine Below.setCell ?_ (by simp <;> omega) _ | refine Below.alloc ?_ (by have := hb.size; simp <;> omega) _))) (hx.mono (by have := hb.size; simp <;> omega))
  clear hx
  go_wp2_with fail
  refine (G6.out _).mono ?_
  rintro e w9 ⟨rfl, hx⟩
  try clear c0_oa c1_oa f0_oa f1_oa z_oa
  first | replace oa := oa.below hx | replace oa := (oa.alloc _).below hx | replace oa := ((oa.alloc _).alloc _).below hx | replace oa := (((oa.alloc _).alloc _).alloc _).below hx
  obtain ⟨c0_oa, c1_oa, f0_oa, f1_oa, z_oa⟩ := oa.two
  try clear c0_ob c1_ob f0_ob f1_ob z_ob
  first | replace ob := ob.below hx | replace ob := (ob.alloc _).below hx | replace ob := ((ob.alloc _).alloc _).below hx | replace ob := (((ob.alloc _).alloc _).alloc _).below hx
  obtain ⟨c0_ob, c1_ob, f0_ob, f1_ob, z_ob⟩ := ob.two
  replace hb : Below w.heap.size w w9 := Below.trans (by (repeat (first | exact Below.refl _ _ | assumption | refine Below.drew ?_ | refine below_drewN ?_ _ | refine Below.setCell ?_ (by simp <;> omega) _ | refine Below.alloc ?_ (by have := hb.size; simp <;> omega) _))) (hx.mono (by have := hb.size; simp <;> omega))
  clear hx
  go_wp2_with fail
  go_ret
  exact Ret.mk rfl hb

set_option maxHeartbeats 1600000 in
set_option maxRecDepth 100000 in
theorem rounds_x1_2 (n d x1 x2 x3 : Int) (w : World) (Hv : Hid (vldB n d = true)) (hn1 : -1000000000 ≤ n) (hn2 : n ≤ 1000000000) (hd : 1 ≤ d) (hd2 : d ≤ 1000000)
    (hx1 : -1000000000 ≤ x1) (hx2 : x1 ≤ 1000000000) (hx3 : x1 ≤ x2) (hx4 : x2 ≤ x1 + 1) (hx5 : x1 ≤ x3) (hx6 : x3 ≤ x2) (i1 : n < x1 * d + d) (i2 : x2 * d < n + d) (i3 : x1 * d ≤ n) (i4 : n ≤ x2 * d)
    (G1 : Hid (∀ w, Calls Try.prog 23 #[.agg #[.int .i64 n, .int .i64 d], .int .i64 1] w (Ret (.tuple #[.int .i64 x1, .int .i64 0]) w)))
    (G2 : Hid (∀ w, Calls Try.prog 23 #[.agg #[.int .i64 n, .int .i64 d], .int .i64 2] w (Ret (.tuple #[.int .i64 x2, .int .i64 0]) w)))
    (G3 : Hid (∀ w, Calls Try.prog 23 #[.agg #[.int .i64 n, .int .i64 d], .int .i64 3] w (Ret (.tuple #[.int .i64 x3, .int .i64 0]) w)))
    (G4 : Hid (∀ w, Calls Try.prog 23 #[.agg #[.int .i64 (-n), .int .i64 d], .int .i64 1] w (Ret (.tuple #[.int .i64 (-x2), .int .i64 0]) w)))
    (G5 : Hid (∀ w, Calls Try.prog 23 #[.agg #[.int .i64 (-n), .int .i64 d], .int .i64 2] w (Ret (.tuple #[.int .i64 (-x1), .int .i64 0]) w)))
    (G6 : Hid (∀ w, Calls Try.prog 23 #[.agg #[.int .i64 (-n), .int .i64 d], .int .i64 3] w (Ret (.tuple #[.int .i64 (-x3), .int .i64 0]) w)))
    (hd1 : d ≠ 1) (h12 : x2 = x1 + 1) (h13 : x3 = x1) (f0 : 2 * (n - x3 * d) ≠ d) (f1 : 2 * (n - x3 * d) ≠ -d) (f2 : 2 * (n - x3 * d) ≤ d) (f3 : -d ≤ 2 * (n - x3 * d)) : Calls Try.prog 8 #[.agg #[.int .i64 n, .int .i64 d]] w (Ret (.bool true) w) := by
  have b0 : (d == 1) = false := by simpa using hd1
  have t1 : decide (n < x1 * d) = false := by simp; omega
  have t2 : decide (x2 * d < n) = false := by simp; omega
  have t3 : (x2 == x1 + 1) = true := by simpa using h12
  have t4 : (x2 != x1) = true := by simp; omega
  have u1 : decide (2 * (n - x3 * d) ≤ d) = true := by simpa using f2
  have u2 : decide (-d ≤ 2 * (n - x3 * d)) = true := by simpa using f3
  have u3 : (2 * (n - x3 * d) != d) = true := by simpa using f0
  have u5 : (2 * (n - x3 * d) != -d) = true := by simpa using f1
  clear f0 f1 f2 f3
  subst h13
  clear hd1 h12
  have hb : Below w.heap.size w w := Below.refl _ _
  go_enter Try.func8, Try.ntmps8
  go_wp2_with fail
  refine (head_any _).mono ?_
  rintro e w1 ⟨rfl, hx⟩
  try clear c0_oa c1_oa f0_oa f1_oa z_oa
  first | have oa := (Own.new w _ _).below hx | have oa := ((Own.new w _ _).alloc _).below hx | have oa := (((Own.new w _ _).alloc _).alloc _).below hx | have oa := ((((Own.new w _ _).alloc _).alloc _).alloc _).below hx
  obtain ⟨c0_oa, c1_oa, f0_oa, f1_oa, z_oa⟩ := oa.two
  replace hb : Below w.heap.size w w1 := Below.trans (by (repeat (first | exact Below.refl _ _ | assumption | refine Below.drew ?_ | refine below_drewN ?_ _ | refine Below.setCell ?_ (by simp <;> omega) _ | refine Below.alloc ?_ (by have := hb.size; simp <;> omega) _))) (hx.mono (by have := hb.size; simp <;> omega))
  clear hx
  go_wp2_with fail
  refine (r_valid_at _ _ _ Hv.out).mono ?_
  rintro e w2 ⟨rfl, hx⟩
  try clear c0_oa c1_oa f0_oa f1_oa z_oa
  first | replace oa := oa.below hx | replace oa := (oa.alloc _).below hx | replace oa := ((oa.alloc _).alloc _).below hx | replace oa := (((oa.alloc _).alloc _).alloc _).below hx
  obtain ⟨c0_oa, c1_oa, f0_oa, f1_oa, z_oa⟩ := oa.two
  replace hb : Below w.heap.size w w2 := Below.trans (by (repeat (first | exact Below.refl _ _ | assumption | refine Below.drew ?_ | refine below_drewN ?_ _ | refine Below.setCell ?_ (by simp <;> omega) _ | refine Below.alloc ?_ (by have := hb.size; simp <;> omega) _))) (hx.mono (by have := hb.size; simp <;> omega))
  clear hx
  go_wp2_with fail
  refine (rat_any (-n) d _).mono ?_
  rintro e w3 ⟨rfl, hx⟩
  try clear c0_oa c1_oa f0_oa f1_oa z_oa
  first | replace oa := oa.below hx | replace oa := (oa.alloc _).below hx | replace oa := ((oa.alloc _).alloc _).below hx | replace oa := (((oa.alloc _).alloc _).alloc _).below hx
  obtain ⟨c0_oa, c1_oa, f0_oa, f1_oa, z_oa⟩ := oa.two
  replace hb : Below w.heap.size w w3 := Below.trans (by (repeat (first | exact Below.refl _ _ | assumption | refine Below.drew ?_ | refine below_drewN ?_ _ | refine Below.setCell ?_ (by simp <;> omega) _ | refine Below.alloc ?_ (by have := hb.size; simp <;> omega) _))) (hx.mono (by have := hb.size; simp <;> omega))
  clear hx
  go_wp2_with fail
  refine (G1.out _).mono ?_
  rintro e w4 ⟨rfl, hx⟩
  try clear c0_oa c1_oa f0_oa f1_oa z_oa
  first | replace oa := oa.below hx | replace oa := (oa.alloc _).below hx | replace oa := ((oa.alloc _).alloc _).below hx | replace oa := (((oa.alloc _).alloc _).alloc _).below hx
  obtain ⟨c0_oa, c1_oa, f0_oa, f1_oa, z_oa⟩ := oa.two
  try clear c0_ob c1_ob f0_ob f1_ob z_ob
  first | have ob := (Own.new w3 _ _).below hx | have ob := ((Own.new w3 _ _).alloc _).below hx | have ob := (((Own.new w3 _ _).alloc _).alloc _).below hx | have ob := ((((Own.new w3 _ _).alloc _).alloc _).alloc _).below hx
  obtain ⟨c0_ob, c1_ob, f0_ob, f1_ob, z_ob⟩ := ob.two
  replace hb : Below w.heap.size w w4 := Below.trans (by (repeat (first | exact Below.refl _ _ | assumption | refine Below.drew ?_ | refine below_drewN ?_ _ | refine Below.setCell ?_ (by simp <;> omega) _ | refine Below.alloc ?_ (by have := hb.size; simp <;> omega) _))) (hx.mono (by have := hb.size; simp <;> omega))
  clear hx
  go_wp2_with fail
  refine (G2.out _).mono ?_
  rintro e w5 ⟨rfl, hx⟩
  try clear c0_oa c1_oa f0_oa f1_oa z_oa
  first | replace oa := oa.below hx | replace oa := (oa.alloc _).below hx | replace oa := ((oa.alloc _).alloc _).below hx | replace oa := (((oa.alloc _).alloc _).alloc _).below hx
  obtain ⟨c0_oa, c1_oa, f0_oa, f1_oa, z_oa⟩ := oa.two
  try clear c0_ob c1_ob f0_ob f1_ob z_ob
  first | replace ob := ob.below hx | replace ob := (ob.alloc _).below hx | replace ob := ((ob.alloc _).alloc _).below hx | replace ob := (((ob.alloc _).alloc _).alloc _).below hx
  obtain ⟨c0_ob, c1_ob, f0_ob, f1_ob, z_ob⟩ := ob.two
  replace hb : Below w.heap.size w w5 := Below.trans (by (repeat (first | exact Below.refl _ _ | assumption | refine Below.drew ?_ | refine below_drewN ?_ _ | refine Below.setCell ?_ (by simp <;> omega) _ | refine Below.alloc ?_ (by have := hb.size; simp <;> omega) _))) (hx.mono (by have := hb.size; simp <;> omega))
  clear hx
  go_wp2_with fail
  refine (G3.out _).mono ?_
  rintro e w6 ⟨rfl, hx⟩
  try clear c0_oa c1_oa f0_oa f1_oa z_oa
  first | replace oa := oa.below hx | replace oa := (oa.alloc _).below hx | replace oa := ((oa.alloc _).alloc _).below hx | replace oa := (((oa.alloc _).alloc _).alloc _).below hx
  obtain ⟨c0_oa, c1_oa, f0_oa, f1_oa, z_oa⟩ := oa.two
  try clear c0_ob c1_ob f0_ob f1_ob z_ob
  first | replace ob := ob.below hx | replace ob := (ob.alloc _).below hx | replace ob := ((ob.alloc _).alloc _).below hx | replace ob := (((ob.alloc _).alloc _).alloc _).below hx
  obtain ⟨c0_ob, c1_ob, f0_ob, f1_ob, z_ob⟩ := ob.two
  replace hb : Below w.heap.size w w6 := Below.trans (by (repeat (first | exact Below.refl _ _ | assumption | refine Below.drew ?_ | refine below_drewN ?_ _ | refine Below.setCell ?_ (by simp <;> omega) _ | refine Below.alloc ?_ (by have := hb.size; simp <;> omega) _))) (hx.mono (by have := hb.size; simp <;> omega))
  clear hx
  go_wp2_with fail
  refine (G4.out _).mono ?_
  rintro e w7 ⟨rfl, hx⟩
  try clear c0_oa c1_oa f0_oa f1_oa z_oa
  first | replace oa := oa.below hx | replace oa := (oa.alloc _).below hx | replace oa := ((oa.alloc _).alloc _).below hx | replace oa := (((oa.alloc _).alloc _).alloc _).below hx
  obtain ⟨c0_oa, c1_oa, f0_oa, f1_oa, z_oa⟩ := oa.two
  try clear c0_ob c1_ob f0_ob f1_ob z_ob
  first | replace ob := ob.below hx | replace ob := (ob.alloc _).below hx | replace ob := ((ob.alloc _).alloc _).below hx | replace ob := (((ob.alloc _).alloc _).alloc _).below hx
  obtain ⟨c0_ob, c1_ob, f0_ob, f1_ob, z_ob⟩ := ob.two
  replace hb : Below w.heap.size w w7 := Below.trans (by (repeat (first | exact Below.refl _ _ | assumption | refine Below.drew ?_ | refine below_drewN ?_ _ | refine Below.setCell ?_ (by simp <;> omega) _ | refine Below.alloc ?_ (by have := hb.size; simp <;> omega) _))) (hx.mono (by have := hb.size; simp <;> omega))
  clear hx
  go_wp2_with fail
  refine (G5.out _).mono ?_
  rintro e w8 ⟨rfl, hx⟩
  try clear c0_oa c1_oa f0_oa f1_oa z_oa
  first | replace oa := oa.below hx | replace oa := (oa.alloc _).below hx | replace oa := ((oa.alloc _).alloc _).below hx | replace oa := (((oa.alloc _).alloc _).alloc _).below hx
  obtain ⟨c0_oa, c1_oa, f0_oa, f1_oa, z_oa⟩ := oa.two
  try clear c0_ob c1_ob f0_ob f1_ob z_ob
  first | replace ob := ob.below hx | replace ob := (ob.alloc _).below hx | replace ob := ((ob.alloc _).alloc _).below hx | replace ob := (((ob.alloc _).alloc _).alloc _).below hx
  obtain ⟨c0_ob, c1_ob, f0_ob, f1_ob, z_ob⟩ := ob.two
  replace hb : Below w.heap.size w w8 := Below.trans (by (repeat (first | exact Below.refl _ _ | assumption | refine Below.drew ?_ | refine below_drewN ?_ _ | refine Below.setCell ?_ (by simp <;> omega) _ | refine Below.alloc ?_ (by have := hb.size; simp <;> omega) _))) (hx.mono (by have := hb.size; simp <;> omega))
  clear hx
  go_wp2_with fail
  refine (G6.out _).mono ?_
  rintro e w9 ⟨rfl, hx⟩
  try clear c0_oa c1_oa f0_oa f1_oa z_oa
  first | replace oa := oa.below hx | replace oa := (oa.alloc _).below hx | replace oa := ((oa.alloc _).alloc _).below hx | replace oa := (((oa.alloc _).alloc _).alloc _).below hx
  obtain ⟨c0_oa, c1_oa, f0_oa, f1_oa, z_oa⟩ := oa.two
  try clear c0_ob c1_ob f0_ob f1_ob z_ob
  first | replace ob := ob.below hx | replace ob := (ob.alloc _).below hx | replace ob := ((ob.alloc _).alloc _).below hx | replace ob := (((ob.alloc _).alloc _).alloc _).below hx
  obtain ⟨c0_ob, c1_ob, f0_ob, f1_ob, z_ob⟩ := ob.two
  replace hb : Below w.heap.size w w9 := Below.trans (by (repeat (first | exact Below.refl _ _ | assumption | refine Below.drew ?_ | refine below_drewN ?_ _ | refine Below.setCell ?_ (by simp <;> omega) _ | refine Below.alloc ?_ (by have := hb.size; simp <;> omega) _))) (hx.mono (by have := hb.size; simp <;> omega))
  clear hx
  go_wp2_with fail
  go_ret
  exact Ret.mk rfl hb

set_option maxHeartbeats 1600000 in
set_option maxRecDepth 100000 in
theorem rounds_x2_0 (n d x1 x2 x3 : Int) (w : World) (Hv : Hid (vldB n d = true)) (hn1 : -1000000000 ≤ n) (hn2 : n ≤ 1000000000) (hd : 1 ≤ d) (hd2 : d ≤ 1000000)
    (hx1 : -1000000000 ≤ x1) (hx2 : x1 ≤ 1000000000) (hx3 : x1 ≤ x2) (hx4 : x2 ≤ x1 + 1) (hx5 : x1 ≤ x3) (hx6 : x3 ≤ x2) (i1 : n < x1 * d + d) (i2 : x2 * d < n + d) (i3 : x1 * d ≤ n) (i4 : n ≤ x2 * d)
    (G1 : Hid (∀ w, Calls Try.prog 23 #[.agg #[.int .i64 n, .int .i64 d], .int .i64 1] w (Ret (.tuple #[.int .i64 x1, .int .i64 0]) w)))
    (G2 : Hid (∀ w, Calls Try.prog 23 #[.agg #[.int .i64 n, .int .i64 d], .int .i64 2] w (Ret (.tuple #[.int .i64 x2, .int .i64 0]) w)))
    (G3 : Hid (∀ w, Calls Try.prog 23 #[.agg #[.int .i64 n, .int .i64 d], .int .i64 3] w (Ret (.tuple #[.int .i64 x3, .int .i64 0]) w)))
    (G4 : Hid (∀ w, Calls Try.prog 23 #[.agg #[.int .i64 (-n), .int .i64 d], .int .i64 1] w (Ret (.tuple #[.int .i64 (-x2), .int .i64 0]) w)))
    (G5 : Hid (∀ w, Calls Try.prog 23 #[.agg #[.int .i64 (-n), .int .i64 d], .int .i64 2] w (Ret (.tuple #[.int .i64 (-x1), .int .i64 0]) w)))
    (G6 : Hid (∀ w, Calls Try.prog 23 #[.agg #[.int .i64 (-n), .int .i64 d], .int .i64 3] w (Ret (.tuple #[.int .i64 (-x3), .int .i64 0]) w)))
    (hd1 : d ≠ 1) (h12 : x2 = x1 + 1) (h13 : x3 = x2) (f1 : 2 * (n - x3 * d) = d) (f2 : x3.tmod 2 = 0) : Calls Try.prog 8 #[.agg #[.int .i64 n, .int .i64 d]] w (Ret (.bool true) w) := by
  have b0 : (d == 1) = false := by simpa using hd1
  have t1 : decide (n < x1 * d) = false := by simp; omega
  have t2 : decide (x2 * d < n) = false := by simp; omega
  have t3 : (x2 == x1 + 1) = true := by simpa using h12
  have t4 : (x2 != x1) = true := by simp; omega
  have u1 : decide (2 * (n - x3 * d) ≤ d) = true := by simp; omega
  have u2 : decide (-d ≤ 2 * (n - x3 * d)) = true := by simp; omega
  have u3 : (2 * (n - x3 * d) != d) = false := by simpa using f1
  have u4 : (x3.tmod 2 == 0) = true := by simpa using f2
  clear f1 f2
  subst h13
  clear hd1 h12
  have hb : Below w.heap.size w w := Below.refl _ _
  go_enter Try.func8, Try.ntmps8
  go_wp2_with fail
  refine (head_any _).mono ?_
  rintro e w1 ⟨rfl, hx⟩
  try clear c0_oa c1_oa f0_oa f1_oa z_oa
  first | have oa := (Own.new w _ _).below hx | have oa := ((Own.new w _ _).alloc _).below hx | have oa := (((Own.new w _ _).alloc _).alloc _).below hx | have oa := ((((Own.new w _ _).alloc _).alloc _).alloc _).below hx
  obtain ⟨c0_oa, c1_oa, f0_oa, f1_oa, z_oa⟩ := oa.two
  replace hb : Below w.heap.size w w1 := Below.trans (by (repeat (first | exact Below.refl _ _ | assumption | refine Below.drew ?_ | refine below_drewN ?_ _ | refine Below.setCell ?_ (by simp <;> omega) _ | refine Below.alloc ?_ (by have := hb.size; simp <;> omega) _))) (hx.mono (by have := hb.size; simp <;> omega))
  clear hx
  go_wp2_with fail
  refine (r_valid_at _ _ _ Hv.out).mono ?_
  rintro e w2 ⟨rfl, hx⟩
  try clear c0_oa c1_oa f0_oa f1_oa z_oa
  first | replace oa := oa.below hx | replace oa := (oa.alloc _).below hx | replace oa := ((oa.alloc _).alloc _).below hx | replace oa := (((oa.alloc _).alloc _).alloc _).below hx
  obtain ⟨c0_oa, c1_oa, f0_oa, f1_oa, z_oa⟩ := oa.two
  replace hb : Below w.heap.size w w2 := Below.trans (by (repeat (first | exact Below.refl _ _ | assumption | refine Below.drew ?_ | refine below_drewN ?_ _ | refine Below.setCell ?_ (by simp <;> omega) _ | refine Below.alloc ?_ (by have := hb.size; simp <;> omega) _))) (hx.mono (by have := hb.size; simp <;> omega))
  clear hx
  go_wp2_with fail
  refine (rat_any (-n) d _).mono ?_
  rintro e w3 ⟨rfl, hx⟩
  try clear c0_oa c1_oa f0_oa f1_oa z_oa
  first | replace oa := oa.below hx | replace oa := (oa.alloc _).below hx | replace oa := ((oa.alloc _).alloc _).below hx | replace oa := (((oa.alloc _).alloc _).alloc _).below hx
  obtain ⟨c0_oa, c1_oa, f0_oa, f1_oa, z_oa⟩ := oa.two
  replace hb : Below w.heap.size w w3 := Below.trans (by (repeat (first | exact Below.refl _ _ | assumption | refine Below.drew ?_ | refine below_drewN ?_ _ | refine Below.setCell ?_ (by simp <;> omega) _ | refine Below.alloc ?_ (by have := hb.size; simp <;> omega) _))) (hx.mono (by have := hb.size; simp <;> omega))
  clear hx
  go_wp2_with fail
  refine (G1.out _).mono ?_
  rintro e w4 ⟨rfl, hx⟩
  try clear c0_oa c1_oa f0_oa f1_oa z_oa
  first | replace oa := oa.below hx | replace oa := (oa.alloc _).below hx | replace oa := ((oa.alloc _).alloc _).below hx | replace oa := (((oa.alloc _).alloc _).alloc _).below hx
  obtain ⟨c0_oa, c1_oa, f0_oa, f1_oa, z_oa⟩ := oa.two
  try clear c0_ob c1_ob f0_ob f1_ob z_ob
  first | have ob := (Own.new w3 _ _).below hx | have ob := ((Own.new w3 _ _).alloc _).below hx | have ob := (((Own.new w3 _ _).alloc _).alloc _).below hx | have ob := ((((Own.new w3 _ _).alloc _).alloc _).alloc _).below hx
  obtain ⟨c0_ob, c1_ob, f0_ob, f1_ob, z_ob⟩ := ob.two
  replace hb : Below w.heap.size w w4 := Below.trans (by (repeat (first | exact Below.refl _ _ | assumption | refine Below.drew ?_ | refine below_drewN ?_ _ | refine Below.setCell ?_ (by simp <;> omega) _ | refine Below.alloc ?_ (by have := hb.size; simp <;> omega) _))) (hx.mono (by have := hb.size; simp <;> omega))
  clear hx
  go_wp2_with fail
  refine (G2.out _).mono ?_
  rintro e w5 ⟨rfl, hx⟩
  try clear c0_oa c1_oa f0_oa f1_oa z_oa
  first | replace oa := oa.below hx | replace oa := (oa.alloc _).below hx | replace oa := ((oa.alloc _).alloc _).below hx | replace oa := (((oa.alloc _).alloc _).alloc _).below hx
  obtain ⟨c0_oa, c1_oa, f0_oa, f1_oa, z_oa⟩ := oa.two
  try clear c0_ob c1_ob f0_ob f1_ob z_ob
  first | replace ob := ob.below hx | replace ob := (ob.alloc _).below hx | replace ob := ((ob.alloc _).alloc _).below hx | replace ob := (((ob.alloc _).alloc _).alloc _).below hx
  obtain ⟨c0_ob, c1_ob, f0_ob, f1_ob, z_ob⟩ := ob.two
  replace hb : Below w.heap.size w w5 := Below.trans (by (repeat (first | exact Below.refl _ _ | assumption | refine Below.drew ?_ | refine below_drewN ?_ _ | refine Below.setCell ?_ (by simp <;> omega) _ | refine Below.alloc ?_ (by have := hb.size; simp <;> omega) _))) (hx.mono (by have := hb.size; simp <;> omega))
  clear hx
  go_wp2_with fail
  refine (G3.out _).mono ?_
  rintro e w6 ⟨rfl, hx⟩
  try clear c0_oa c1_oa f0_oa f1_oa z_oa
  first | replace oa := oa.below hx | replace oa := (oa.alloc _).below hx | replace oa := ((oa.alloc _).alloc _).below hx | replace oa := (((oa.alloc _).alloc _).alloc _).below hx
  obtain ⟨c0_oa, c1_oa, f0_oa, f1_oa, z_oa⟩ := oa.two
  try clear c0_ob c1_ob f0_ob f1_ob z_ob
  first | replace ob := ob.below hx | replace ob := (ob.alloc _).below hx | replace ob := ((ob.alloc _).alloc _).below hx | replace ob := (((ob.alloc _).alloc _).alloc _).below hx
  obtain ⟨c0_ob, c1_ob, f0_ob, f1_ob, z_ob⟩ := ob.two
  replace hb : Below w.heap.size w w6 := Below.trans (by (repeat (first | exact Below.refl _ _ | assumption | refine Below.drew ?_ | refine below_drewN ?_ _ | refine Below.setCell ?_ (by simp <;> omega) _ | refine Below.alloc ?_ (by have := hb.size; simp <;> omega) _))) (hx.mono (by have := hb.size; simp <;> omega))
  clear hx
  go_wp2_with fail
  refine (G4.out _).mono ?_
  rintro e w7 ⟨rfl, hx⟩
  try clear c0_oa c1_oa f0_oa f1_oa z_oa
  first | replace oa := oa.below hx | replace oa := (oa.alloc _).below hx | replace oa := ((oa.alloc _).alloc _).below hx | replace oa := (((oa.alloc _).alloc _).alloc _).below hx
  obtain ⟨c0_oa, c1_oa, f0_oa, f1_oa, z_oa⟩ := oa.two
  try clear c0_ob c1_ob f0_ob f1_ob z_ob
  first | replace ob := ob.below hx | replace ob := (ob.alloc _).below hx | replace ob := ((ob.alloc _).alloc _).below hx | replace ob := (((ob.alloc _).alloc _).alloc _).below hx
  obtain ⟨c0_ob, c1_ob, f0_ob, f1_ob, z_ob⟩ := ob.two
  replace hb : Below w.heap.size w w7 := Below.trans (by (repeat (first | exact Below.refl _ _ | assumption | refine Below.drew ?_ | refine below_drewN ?_ _ | refine Below.setCell ?_ (by simp <;> omega) _ | refine Below.alloc ?_ (by have := hb.size; simp <;> omega) _))) (hx.mono (by have := hb.size; simp <;> omega))
  clear hx
  go_wp2_with fail
  refine (G5.out _).mono ?_
  rintro e w8 ⟨rfl, hx⟩
  try clear c0_oa c1_oa f0_oa f1_oa z_oa
  first | replace oa := oa.below hx | replace oa := (oa.alloc _).below hx | replace oa := ((oa.alloc _).alloc _).below hx | replace oa := (((oa.alloc _).alloc _).alloc _).below hx
  obtain ⟨c0_oa, c1_oa, f0_oa, f1_oa, z_oa⟩ := oa.two
  try clear c0_ob c1_ob f0_ob f1_ob z_ob
  first | replace ob := ob.below hx | replace ob := (ob.alloc _).below hx | replace ob := ((ob.alloc _).alloc _).below hx | replace ob := (((ob.alloc _).alloc _).alloc _).below hx
  obtain ⟨c0_ob, c1_ob, f0_ob, f1_ob, z_ob⟩ := ob.two
  replace hb : Below w.heap.size w w8 := Below.trans (by (repeat (first | exact Below.refl _ _ | assumption | refine Below.drew ?_ | refine below_drewN ?_ _ | refine Below.setCell ?_ (by simp <;> omega) _ | refine Below.alloc ?_ (by have := hb.size; simp <;> omega) _))) (hx.mono (by have := hb.size; simp <;> omega))
  clear hx
  go_wp2_with fail
  refine (G6.out _).mono ?_
  rintro e w9 ⟨rfl, hx⟩
  try clear c0_oa c1_oa f0_oa f1_oa z_oa
  first | replace oa := oa.below hx | replace oa := (oa.alloc _).below hx | replace oa := ((oa.alloc _).alloc _).below hx | replace oa := (((oa.alloc _).alloc _).alloc _).below hx
  obtain ⟨c0_oa, c1_oa, f0_oa, f1_oa, z_oa⟩ := oa.two
  try clear c0_ob c1_ob f0_ob f1_ob z_ob
  first | replace ob := ob.below hx | replace ob := (ob.alloc _).below hx | replace ob := ((ob.alloc _).alloc _).below hx | replace ob := (((ob.alloc _).alloc _).alloc _).below hx
  obtain ⟨c0_ob, c1_ob, f0_ob, f1_ob, z_ob⟩ := ob.two
  replace hb : Below w.heap.size w w9 := Below.trans (by (repeat (first | exact Below.refl _ _ | assumption | refine Below.drew ?_ | refine below_drewN ?_ _ | refine Below.setCell ?_ (by simp <;> omega) _ | refine Below.alloc ?_ (by have := hb.size; simp <;> omega) _))) (hx.mono (by have := hb.size; simp <;> omega))
  clear hx
  go_wp2_with fail
  go_ret
  exact Ret.mk rfl hb

set_option maxHeartbeats 1600000 in
set_option maxRecDepth 100000 in
theorem rounds_x2_1 (n d x1 x2 x3 : Int) (w : World) (Hv : Hid (vldB n d = true)) (hn1 : -1000000000 ≤ n) (hn2 : n ≤ 1000000000) (hd : 1 ≤ d) (hd2 : d ≤ 1000000)
    (hx1 : -1000000000 ≤ x1) (hx2 : x1 ≤ 1000000000) (hx3 : x1 ≤ x2) (hx4 : x2 ≤ x1 + 1) (hx5 : x1 ≤ x3) (hx6 : x3 ≤ x2) (i1 : n < x1 * d + d) (i2 : x2 * d < n + d) (i3 : x1 * d ≤ n) (i4 : n ≤ x2 * d)
    (G1 : Hid (∀ w, Calls Try.prog 23 #[.agg #[.int .i64 n, .int .i64 d], .int .i64 1] w (Ret (.tuple #[.int .i64 x1, .int .i64 0]) w)))
    (G2 : Hid (∀ w, Calls Try.prog 23 #[.agg #[.int .i64 n, .int .i64 d], .int .i64 2] w (Ret (.tuple #[.int .i64 x2, .int .i64 0]) w)))
    (G3 : Hid (∀ w, Calls Try.prog 23 #[.agg #[.int .i64 n, .int .i64 d], .int .i64 3] w (Ret (.tuple #[.int .i64 x3, .int .i64 0]) w)))
    (G4 : Hid (∀ w, Calls Try.prog 23 #[.agg #[.int .i64 (-n), .int .i64 d], .int .i64 1] w (Ret (.tuple #[.int .i64 (-x2), .int .i64 0]) w)))
    (G5 : Hid (∀ w, Calls Try.prog 23 #[.agg #[.int .i64 (-n), .int .i64 d], .int .i64 2] w (Ret (.tuple #[.int .i64 (-x1), .int .i64 0]) w)))
    (G6 : Hid (∀ w, Calls Try.prog 23 #[.agg #[.int .i64 (-n), .int .i64 d], .int .i64 3] w (Ret (.tuple #[.int .i64 (-x3), .int .i64 0]) w)))
    (hd1 : d ≠ 1) (h12 : x2 = x1 + 1) (h13 : x3 = x2) (f0 : 2 * (n - x3 * d) ≠ d) (f1 : 2 * (n - x3 * d) = -d) (f2 : x3.tmod 2 = 0) : Calls Try.prog 8 #[.agg #[.int .i64 n, .int .i64 d]] w (Ret (.bool true) w) := by
  have b0 : (d == 1) = false := by simpa using hd1
  have t1 : decide (n < x1 * d) = false := by simp; omega
  have t2 : decide (x2 * d < n) = false := by simp; omega
  have t3 : (x2 == x1 + 1) = true := by simpa using h12
  have t4 : (x2 != x1) = true := by simp; omega
  have u1 : decide (2 * (n - x3 * d) ≤ d) = true := by simp; omega
  have u2 : decide (-d ≤ 2 * (n - x3 * d)) = true := by simp; omega
  have u3 : (2 * (n - x3 * d) != d) = true := by simpa using f0
  have u5 : (2 * (n - x3 * d) != -d) = false := by simpa using f1
  have u4 : (x3.tmod 2 == 0) = true := by simpa using f2
  clear f0 f1 f2
  subst h13
  clear hd1 h12
  have hb : Below w.heap.size w w := Below.refl _ _
  go_enter Try.func8, Try.ntmps8
  go_wp2_with fail
  refine (head_any _).mono ?_
  rintro e w1 ⟨rfl, hx⟩
  try clear c0_oa c1_oa f0_oa f1_oa z_oa
  first | have oa := (Own.new w _ _).below hx | have oa := ((Own.new w _ _).alloc _).below hx | have oa := (((Own.new w _ _).alloc _).alloc _).below hx | have oa := ((((Own.new w _ _).alloc _).alloc _).alloc _).below hx
  obtain ⟨c0_oa, c1_oa, f0_oa, f1_oa, z_oa⟩ := oa.two
  replace hb : Below w.heap.size w w1 := Below.trans (by (repeat (first | exact Below.refl _ _ | assumption | refine Below.drew ?_ | refine below_drewN ?_ _ | refine Below.setCell ?_ (by simp <;> omega) _ | refine Below.alloc ?_ (by have := hb.size; simp <;> omega) _))) (hx.mono (by have := hb.size; simp <;> omega))
  clear hx
  go_wp2_with fail
  refine (r_valid_at _ _ _ Hv.out).mono ?_
  rintro e w2 ⟨rfl, hx⟩
  try clear c0_oa c1_oa f0_oa f1_oa z_oa
  first | replace oa := oa.below hx | replace oa := (oa.alloc _).below hx | replace oa := ((oa.alloc _).alloc _).below hx | replace oa := (((oa.alloc _).alloc _).alloc _).below hx
  obtain ⟨c0_oa, c1_oa, f0_oa, f1_oa, z_oa⟩ := oa.two
  replace hb : Below w.heap.size w w2 := Below.trans (by (repeat (first | exact Below.refl _ _ | assumption | refine Below.drew ?_ | refine below_drewN ?_ _ | refine Below.setCell ?_ (by simp <;> omega) _ | refine Below.alloc ?_ (by have := hb.size; simp <;> omega) _))) (hx.mono (by have := hb.size; simp <;> omega))
  clear hx
  go_wp2_with fail
  refine (rat_any (-n) d _).mono ?_
  rintro e w3 ⟨rfl, hx⟩
  try clear c0_oa c1_oa f0_oa f1_oa z_oa
  first | replace oa := oa.below hx | replace oa := (oa.alloc _).below hx | replace oa := ((oa.alloc _).alloc _).below hx | replace oa := (((oa.alloc _).alloc _).alloc _).below hx
  obtain ⟨c0_oa, c1_oa, f0_oa, f1_oa, z_oa⟩ := oa.two
  replace hb : Below w.heap.size w w3 := Below.trans (by (repeat (first | exact Below.refl _ _ | assumption | refine Below.drew ?_ | refine below_drewN ?_ _ | refine Below.setCell ?_ (by simp <;> omega) _ | refine Below.alloc ?_ (by have := hb.size; simp <;> omega) _))) (hx.mono (by have := hb.size; simp <;> omega))
  clear hx
  go_wp2_with fail
  refine (G1.out _).mono ?_
  rintro e w4 ⟨rfl, hx⟩
  try clear c0_oa c1_oa f0_oa f1_oa z_oa
  first | replace oa := oa.below hx | replace oa := (oa.alloc _).below hx | replace oa := ((oa.alloc _).alloc _).below hx | replace oa := (((oa.alloc _).alloc _).alloc _).below hx
  obtain ⟨c0_oa, c1_oa, f0_oa, f1_oa, z_oa⟩ := oa.two
  try clear c0_ob c1_ob f0_ob f1_ob z_ob
  first | have ob := (Own.new w3 _ _).below hx | have ob := ((Own.new w3 _ _).alloc _).below hx | have ob := (((Own.new w3 _ _).alloc _).alloc _).below hx | have ob := ((((Own.new w3 _ _).alloc _).alloc _).alloc _).below hx
  obtain ⟨c0_ob, c1_ob, f0_ob, f1_ob, z_ob⟩ := ob.two
  replace hb : Below w.heap.size w w4 := Below.trans (by (repeat (first | exact Below.refl _ _ | assumption | refine Below.drew ?_ | refine below_drewN ?_ _ | refine Below.setCell ?_ (by simp <;> omega) _ | refine Below.alloc ?_ (by have := hb.size; simp <;> omega) _))) (hx.mono (by have := hb.size; simp <;> omega))
  clear hx
  go_wp2_with fail
  refine (G2.out _).mono ?_
  rintro e w5 ⟨rfl, hx⟩
  try clear c0_oa c1_oa f0_oa f1_oa z_oa
  first | replace oa := oa.below hx | replace oa := (oa.alloc _).below hx | replace oa := ((oa.alloc _).alloc _).below hx | replace oa := (((oa.alloc _).alloc _).alloc _).below hx
  obtain ⟨c0_oa, c1_oa, f0_oa, f1_oa, z_oa⟩ := oa.two
  try clear c0_ob c1_ob f0_ob f1_ob z_ob
  first | replace ob := ob.below hx | replace ob := (ob.alloc _).below hx | replace ob := ((ob.alloc _).alloc _).below hx | replace ob := (((ob.alloc _).alloc _).alloc _).below hx
  obtain ⟨c0_ob, c1_ob, f0_ob, f1_ob, z_ob⟩ := ob.two
  replace hb : Below w.heap.size w w5 := Below.trans (by (repeat (first | exact Below.refl _ _ | assumption | refine Below.drew ?_ | refine below_drewN ?_ _ | refine Below.setCell ?_ (by simp <;> omega) _ | refine Below.alloc ?_ (by have := hb.size; simp <;> omega) _))) (hx.mono (by have := hb.size; simp <;> omega))
  clear hx
  go_wp2_with fail
  refine (G3.out _).mono ?_
  rintro e w6 ⟨rfl, hx⟩
  try clear c0_oa c1_oa f0_oa f1_oa z_oa
  first | replace oa := oa.below hx | replace oa := (oa.alloc _).below hx | replace oa := ((oa.alloc _).alloc _).below hx | replace oa := (((oa.alloc _).alloc _).alloc _).below hx
  obtain ⟨c0_oa, c1_oa, f0_oa, f1_oa, z_oa⟩ := oa.two
  try clear c0_ob c1_ob f0_ob f1_ob z_ob
  first | replace ob := ob.below hx | replace ob := (ob.alloc _).below hx | replace ob := ((ob.alloc _).alloc _).below hx | replace ob := (((ob.alloc _).alloc _).alloc _).below hx
  obtain ⟨c0_ob, c1_ob, f0_ob, f1_ob, z_ob⟩ := ob.two
  replace hb : Below w.heap.size w w6 := Below.trans (by (repeat (first | exact Below.refl _ _ | assumption | refine Below.drew ?_ | refine below_drewN ?_ _ | refine Below.setCell ?_ (by simp <;> omega) _ | refine Below.alloc ?_ (by have := hb.size; simp <;> omega) _))) (hx.mono (by have := hb.size; simp <;> omega))
  clear hx
  go_wp2_with fail
  refine (G4.out _).mono ?_
  rintro e w7 ⟨rfl, hx⟩
  try clear c0_oa c1_oa f0_oa f1_oa z_oa
  first | replace oa := oa.below hx | replace oa := (oa.alloc _).below hx | replace oa := ((oa.alloc _).alloc _).below hx | replace oa := (((oa.alloc _).alloc _).alloc _).below hx
  obtain ⟨c0_oa, c1_oa, f0_oa, f1_oa, z_oa⟩ := oa.two
  try clear c0_ob c1_ob f0_ob f1_ob z_ob
  first | replace ob := ob.below hx | replace ob := (ob.alloc _).below hx | replace ob := ((ob.alloc _).alloc _).below hx | replace ob := (((ob.alloc _).alloc _).alloc _).below hx
  obtain ⟨c0_ob, c1_ob, f0_ob, f1_ob, z_ob⟩ := ob.two
  replace hb : Below w.heap.size w w7 := Below.trans (by (repeat (first | exact Below.refl _ _ | assumption | refine Below.drew ?_ | refine below_drewN ?_ _ | refine Below.setCell ?_ (by simp <;> omega) _ | refine Below.alloc ?_ (by have := hb.size; simp <;> omega) _))) (hx.mono (by have := hb.size; simp <;> omega))
  clear hx
  go_wp2_with fail
  refine (G5.out _).mono ?_
  rintro e w8 ⟨rfl, hx⟩
  try clear c0_oa c1_oa f0_oa f1_oa z_oa
  first | replace oa := oa.below hx | replace oa := (oa.alloc _).below hx | replace oa := ((oa.alloc _).alloc _).below hx | replace oa := (((oa.alloc _).alloc _).alloc _).below hx
  obtain ⟨c0_oa, c1_oa, f0_oa, f1_oa, z_oa⟩ := oa.two
  try clear c0_ob c1_ob f0_ob f1_ob z_ob
  first | replace ob := ob.below hx | replace ob := (ob.alloc _).below hx | replace ob := ((ob.alloc _).alloc _).below hx | replace ob := (((ob.alloc _).alloc _).alloc _).below hx
  obtain ⟨c0_ob, c1_ob, f0_ob, f1_ob, z_ob⟩ := ob.two
  replace hb : Below w.heap.size w w8 := Below.trans (by (repeat (first | exact Below.refl _ _ | assumption | refine Below.drew ?_ | refine below_drewN ?_ _ | refine Below.setCell ?_ (by simp <;> omega) _ | refine Below.alloc ?_ (by have := hb.size; simp <;> omega) _))) (hx.mono (by have := hb.size; simp <;> omega))
  clear hx
  go_wp2_with fail
  refine (G6.out _).mono ?_
  rintro e w9 ⟨rfl, hx⟩
  try clear c0_oa c1_oa f0_oa f1_oa z_oa
  first | replace oa := oa.below hx | replace oa := (oa.alloc _).below hx | replace oa := ((oa.alloc _).alloc _).below hx | replace oa := (((oa.alloc _).alloc _).alloc _).below hx
  obtain ⟨c0_oa, c1_oa, f0_oa, f1_oa, z_oa⟩ := oa.two
  try clear c0_ob c1_ob f0_ob f1_ob z_ob
  first | replace ob := ob.below hx | replace ob := (ob.alloc _).below hx | replace ob := ((ob.alloc _).alloc _).below hx | replace ob := (((ob.alloc _).alloc _).alloc _).below hx
  obtain ⟨c0_ob, c1_ob, f0_ob, f1_ob, z_ob⟩ := ob.two
  replace hb : Below w.heap.size w w9 := Below.trans (by (repeat (first | exact Below.refl _ _ | assumption | refine Below.drew ?_ | refine below_drewN ?_ _ | refine Below.setCell ?_ (by simp <;> omega) _ | refine Below.alloc ?_ (by have := hb.size; simp <;> omega) _))) (hx.mono (by have := hb.size; simp <;> omega))
  clear hx
  go_wp2_with fail
  go_ret
  exact Ret.mk rfl hb

set_option maxHeartbeats 1600000 in
set_option maxRecDepth 100000 in
theorem rounds_x2_2 (n d x1 x2 x3 : Int) (w : World) (Hv : Hid (vldB n d = true)) (hn1 : -1000000000 ≤ n) (hn2 : n ≤ 1000000000) (hd : 1 ≤ d) (hd2 : d ≤ 1000000)
    (hx1 : -1000000000 ≤ x1) (hx2 : x1 ≤ 1000000000) (hx3 : x1 ≤ x2) (hx4 : x2 ≤ x1 + 1) (hx5 : x1 ≤ x3) (hx6 : x3 ≤ x2) (i1 : n < x1 * d + d) (i2 : x2 * d < n + d) (i3 : x1 * d ≤ n) (i4 : n ≤ x2 * d)
    (G1 : Hid (∀ w, Calls Try.prog 23 #[.agg #[.int .i64 n, .int .i64 d], .int .i64 1] w (Ret (.tuple #[.int .i64 x1, .int .i64 0]) w)))
    (G2 : Hid (∀ w, Calls Try.prog 23 #[.agg #[.int .i64 n, .int .i64 d], .int .i64 2] w (Ret (.tuple #[.int .i64 x2, .int .i64 0]) w)))
    (G3 : Hid (∀ w, Calls Try.prog 23 #[.agg #[.int .i64 n, .int .i64 d], .int .i64 3] w (Ret (.tuple #[.int .i64 x3, .int .i64 0]) w)))
    (G4 : Hid (∀ w, Calls Try.prog 23 #[.agg #[.int .i64 (-n), .int .i64 d], .int .i64 1] w (Ret (.tuple #[.int .i64 (-x2), .int .i64 0]) w)))
    (G5 : Hid (∀ w, Calls Try.prog 23 #[.agg #[.int .i64 (-n), .int .i64 d], .int .i64 2] w (Ret (.tuple #[.int .i64 (-x1), .int .i64 0]) w)))
    (G6 : Hid (∀ w, Calls Try.prog 23 #[.agg #[.int .i64 (-n), .int .i64 d], .int .i64 3] w (Ret (.tuple #[.int .i64 (-x3), .int .i64 0]) w)))
    (hd1 : d ≠ 1) (h12 : x2 = x1 + 1) (h13 : x3 = x2) (f0 : 2 * (n - x3 * d) ≠ d) (f1 : 2 * (n - x3 * d) ≠ -d) (f2 : 2 * (n - x3 * d) ≤ d) (f3 : -d ≤ 2 * (n - x3 * d)) : Calls Try.prog 8 #[.agg #[.int .i64 n, .int .i64 d]] w (Ret (.bool true) w) := by
  have b0 : (d == 1) = false := by simpa using hd1
  have t1 : decide (n < x1 * d) = false := by simp; omega
  have t2 : decide (x2 * d < n) = false := by simp; omega
  have t3 : (x2 == x1 + 1) = true := by simpa using h12
  have t4 : (x2 != x1) = true := by simp; omega
  have u1 : decide (2 * (n - x3 * d) ≤ d) = true := by simpa using f2
  have u2 : decide (-d ≤ 2 * (n - x3 * d)) = true := by simpa using f3
  have u3 : (2 * (n - x3 * d) != d) = true := by simpa using f0
  have u5 : (2 * (n - x3 * d) != -d) = true := by simpa using f1
  clear f0 f1 f2 f3
  subst h13
  clear hd1 h12
  have hb : Below w.heap.size w w := Below.refl _ _
  go_enter Try.func8, Try.ntmps8
  go_wp2_with fail
  refine (head_any _).mono ?_
  rintro e w1 ⟨rfl, hx⟩
  try clear c0_oa c1_oa f0_oa f1_oa z_oa
  first | have oa := (Own.new w _ _).below hx | have oa := ((Own.new w _ _).alloc _).below hx | have oa := (((Own.new w _ _).alloc _).alloc _).below hx | have oa := ((((Own.new w _ _).alloc _).alloc _).alloc _).below hx
  obtain ⟨c0_oa, c1_oa, f0_oa, f1_oa, z_oa⟩ := oa.two
  replace hb : Below w.heap.size w w1 := Below.trans (by (repeat (first | exact Below.refl _ _ | assumption | refine Below.drew ?_ | refine below_drewN ?_ _ | refine Below.setCell ?_ (by simp <;> omega) _ | refine Below.alloc ?_ (by have := hb.size; simp <;> omega) _))) (hx.mono (by have := hb.size; simp <;> omega))
  clear hx
  go_wp2_with fail
  refine (r_valid_at _ _ _ Hv.out).mono ?_
  rintro e w2 ⟨rfl, hx⟩
  try clear c0_oa c1_oa f0_oa f1_oa z_oa
  first | replace oa := oa.below hx | replace oa := (oa.alloc _).below hx | replace oa := ((oa.alloc _).alloc _).below hx | replace oa := (((oa.alloc _).alloc _).alloc _).below hx
  obtain ⟨c0_oa, c1_oa, f0_oa, f1_oa, z_oa⟩ := oa.two
  replace hb : Below w.heap.size w w2 := Below.trans (by (repeat (first | exact Below.refl _ _ | assumption | refine Below.drew ?_ | refine below_drewN ?_ _ | refine Below.setCell ?_ (by simp <;> omega) _ | refine Below.alloc ?_ (by have := hb.size; simp <;> omega) _))) (hx.mono (by have := hb.size; simp <;> omega))
  clear hx
  go_wp2_with fail
  refine (rat_any (-n) d _).mono ?_
  rintro e w3 ⟨rfl, hx⟩
  try clear c0_oa c1_oa f0_oa f1_oa z_oa
  first | replace oa := oa.below hx | replace oa := (oa.alloc _).below hx | replace oa := ((oa.alloc _).alloc _).below hx | replace oa := (((oa.alloc _).alloc _).alloc _).below hx
  obtain ⟨c0_oa, c1_oa, f0_oa, f1_oa, z_oa⟩ := oa.two
  replace hb : Below w.heap.size w w3 := Below.trans (by (repeat (first | exact Below.refl _ _ | assumption | refine Below.drew ?_ | refine below_drewN ?_ _ | refine Below.setCell ?_ (by simp <;> omega) _ | refine Below.alloc ?_ (by have := hb.size; simp <;> omega) _))) (hx.mono (by have := hb.size; simp <;> omega))
  clear hx
  go_wp2_with fail
  refine (G1.out _).mono ?_
  rintro e w4 ⟨rfl, hx⟩
  try clear c0_oa c1_oa f0_oa f1_oa z_oa
  first | replace oa := oa.below hx | replace oa := (oa.alloc _).below hx | replace oa := ((oa.alloc _).alloc _).below hx | replace oa := (((oa.alloc _).alloc _).alloc _).below hx
  obtain ⟨c0_oa, c1_oa, f0_oa, f1_oa, z_oa⟩ := oa.two
  try clear c0_ob c1_ob f0_ob f1_ob z_ob
  first | have ob := (Own.new w3 _ _).below hx | have ob := ((Own.new w3 _ _).alloc _).below hx | have ob := (((Own.new w3 _ _).alloc _).alloc _).below hx | have ob := ((((Own.new w3 _ _).alloc _).alloc _).alloc _).below hx
  obtain ⟨c0_ob, c1_ob, f0_ob, f1_ob, z_ob⟩ := ob.two
  replace hb : Below w.heap.size w w4 := Below.trans (by (repeat (first | exact Below.refl _ _ | assumption | refine Below.drew ?_ | refine below_drewN ?_ _ | refine Below.setCell ?_ (by simp <;> omega) _ | refine Below.alloc ?_ (by have := hb.size; simp <;> omega) _))) (hx.mono (by have := hb.size; simp <;> omega))
  clear hx
  go_wp2_with fail
  refine (G2.out _).mono ?_
  rintro e w5 ⟨rfl, hx⟩
  try clear c0_oa c1_oa f0_oa f1_oa z_oa
  first | replace oa := oa.below hx | replace oa := (oa.alloc _).below hx | replace oa := ((oa.alloc _).alloc _).below hx | replace oa := (((oa.alloc _).alloc _).alloc _).below hx
  obtain ⟨c0_oa, c1_oa, f0_oa, f1_oa, z_oa⟩ := oa.two
  try clear c0_ob c1_ob f0_ob f1_ob z_ob
  first | replace ob := ob.below hx | replace ob := (ob.alloc _).below hx | replace ob := ((ob.alloc _).alloc _).below hx | replace ob := (((ob.alloc _).alloc _).alloc _).below hx
  obtain ⟨c0_ob, c1_ob, f0_ob, f1_ob, z_ob⟩ := ob.two
  replace hb : Below w.heap.size w w5 := Below.trans (by (repeat (first | exact Below.refl _ _ | assumption | refine Below.drew ?_ | refine below_drewN ?_ _ | refine Below.setCell ?_ (by simp <;> omega) _ | refine Below.alloc ?_ (by have := hb.size; simp <;> omega) _))) (hx.mono (by have := hb.size; simp <;> omega))
  clear hx
  go_wp2_with fail
  refine (G3.out _).mono ?_
  rintro e w6 ⟨rfl, hx⟩
  try clear c0_oa c1_oa f0_oa f1_oa z_oa
  first | replace oa := oa.below hx | replace oa := (oa.alloc _).below hx | replace oa := ((oa.alloc _).alloc _).below hx | replace oa := (((oa.alloc _).alloc _).alloc _).below hx
  obtain ⟨c0_oa, c1_oa, f0_oa, f1_oa, z_oa⟩ := oa.two
  try clear c0_ob c1_ob f0_ob f1_ob z_ob
  first | replace ob := ob.below hx | replace ob := (ob.alloc _).below hx | replace ob := ((ob.alloc _).alloc _).below hx | replace ob := (((ob.alloc _).alloc _).alloc _).below hx
  obtain ⟨c0_ob, c1_ob, f0_ob, f1_ob, z_ob⟩ := ob.two
  replace hb : Below w.heap.size w w6 := Below.trans (by (repeat (first | exact Below.refl _ _ | assumption | refine Below.drew ?_ | refine below_drewN ?_ _ | refine Below.setCell ?_ (by simp <;> omega) _ | refine Below.alloc ?_ (by have := hb.size; simp <;> omega) _))) (hx.mono (by have := hb.size; simp <;> omega))
  clear hx
  go_wp2_with fail
  refine (G4.out _).mono ?_
  rintro e w7 ⟨rfl, hx⟩
  try clear c0_oa c1_oa f0_oa f1_oa z_oa
  first | replace oa := oa.below hx | replace oa := (oa.alloc _).below hx | replace oa := ((oa.alloc _).alloc _).below hx | replace oa := (((oa.alloc _).alloc _).alloc _).below hx
  obtain ⟨c0_oa, c1_oa, f0_oa, f1_oa, z_oa⟩ := oa.two
  try clear c0_ob c1_ob f0_ob f1_ob z_ob
  first | replace ob := ob.below hx | replace ob := (ob.alloc _).below hx | replace ob := ((ob.alloc _).alloc _).below hx | replace ob := (((ob.alloc _).alloc _).alloc _).below hx
  obtain ⟨c0_ob, c1_ob, f0_ob, f1_ob, z_ob⟩ := ob.two
  replace hb : Below w.heap.size w w7 := Below.trans (by (repeat (first | exact Below.refl _ _ | assumption | refine Below.drew ?_ | refine below_drewN ?_ _ | refine Below.setCell ?_ (by simp <;> omega) _ | refine Below.alloc ?_ (by have := hb.size; simp <;> omega) _))) (hx.mono (by have := hb.size; simp <;> omega))
  clear hx
  go_wp2_with fail
  refine (G5.out _).mono ?_
  rintro e w8 ⟨rfl, hx⟩
  try clear c0_oa c1_oa f0_oa f1_oa z_oa
  first | replace oa := oa.below hx | replace oa := (oa.alloc _).below hx | replace oa := ((oa.alloc _).alloc _).below hx | replace oa := (((oa.alloc _).alloc _).alloc _).below hx
  obtain ⟨c0_oa, c1_oa, f0_oa, f1_oa, z_oa⟩ := oa.two
  try clear c0_ob c1_ob f0_ob f1_ob z_ob
  first | replace ob := ob.below hx | replace ob := (ob.alloc _).below hx | replace ob := ((ob.alloc _).alloc _).below hx | replace ob := (((ob.alloc _).alloc _).alloc _).below hx
  obtain ⟨c0_ob, c1_ob, f0_ob, f1_ob, z_ob⟩ := ob.two
  replace hb : Below w.heap.size w w8 := Below.trans (by (repeat (first | exact Below.refl _ _ | assumption | refine Below.drew ?_ | refine below_drewN ?_ _ | refine Below.setCell ?_ (by simp <;> omega) _ | refine Below.alloc ?_ (by have := hb.size; simp <;> omega) _))) (hx.mono (by have := hb.size; simp <;> omega))
  clear hx
  go_wp2_with fail
  refine (G6.out _).mono ?_
  rintro e w9 ⟨rfl, hx⟩
  try clear c0_oa c1_oa f0_oa f1_oa z_oa
  first | replace oa := oa.below hx | replace oa := (oa.alloc _).below hx | replace oa := ((oa.alloc _).alloc _).below hx | replace oa := (((oa.alloc _).alloc _).alloc _).below hx
  obtain ⟨c0_oa, c1_oa, f0_oa, f1_oa, z_oa⟩ := oa.two
  try clear c0_ob c1_ob f0_ob f1_ob z_ob
  first | replace ob := ob.below hx | replace ob := (ob.alloc _).below hx | replace ob := ((ob.alloc _).alloc _).below hx | replace ob := (((ob.alloc _).alloc _).alloc _).below hx
  obtain ⟨c0_ob, c1_ob, f0_ob, f1_ob, z_ob⟩ := ob.two
  replace hb : Below w.heap.size w w9 := Below.trans (by (repeat (first | exact Below.refl _ _ | assumption | refine Below.drew ?_ | refine below_drewN ?_ _ | refine Below.setCell ?_ (by simp <;> omega) _ | refine Below.alloc ?_ (by have := hb.size; simp <;> omega) _))) (hx.mono (by have := hb.size; simp <;> omega))
  clear hx
  go_wp2_with fail
  go_ret
  exact Ret.mk rfl hb

theorem walkRounds_ok (n d : Int) (w : World) (hv : vldB n d = true) : Calls Try.prog 8 #[.agg #[.int .i64 n, .int .i64 d]] w (Ret (.bool true) w) := by
  obtain ⟨hn1, hn2, hd, hd2⟩ := vld_bd hv
  have hvn := vld_neg hv
  obtain ⟨x1, x2, x3, e1, e2, e3, e4, e5, e6, ⟨j1, j2, j3, j4⟩, ⟨i1, i2⟩, i3, i4, i5, i6, i7⟩ := rounds_fact n d hv
  have G1 := Lib.hid (fun w => (by rw [← e1]; exact round_good1 n d w hv : Calls Try.prog 23 #[.agg #[.int .i64 n, .int .i64 d], .int .i64 1] w (Ret (.tuple #[.int .i64 x1, .int .i64 0]) w)))
  have G2 := Lib.hid (fun w => (by rw [← e2]; exact round_good2 n d w hv : Calls Try.prog 23 #[.agg #[.int .i64 n, .int .i64 d], .int .i64 2] w (Ret (.tuple #[.int .i64 x2, .int .i64 0]) w)))
  have G3 := Lib.hid (fun w => (by rw [← e3]; exact round_good3 n d w hv : Calls Try.prog 23 #[.agg #[.int .i64 n, .int .i64 d], .int .i64 3] w (Ret (.tuple #[.int .i64 x3, .int .i64 0]) w)))
  have G4 := Lib.hid (fun w => (by rw [← e4]; exact round_good1 (-n) d w hvn : Calls Try.prog 23 #[.agg #[.int .i64 (-n), .int .i64 d], .int .i64 1] w (Ret (.tuple #[.int .i64 (-x2), .int .i64 0]) w)))
  have G5 := Lib.hid (fun w => (by rw [← e5]; exact round_good2 (-n) d w hvn : Calls Try.prog 23 #[.agg #[.int .i64 (-n), .int .i64 d], .int .i64 2] w (Ret (.tuple #[.int .i64 (-x1), .int .i64 0]) w)))
  have G6 := Lib.hid (fun w => (by rw [← e6]; exact round_good3 (-n) d w hvn : Calls Try.prog 23 #[.agg #[.int .i64 (-n), .int .i64 d], .int .i64 3] w (Ret (.tuple #[.int .i64 (-x3), .int .i64 0]) w)))
  by_cases hd1 : d = 1
  · exact roundsA n d _ _ _ w (Lib.hid hv) hn1 hn2 hd hd2 j1 j2 j3 j4 (by omega) (by omega) i1 i2 i3 i4 G1 G2 G3 G4 G5 G6 hd1 (i6 hd1).symm (by have := i6 hd1; omega)
  · obtain ⟨k1, k2, k3, k4⟩ := i7 hd1
    by_cases f1 : 2 * (n - x3 * d) = d
    · have f2 := (tmod2 x3).2 (k4 (Or.inl f1))
      rcases i5 with h | h
      · exact rounds_x1_0 n d _ _ _ w (Lib.hid hv) hn1 hn2 hd hd2 j1 j2 j3 j4 (by omega) (by omega) i1 i2 i3 i4 G1 G2 G3 G4 G5 G6 hd1 k1 h f1 f2
      · exact rounds_x2_0 n d _ _ _ w (Lib.hid hv) hn1 hn2 hd hd2 j1 j2 j3 j4 (by omega) (by omega) i1 i2 i3 i4 G1 G2 G3 G4 G5 G6 hd1 k1 h f1 f2
    · by_cases g1 : 2 * (n - x3 * d) = -d
      · have f2 := (tmod2 x3).2 (k4 (Or.inr g1))
        rcases i5 with h | h
        · exact rounds_x1_1 n d _ _ _ w (Lib.hid hv) hn1 hn2 hd hd2 j1 j2 j3 j4 (by omega) (by omega) i1 i2 i3 i4 G1 G2 G3 G4 G5 G6 hd1 k1 h f1 g1 f2
        · exact rounds_x2_1 n d _ _ _ w (Lib.hid hv) hn1 hn2 hd hd2 j1 j2 j3 j4 (by omega) (by omega) i1 i2 i3 i4 G1 G2 G3 G4 G5 G6 hd1 k1 h f1 g1 f2
      · rcases i5 with h | h
        · exact rounds_x1_2 n d _ _ _ w (Lib.hid hv) hn1 hn2 hd hd2 j1 j2 j3 j4 (by omega) (by omega) i1 i2 i3 i4 G1 G2 G3 G4 G5 G6 hd1 k1 h f1 g1 k2 k3
        · exact rounds_x2_2 n d _ _ _ w (Lib.hid hv) hn1 hn2 hd hd2 j1 j2 j3 j4 (by omega) (by omega) i1 i2 i3 i4 G1 G2 G3 G4 G5 G6 hd1 k1 h f1 g1 k2 k3

set_option maxHeartbeats 400000 in
set_option maxRecDepth 100000 in
theorem walkRounds (n d : Int) (_h1 : (Lit.int .i64 n).wf = true) (_h2 : (Lit.int .i64 d).wf = true) (w : World) : Calls Try.prog 8 #[.agg #[.int .i64 n, .int .i64 d]] w (Ret (.bool true) w) := by
  cases hv : vldB n d with
  | true => exact walkRounds_ok n d w hv
  | false =>
    have Hv := Lib.hid hv
    clear hv
    have hb : Below w.heap.size w w := Below.refl _ _
    go_enter Try.func8, Try.ntmps8
    go_wp2_with fail
    refine (head_any _).mono ?_
    rintro e w1 ⟨rfl, hx⟩
    try clear c0_oa c1_oa f0_oa f1_oa z_oa
    first | have oa := (Own.new w _ _).below hx | have oa := ((Own.new w _ _).alloc _).below hx | have oa := (((Own.new w _ _).alloc _).alloc _).below hx | have oa := ((((Own.new w _ _).alloc _).alloc _).alloc _).below hx
    obtain ⟨c0_oa, c1_oa, f0_oa, f1_oa, z_oa⟩ := oa.two
    replace hb : Below w.heap.size w w1 := Below.trans (by (repeat (first | exact Below.refl _ _ | assumption | refine Below.drew ?_ | refine below_drewN ?_ _ | refine Below.setCell ?_ (by simp <;> omega) _ | refine Below.alloc ?_ (by have := hb.size; simp <;> omega) _))) (hx.mono (by have := hb.size; simp <;> omega))
    clear hx
    go_wp2_with fail
    refine (r_valid_at _ _ _ Hv.out).mono ?_
    rintro e w2 ⟨rfl, hx⟩
    try clear c0_oa c1_oa f0_oa f1_oa z_oa
    first | replace oa := oa.below hx | replace oa := (oa.alloc _).below hx | replace oa := ((oa.alloc _).alloc _).below hx | replace oa := (((oa.alloc _).alloc _).alloc _).below hx
    obtain ⟨c0_oa, c1_oa, f0_oa, f1_oa, z_oa⟩ := oa.two
    replace hb : Below w.heap.size w w2 := Below.trans (by (repeat (first | exact Below.refl _ _ | assumption | refine Below.drew ?_ | refine below_drewN ?_ _ | refine Below.setCell ?_ (by simp <;> omega) _ | refine Below.alloc ?_ (by have := hb.size; simp <;> omega) _))) (hx.mono (by have := hb.size; simp <;> omega))
    clear hx
    go_wp2_with fail
    go_ret
    exact Ret.mk rfl hb

theorem own_ratioRounds : ownKnob Try.prog.godebug = none := by kernel_rfl
theorem laid_ratioRounds : laidOutB Try.prog = true := by kernel_rfl

set_option maxRecDepth 100000 in
theorem lifted_ratioRounds (os : Os) (started : os.Started) (H : Type) (enc : TypeId × Value → H) :
    ReturnsInHanded {} Try.checked os 8 .any (Rows.ratioRoundsSpec.pre6 enc Try.prog Try.f8 Rows.ratioRoundsRow.domain false) (Rows.ratioRoundsSpec.post enc Try.prog Try.f8 false true false false) := by
  refine returnsInHanded_of_change (C := Try.checked) own_ratioRounds started (by kernel_rfl) Try.func8
    (ChangeSpec.witness6 (enc := enc) (C := Try.checked) false ⟨#[], #[.agg #[.int .i64 0, .int .i64 0]], []⟩ 8 (by kernel_rfl) (by kernel_rfl) (by kernel_rfl) (by kernel_rfl)) ?_
  intro W base args ds gs before hval0 hW hcnd _
  have hval : ∀ (j : Nat) t v, Try.f8.params[j]? = some t → args[j]? = some v → Value.okWide Try.prog W .any base t v := hval0
  have hW' := hW
  obtain ⟨p, q, hA0, hV, rfl, hfz, hnd⟩ := hW
  have hA : DataW.TrodAll enc Try.prog W 0 (fun _ => true) true Try.f8.params.toList args.toList ds p := hA0
  rw [Try.params8] at hA hval
  obtain ⟨v0, vs0, d0, ds0, p0, q0, hargs, rfl, rfl, h0, r0⟩ := trodAll_cons hA
  obtain ⟨rfl, rfl, rfl⟩ := trodAll_nil r0
  obtain rfl : args = #[v0] := by cases args; simp_all
  obtain ⟨rfl, rfl⟩ := trodVars_none hV
  have k0 := h0
  have lt0 : ∀ x ∈ p0, x.block < W.heap.size := by obtain ⟨m, hm⟩ := k0; exact DataW.trod_lt m _ _ _ hm
  have cells0 : Try.prog.cellsOf 23 = 2 := by kernel_rfl
  obtain ⟨c00, c01, y00, y01, m0, rfl, _, _, hy00, hy01⟩ := open_agg2 Try.underlying23 (by kernel_rfl) cells0 (hval 0 23 v0 rfl rfl) h0
  obtain ⟨a00, e00, _, w00⟩ := DataW.trod_int Try.underlying3 hy00
  simp at e00
  subst e00
  obtain ⟨a01, e01, _, w01⟩ := DataW.trod_int Try.underlying3 hy01
  simp at e01
  subst e01
  clear hA0 hval0
  refine (walkRounds a00 a01 w00 w01 W).mono fun e W' ⟨he, bel⟩ => ?_
  subst he
  exact ⟨_, rfl, _, _, _, [], _, [], hW', trodAll_mk1 (shut_bool Try.underlying4 _), (trodAll_cons_mk (Below.trod laid_ratioRounds (by kernel_rfl) (of_decide_eq_true (by kernel_rfl)) k0 bel lt0) trodAll_mk0), rfl, bel.frame _, fun h => by cases h⟩

/-- The given statement. -/
theorem ratioRounds_holds : Rows.RatioRoundsSaid :=
  OpenClaim.holds_of_wide 8 Try.f8 rfl rfl rfl rfl rfl rfl rfl ⟨rfl, rfl, rfl, rfl, rfl⟩ rfl rfl rfl rfl rfl (by kernel_rfl) Try.func8 (by kernel_rfl)
    (of_decide_eq_true (by kernel_rfl)) (by unfold Func.isWrapper; first | (rw [if_pos (by decide +kernel)]; kernel_rfl) | (rw [if_neg (by decide +kernel)]; exact ⟨rfl, rfl⟩))
    (fun os started H enc _ => lifted_ratioRounds os started H enc)
end Go.Proofs.Ytojjjbhkpcmooaa
