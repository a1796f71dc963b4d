/-
  The examples of the chapter: the function head of the laws of layer 1.
-/
import Derived.Test.YtojjjbhkpcmooaaRatioF
namespace Go.Proofs.Ytojjjbhkpcmooaa
open Go.RowKit

set_option maxHeartbeats 400000 in
theorem rat_any (n d : Int) (w : World) : Calls Try.prog 27 #[.int .i64 n, .int .i64 d] w (Ret (.agg #[.int .i64 n, .int .i64 d]) w) := by
  go_enter Try.func27, Try.ntmps27
  go_wp2_with fail
  try go_region
  try go_wp2_with fail
  refine bodyPost_ret (v := .agg #[.int .i64 n, .int .i64 d]) (by simp [results, Try.results27, go_sem]) rfl (Ret.mk rfl (by (repeat (first | exact Below.refl _ _ | assumption | refine Below.drew ?_ | refine below_drewN ?_ _ | refine Below.setCell ?_ (by simp <;> omega) _ | refine Below.alloc ?_ (by simp <;> omega) _))))

theorem ex_make (w : World) : Calls Try.prog 11 #[.int .i64 6, .int .i64 (-4)] w (Ret (.tuple #[.agg #[.int .i64 (-3), .int .i64 2], .int .i64 0]) w) := by
  have h := make_any 6 (-4) w
  rwa [show mkF 6 (-4) = (-3, 2, 0) from by decide] at h
theorem ex_make0 (w : World) : Calls Try.prog 11 #[.int .i64 1, .int .i64 0] w (Ret (.tuple #[.agg #[.int .i64 0, .int .i64 0], .int .i64 1]) w) := by
  have h := make_any 1 0 w
  rwa [show mkF 1 0 = (0, 0, 1) from by decide] at h
theorem ex_add (w : World) : Calls Try.prog 15 #[.agg #[.int .i64 1, .int .i64 2], .agg #[.int .i64 1, .int .i64 3]] w (Ret (.tuple #[.agg #[.int .i64 5, .int .i64 6], .int .i64 0]) w) := by
  have h := add_any 1 2 1 3 w
  rwa [show addF 1 2 1 3 = (5, 6, 0) from by decide] at h
theorem ex_mul (w : World) : Calls Try.prog 19 #[.agg #[.int .i64 1, .int .i64 1000000], .agg #[.int .i64 1, .int .i64 2]] w (Ret (.tuple #[.agg #[.int .i64 0, .int .i64 0], .int .i64 3]) w) := by
  have h := mul_any 1 1000000 1 2 w
  rwa [show mulF 1 1000000 1 2 = (0, 0, 3) from by decide] at h
theorem ex_down (w : World) : Calls Try.prog 23 #[.agg #[.int .i64 (-5), .int .i64 2], .int .i64 1] w (Ret (.tuple #[.int .i64 (-3), .int .i64 0]) w) := by
  have h := round_any (-5) 2 1 w
  rwa [show roundF (-5) 2 1 = (-3, 0) from by decide] at h
theorem ex_up (w : World) : Calls Try.prog 23 #[.agg #[.int .i64 (-5), .int .i64 2], .int .i64 2] w (Ret (.tuple #[.int .i64 (-2), .int .i64 0]) w) := by
  have h := round_any (-5) 2 2 w
  rwa [show roundF (-5) 2 2 = (-2, 0) from by decide] at h
theorem ex_even (w : World) : Calls Try.prog 23 #[.agg #[.int .i64 (-5), .int .i64 2], .int .i64 3] w (Ret (.tuple #[.int .i64 (-2), .int .i64 0]) w) := by
  have h := round_any (-5) 2 3 w
  rwa [show roundF (-5) 2 3 = (-2, 0) from by decide] at h
theorem ex_part (w : World) : Calls Try.prog 25 #[.int .i64 1003, .agg #[.int .i64 1, .int .i64 2], .int .i64 3] w (Ret (.tuple #[.int .i64 502, .int .i64 0]) w) := by
  have h := part_any 1003 1 2 3 w
  rwa [show partF 1003 1 2 3 = (502, 0) from by decide] at h

set_option maxHeartbeats 1600000 in
set_option maxRecDepth 100000 in
theorem head_any (w : World) : Calls Try.prog 10 #[] w (Ret (.bool true) w) := by
  have hb : Below w.heap.size w w := Below.refl _ _
  go_enter Try.func10, Try.ntmps10
  go_wp2_with fail
  refine (ex_make _).mono ?_
  rintro e w1 ⟨rfl, hx⟩
  replace hb : Below w.heap.size w w1 := Below.trans (by (repeat (first | exact Below.refl _ _ | assumption | refine Below.drew ?_ | refine below_drewN ?_ _ | refine Below.setCell ?_ (by simp <;> omega) _ | refine Below.alloc ?_ (by have := hb.size; simp <;> omega) _))) (hx.mono (by have := hb.size; simp <;> omega))
  clear hx
  go_wp2_with fail
  refine (rat_any 1 2 _).mono ?_
  rintro e w2 ⟨rfl, hx⟩
  try clear c0_oa c1_oa f0_oa f1_oa z_oa
  first | have oa := (Own.new w1 _ _).below hx | have oa := ((Own.new w1 _ _).alloc _).below hx | have oa := (((Own.new w1 _ _).alloc _).alloc _).below hx | have oa := ((((Own.new w1 _ _).alloc _).alloc _).alloc _).below hx
  obtain ⟨c0_oa, c1_oa, f0_oa, f1_oa, z_oa⟩ := oa.two
  replace hb : Below w.heap.size w w2 := Below.trans (by (repeat (first | exact Below.refl _ _ | assumption | refine Below.drew ?_ | refine below_drewN ?_ _ | refine Below.setCell ?_ (by simp <;> omega) _ | refine Below.alloc ?_ (by have := hb.size; simp <;> omega) _))) (hx.mono (by have := hb.size; simp <;> omega))
  clear hx
  go_wp2_with fail
  refine (rat_any 1 3 _).mono ?_
  rintro e w3 ⟨rfl, hx⟩
  try clear c0_oa c1_oa f0_oa f1_oa z_oa
  first | replace oa := oa.below hx | replace oa := (oa.alloc _).below hx | replace oa := ((oa.alloc _).alloc _).below hx | replace oa := (((oa.alloc _).alloc _).alloc _).below hx
  obtain ⟨c0_oa, c1_oa, f0_oa, f1_oa, z_oa⟩ := oa.two
  replace hb : Below w.heap.size w w3 := Below.trans (by (repeat (first | exact Below.refl _ _ | assumption | refine Below.drew ?_ | refine below_drewN ?_ _ | refine Below.setCell ?_ (by simp <;> omega) _ | refine Below.alloc ?_ (by have := hb.size; simp <;> omega) _))) (hx.mono (by have := hb.size; simp <;> omega))
  clear hx
  go_wp2_with fail
  refine (ex_add _).mono ?_
  rintro e w4 ⟨rfl, hx⟩
  try clear c0_oa c1_oa f0_oa f1_oa z_oa
  first | replace oa := oa.below hx | replace oa := (oa.alloc _).below hx | replace oa := ((oa.alloc _).alloc _).below hx | replace oa := (((oa.alloc _).alloc _).alloc _).below hx
  obtain ⟨c0_oa, c1_oa, f0_oa, f1_oa, z_oa⟩ := oa.two
  replace hb : Below w.heap.size w w4 := Below.trans (by (repeat (first | exact Below.refl _ _ | assumption | refine Below.drew ?_ | refine below_drewN ?_ _ | refine Below.setCell ?_ (by simp <;> omega) _ | refine Below.alloc ?_ (by have := hb.size; simp <;> omega) _))) (hx.mono (by have := hb.size; simp <;> omega))
  clear hx
  go_wp2_with fail
  refine (rat_any (-5) 2 _).mono ?_
  rintro e w5 ⟨rfl, hx⟩
  try clear c0_oa c1_oa f0_oa f1_oa z_oa
  first | replace oa := oa.below hx | replace oa := (oa.alloc _).below hx | replace oa := ((oa.alloc _).alloc _).below hx | replace oa := (((oa.alloc _).alloc _).alloc _).below hx
  obtain ⟨c0_oa, c1_oa, f0_oa, f1_oa, z_oa⟩ := oa.two
  try clear c0_ob c1_ob f0_ob f1_ob z_ob
  first | have ob := (Own.new w4 _ _).below hx | have ob := ((Own.new w4 _ _).alloc _).below hx | have ob := (((Own.new w4 _ _).alloc _).alloc _).below hx | have ob := ((((Own.new w4 _ _).alloc _).alloc _).alloc _).below hx
  obtain ⟨c0_ob, c1_ob, f0_ob, f1_ob, z_ob⟩ := ob.two
  replace hb : Below w.heap.size w w5 := Below.trans (by (repeat (first | exact Below.refl _ _ | assumption | refine Below.drew ?_ | refine below_drewN ?_ _ | refine Below.setCell ?_ (by simp <;> omega) _ | refine Below.alloc ?_ (by have := hb.size; simp <;> omega) _))) (hx.mono (by have := hb.size; simp <;> omega))
  clear hx
  go_wp2_with fail
  refine (ex_down _).mono ?_
  rintro e w6 ⟨rfl, hx⟩
  try clear c0_oa c1_oa f0_oa f1_oa z_oa
  first | replace oa := oa.below hx | replace oa := (oa.alloc _).below hx | replace oa := ((oa.alloc _).alloc _).below hx | replace oa := (((oa.alloc _).alloc _).alloc _).below hx
  obtain ⟨c0_oa, c1_oa, f0_oa, f1_oa, z_oa⟩ := oa.two
  try clear c0_ob c1_ob f0_ob f1_ob z_ob
  first | replace ob := ob.below hx | replace ob := (ob.alloc _).below hx | replace ob := ((ob.alloc _).alloc _).below hx | replace ob := (((ob.alloc _).alloc _).alloc _).below hx
  obtain ⟨c0_ob, c1_ob, f0_ob, f1_ob, z_ob⟩ := ob.two
  replace hb : Below w.heap.size w w6 := Below.trans (by (repeat (first | exact Below.refl _ _ | assumption | refine Below.drew ?_ | refine below_drewN ?_ _ | refine Below.setCell ?_ (by simp <;> omega) _ | refine Below.alloc ?_ (by have := hb.size; simp <;> omega) _))) (hx.mono (by have := hb.size; simp <;> omega))
  clear hx
  go_wp2_with fail
  refine (rat_any (-5) 2 _).mono ?_
  rintro e w7 ⟨rfl, hx⟩
  try clear c0_oa c1_oa f0_oa f1_oa z_oa
  first | replace oa := oa.below hx | replace oa := (oa.alloc _).below hx | replace oa := ((oa.alloc _).alloc _).below hx | replace oa := (((oa.alloc _).alloc _).alloc _).below hx
  obtain ⟨c0_oa, c1_oa, f0_oa, f1_oa, z_oa⟩ := oa.two
  try clear c0_ob c1_ob f0_ob f1_ob z_ob
  first | replace ob := ob.below hx | replace ob := (ob.alloc _).below hx | replace ob := ((ob.alloc _).alloc _).below hx | replace ob := (((ob.alloc _).alloc _).alloc _).below hx
  obtain ⟨c0_ob, c1_ob, f0_ob, f1_ob, z_ob⟩ := ob.two
  replace hb : Below w.heap.size w w7 := Below.trans (by (repeat (first | exact Below.refl _ _ | assumption | refine Below.drew ?_ | refine below_drewN ?_ _ | refine Below.setCell ?_ (by simp <;> omega) _ | refine Below.alloc ?_ (by have := hb.size; simp <;> omega) _))) (hx.mono (by have := hb.size; simp <;> omega))
  clear hx
  go_wp2_with fail
  refine (ex_up _).mono ?_
  rintro e w8 ⟨rfl, hx⟩
  try clear c0_oa c1_oa f0_oa f1_oa z_oa
  first | replace oa := oa.below hx | replace oa := (oa.alloc _).below hx | replace oa := ((oa.alloc _).alloc _).below hx | replace oa := (((oa.alloc _).alloc _).alloc _).below hx
  obtain ⟨c0_oa, c1_oa, f0_oa, f1_oa, z_oa⟩ := oa.two
  try clear c0_ob c1_ob f0_ob f1_ob z_ob
  first | replace ob := ob.below hx | replace ob := (ob.alloc _).below hx | replace ob := ((ob.alloc _).alloc _).below hx | replace ob := (((ob.alloc _).alloc _).alloc _).below hx
  obtain ⟨c0_ob, c1_ob, f0_ob, f1_ob, z_ob⟩ := ob.two
  replace hb : Below w.heap.size w w8 := Below.trans (by (repeat (first | exact Below.refl _ _ | assumption | refine Below.drew ?_ | refine below_drewN ?_ _ | refine Below.setCell ?_ (by simp <;> omega) _ | refine Below.alloc ?_ (by have := hb.size; simp <;> omega) _))) (hx.mono (by have := hb.size; simp <;> omega))
  clear hx
  go_wp2_with fail
  refine (rat_any (-5) 2 _).mono ?_
  rintro e w9 ⟨rfl, hx⟩
  try clear c0_oa c1_oa f0_oa f1_oa z_oa
  first | replace oa := oa.below hx | replace oa := (oa.alloc _).below hx | replace oa := ((oa.alloc _).alloc _).below hx | replace oa := (((oa.alloc _).alloc _).alloc _).below hx
  obtain ⟨c0_oa, c1_oa, f0_oa, f1_oa, z_oa⟩ := oa.two
  try clear c0_ob c1_ob f0_ob f1_ob z_ob
  first | replace ob := ob.below hx | replace ob := (ob.alloc _).below hx | replace ob := ((ob.alloc _).alloc _).below hx | replace ob := (((ob.alloc _).alloc _).alloc _).below hx
  obtain ⟨c0_ob, c1_ob, f0_ob, f1_ob, z_ob⟩ := ob.two
  replace hb : Below w.heap.size w w9 := Below.trans (by (repeat (first | exact Below.refl _ _ | assumption | refine Below.drew ?_ | refine below_drewN ?_ _ | refine Below.setCell ?_ (by simp <;> omega) _ | refine Below.alloc ?_ (by have := hb.size; simp <;> omega) _))) (hx.mono (by have := hb.size; simp <;> omega))
  clear hx
  go_wp2_with fail
  refine (ex_even _).mono ?_
  rintro e w10 ⟨rfl, hx⟩
  try clear c0_oa c1_oa f0_oa f1_oa z_oa
  first | replace oa := oa.below hx | replace oa := (oa.alloc _).below hx | replace oa := ((oa.alloc _).alloc _).below hx | replace oa := (((oa.alloc _).alloc _).alloc _).below hx
  obtain ⟨c0_oa, c1_oa, f0_oa, f1_oa, z_oa⟩ := oa.two
  try clear c0_ob c1_ob f0_ob f1_ob z_ob
  first | replace ob := ob.below hx | replace ob := (ob.alloc _).below hx | replace ob := ((ob.alloc _).alloc _).below hx | replace ob := (((ob.alloc _).alloc _).alloc _).below hx
  obtain ⟨c0_ob, c1_ob, f0_ob, f1_ob, z_ob⟩ := ob.two
  replace hb : Below w.heap.size w w10 := Below.trans (by (repeat (first | exact Below.refl _ _ | assumption | refine Below.drew ?_ | refine below_drewN ?_ _ | refine Below.setCell ?_ (by simp <;> omega) _ | refine Below.alloc ?_ (by have := hb.size; simp <;> omega) _))) (hx.mono (by have := hb.size; simp <;> omega))
  clear hx
  go_wp2_with fail
  refine (rat_any 1 2 _).mono ?_
  rintro e w11 ⟨rfl, hx⟩
  try clear c0_oa c1_oa f0_oa f1_oa z_oa
  first | replace oa := oa.below hx | replace oa := (oa.alloc _).below hx | replace oa := ((oa.alloc _).alloc _).below hx | replace oa := (((oa.alloc _).alloc _).alloc _).below hx
  obtain ⟨c0_oa, c1_oa, f0_oa, f1_oa, z_oa⟩ := oa.two
  try clear c0_ob c1_ob f0_ob f1_ob z_ob
  first | replace ob := ob.below hx | replace ob := (ob.alloc _).below hx | replace ob := ((ob.alloc _).alloc _).below hx | replace ob := (((ob.alloc _).alloc _).alloc _).below hx
  obtain ⟨c0_ob, c1_ob, f0_ob, f1_ob, z_ob⟩ := ob.two
  replace hb : Below w.heap.size w w11 := Below.trans (by (repeat (first | exact Below.refl _ _ | assumption | refine Below.drew ?_ | refine below_drewN ?_ _ | refine Below.setCell ?_ (by simp <;> omega) _ | refine Below.alloc ?_ (by have := hb.size; simp <;> omega) _))) (hx.mono (by have := hb.size; simp <;> omega))
  clear hx
  go_wp2_with fail
  refine (ex_part _).mono ?_
  rintro e w12 ⟨rfl, hx⟩
  try clear c0_oa c1_oa f0_oa f1_oa z_oa
  first | replace oa := oa.below hx | replace oa := (oa.alloc _).below hx | replace oa := ((oa.alloc _).alloc _).below hx | replace oa := (((oa.alloc _).alloc _).alloc _).below hx
  obtain ⟨c0_oa, c1_oa, f0_oa, f1_oa, z_oa⟩ := oa.two
  try clear c0_ob c1_ob f0_ob f1_ob z_ob
  first | replace ob := ob.below hx | replace ob := (ob.alloc _).below hx | replace ob := ((ob.alloc _).alloc _).below hx | replace ob := (((ob.alloc _).alloc _).alloc _).below hx
  obtain ⟨c0_ob, c1_ob, f0_ob, f1_ob, z_ob⟩ := ob.two
  replace hb : Below w.heap.size w w12 := Below.trans (by (repeat (first | exact Below.refl _ _ | assumption | refine Below.drew ?_ | refine below_drewN ?_ _ | refine Below.setCell ?_ (by simp <;> omega) _ | refine Below.alloc ?_ (by have := hb.size; simp <;> omega) _))) (hx.mono (by have := hb.size; simp <;> omega))
  clear hx
  go_wp2_with fail
  refine (rat_any 1 1000000 _).mono ?_
  rintro e w13 ⟨rfl, hx⟩
  try clear c0_oa c1_oa f0_oa f1_oa z_oa
  first | replace oa := oa.below hx | replace oa := (oa.alloc _).below hx | replace oa := ((oa.alloc _).alloc _).below hx | replace oa := (((oa.alloc _).alloc _).alloc _).below hx
  obtain ⟨c0_oa, c1_oa, f0_oa, f1_oa, z_oa⟩ := oa.two
  try clear c0_ob c1_ob f0_ob f1_ob z_ob
  first | replace ob := ob.below hx | replace ob := (ob.alloc _).below hx | replace ob := ((ob.alloc _).alloc _).below hx | replace ob := (((ob.alloc _).alloc _).alloc _).below hx
  obtain ⟨c0_ob, c1_ob, f0_ob, f1_ob, z_ob⟩ := ob.two
  replace hb : Below w.heap.size w w13 := Below.trans (by (repeat (first | exact Below.refl _ _ | assumption | refine Below.drew ?_ | refine below_drewN ?_ _ | refine Below.setCell ?_ (by simp <;> omega) _ | refine Below.alloc ?_ (by have := hb.size; simp <;> omega) _))) (hx.mono (by have := hb.size; simp <;> omega))
  clear hx
  go_wp2_with fail
  refine (rat_any 1 2 _).mono ?_
  rintro e w14 ⟨rfl, hx⟩
  try clear c0_oa c1_oa f0_oa f1_oa z_oa
  first | replace oa := oa.below hx | replace oa := (oa.alloc _).below hx | replace oa := ((oa.alloc _).alloc _).below hx | replace oa := (((oa.alloc _).alloc _).alloc _).below hx
  obtain ⟨c0_oa, c1_oa, f0_oa, f1_oa, z_oa⟩ := oa.two
  try clear c0_ob c1_ob f0_ob f1_ob z_ob
  first | replace ob := ob.below hx | replace ob := (ob.alloc _).below hx | replace ob := ((ob.alloc _).alloc _).below hx | replace ob := (((ob.alloc _).alloc _).alloc _).below hx
  obtain ⟨c0_ob, c1_ob, f0_ob, f1_ob, z_ob⟩ := ob.two
  replace hb : Below w.heap.size w w14 := Below.trans (by (repeat (first | exact Below.refl _ _ | assumption | refine Below.drew ?_ | refine below_drewN ?_ _ | refine Below.setCell ?_ (by simp <;> omega) _ | refine Below.alloc ?_ (by have := hb.size; simp <;> omega) _))) (hx.mono (by have := hb.size; simp <;> omega))
  clear hx
  go_wp2_with fail
  refine (ex_mul _).mono ?_
  rintro e w15 ⟨rfl, hx⟩
  try clear c0_oa c1_oa f0_oa f1_oa z_oa
  first | replace oa := oa.below hx | replace oa := (oa.alloc _).below hx | replace oa := ((oa.alloc _).alloc _).below hx | replace oa := (((oa.alloc _).alloc _).alloc _).below hx
  obtain ⟨c0_oa, c1_oa, f0_oa, f1_oa, z_oa⟩ := oa.two
  try clear c0_ob c1_ob f0_ob f1_ob z_ob
  first | replace ob := ob.below hx | replace ob := (ob.alloc _).below hx | replace ob := ((ob.alloc _).alloc _).below hx | replace ob := (((ob.alloc _).alloc _).alloc _).below hx
  obtain ⟨c0_ob, c1_ob, f0_ob, f1_ob, z_ob⟩ := ob.two
  replace hb : Below w.heap.size w w15 := Below.trans (by (repeat (first | exact Below.refl _ _ | assumption | refine Below.drew ?_ | refine below_drewN ?_ _ | refine Below.setCell ?_ (by simp <;> omega) _ | refine Below.alloc ?_ (by have := hb.size; simp <;> omega) _))) (hx.mono (by have := hb.size; simp <;> omega))
  clear hx
  go_wp2_with fail
  refine (ex_make0 _).mono ?_
  rintro e w16 ⟨rfl, hx⟩
  try clear c0_oa c1_oa f0_oa f1_oa z_oa
  first | replace oa := oa.below hx | replace oa := (oa.alloc _).below hx | replace oa := ((oa.alloc _).alloc _).below hx | replace oa := (((oa.alloc _).alloc _).alloc _).below hx
  obtain ⟨c0_oa, c1_oa, f0_oa, f1_oa, z_oa⟩ := oa.two
  try clear c0_ob c1_ob f0_ob f1_ob z_ob
  first | replace ob := ob.below hx | replace ob := (ob.alloc _).below hx | replace ob := ((ob.alloc _).alloc _).below hx | replace ob := (((ob.alloc _).alloc _).alloc _).below hx
  obtain ⟨c0_ob, c1_ob, f0_ob, f1_ob, z_ob⟩ := ob.two
  replace hb : Below w.heap.size w w16 := Below.trans (by (repeat (first | exact Below.refl _ _ | assumption | refine Below.drew ?_ | refine below_drewN ?_ _ | refine Below.setCell ?_ (by simp <;> omega) _ | refine Below.alloc ?_ (by have := hb.size; simp <;> omega) _))) (hx.mono (by have := hb.size; simp <;> omega))
  clear hx
  have za : w1.heap.size < w16.heap.size + 1 := by omega
  have zb : w4.heap.size < w16.heap.size + 1 := by omega
  have he := eql_rat
  go_wp2_with fail
  refine wp_region_up (by kernel_rfl) (by kernel_rfl) ?_
  repeat (go_big_quiet_step ((go_at_call 27; exact Ret.up (rat_any _ _ _))))
  refine wpQuiet_nil ?_
  rintro w17 ⟨gU, hU⟩
  have hx := up_below _ gU
  rw [← hU] at hx
  clear hU gU
  try clear c0_oa c1_oa f0_oa f1_oa z_oa
  first | replace oa := oa.below hx | replace oa := (oa.alloc _).below hx | replace oa := ((oa.alloc _).alloc _).below hx | replace oa := (((oa.alloc _).alloc _).alloc _).below hx
  obtain ⟨c0_oa, c1_oa, f0_oa, f1_oa, z_oa⟩ := oa.two
  try clear c0_ob c1_ob f0_ob f1_ob z_ob
  first | replace ob := ob.below hx | replace ob := (ob.alloc _).below hx | replace ob := ((ob.alloc _).alloc _).below hx | replace ob := (((ob.alloc _).alloc _).alloc _).below hx
  obtain ⟨c0_ob, c1_ob, f0_ob, f1_ob, z_ob⟩ := ob.two
  replace hb : Below w.heap.size w w17 := Below.trans (by (repeat (first | exact Below.refl _ _ | assumption | refine Below.drew ?_ | refine below_drewN ?_ _ | refine Below.setCell ?_ (by simp <;> omega) _ | refine Below.alloc ?_ (by have := hb.size; simp <;> omega) _))) (hx.mono (by have := hb.size; simp <;> omega))
  clear hx
  go_wp2_with fail
  refine (valid_at (b := true) (-3) 2 _ (by decide)).mono ?_
  rintro e w18 ⟨rfl, hx⟩
  try clear c0_oa c1_oa f0_oa f1_oa z_oa
  first | replace oa := oa.below hx | replace oa := (oa.alloc _).below hx | replace oa := ((oa.alloc _).alloc _).below hx | replace oa := (((oa.alloc _).alloc _).alloc _).below hx
  obtain ⟨c0_oa, c1_oa, f0_oa, f1_oa, z_oa⟩ := oa.two
  try clear c0_ob c1_ob f0_ob f1_ob z_ob
  first | replace ob := ob.below hx | replace ob := (ob.alloc _).below hx | replace ob := ((ob.alloc _).alloc _).below hx | replace ob := (((ob.alloc _).alloc _).alloc _).below hx
  obtain ⟨c0_ob, c1_ob, f0_ob, f1_ob, z_ob⟩ := ob.two
  replace hb : Below w.heap.size w w18 := Below.trans (by (repeat (first | exact Below.refl _ _ | assumption | refine Below.drew ?_ | refine below_drewN ?_ _ | refine Below.setCell ?_ (by simp <;> omega) _ | refine Below.alloc ?_ (by have := hb.size; simp <;> omega) _))) (hx.mono (by have := hb.size; simp <;> omega))
  clear hx
  go_wp2_with fail
  refine (rat_any 2 4 _).mono ?_
  rintro e w19 ⟨rfl, hx⟩
  try clear c0_oa c1_oa f0_oa f1_oa z_oa
  first | replace oa := oa.below hx | replace oa := (oa.alloc _).below hx | replace oa := ((oa.alloc _).alloc _).below hx | replace oa := (((oa.alloc _).alloc _).alloc _).below hx
  obtain ⟨c0_oa, c1_oa, f0_oa, f1_oa, z_oa⟩ := oa.two
  try clear c0_ob c1_ob f0_ob f1_ob z_ob
  first | replace ob := ob.below hx | replace ob := (ob.alloc _).below hx | replace ob := ((ob.alloc _).alloc _).below hx | replace ob := (((ob.alloc _).alloc _).alloc _).below hx
  obtain ⟨c0_ob, c1_ob, f0_ob, f1_ob, z_ob⟩ := ob.two
  replace hb : Below w.heap.size w w19 := Below.trans (by (repeat (first | exact Below.refl _ _ | assumption | refine Below.drew ?_ | refine below_drewN ?_ _ | refine Below.setCell ?_ (by simp <;> omega) _ | refine Below.alloc ?_ (by have := hb.size; simp <;> omega) _))) (hx.mono (by have := hb.size; simp <;> omega))
  clear hx
  go_wp2_with fail
  refine (valid_at (b := false) 2 4 _ (by decide)).mono ?_
  rintro e w20 ⟨rfl, hx⟩
  try clear c0_oa c1_oa f0_oa f1_oa z_oa
  first | replace oa := oa.below hx | replace oa := (oa.alloc _).below hx | replace oa := ((oa.alloc _).alloc _).below hx | replace oa := (((oa.alloc _).alloc _).alloc _).below hx
  obtain ⟨c0_oa, c1_oa, f0_oa, f1_oa, z_oa⟩ := oa.two
  try clear c0_ob c1_ob f0_ob f1_ob z_ob
  first | replace ob := ob.below hx | replace ob := (ob.alloc _).below hx | replace ob := ((ob.alloc _).alloc _).below hx | replace ob := (((ob.alloc _).alloc _).alloc _).below hx
  obtain ⟨c0_ob, c1_ob, f0_ob, f1_ob, z_ob⟩ := ob.two
  replace hb : Below w.heap.size w w20 := Below.trans (by (repeat (first | exact Below.refl _ _ | assumption | refine Below.drew ?_ | refine below_drewN ?_ _ | refine Below.setCell ?_ (by simp <;> omega) _ | refine Below.alloc ?_ (by have := hb.size; simp <;> omega) _))) (hx.mono (by have := hb.size; simp <;> omega))
  clear hx
  go_wp2_with fail
  refine (valid_at (b := false) 0 0 _ (by decide)).mono ?_
  rintro e w21 ⟨rfl, hx⟩
  try clear c0_oa c1_oa f0_oa f1_oa z_oa
  first | replace oa := oa.below hx | replace oa := (oa.alloc _).below hx | replace oa := ((oa.alloc _).alloc _).below hx | replace oa := (((oa.alloc _).alloc _).alloc _).below hx
  obtain ⟨c0_oa, c1_oa, f0_oa, f1_oa, z_oa⟩ := oa.two
  try clear c0_ob c1_ob f0_ob f1_ob z_ob
  first | replace ob := ob.below hx | replace ob := (ob.alloc _).below hx | replace ob := ((ob.alloc _).alloc _).below hx | replace ob := (((ob.alloc _).alloc _).alloc _).below hx
  obtain ⟨c0_ob, c1_ob, f0_ob, f1_ob, z_ob⟩ := ob.two
  replace hb : Below w.heap.size w w21 := Below.trans (by (repeat (first | exact Below.refl _ _ | assumption | refine Below.drew ?_ | refine below_drewN ?_ _ | refine Below.setCell ?_ (by simp <;> omega) _ | refine Below.alloc ?_ (by have := hb.size; simp <;> omega) _))) (hx.mono (by have := hb.size; simp <;> omega))
  clear hx
  go_wp2_with fail
  go_ret
  exact Ret.mk rfl hb
end Go.Proofs.Ytojjjbhkpcmooaa
