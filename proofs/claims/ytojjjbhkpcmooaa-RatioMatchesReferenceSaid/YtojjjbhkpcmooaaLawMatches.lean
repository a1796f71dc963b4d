/-
  RatioMatchesReference: all functions of the package return what the reference implementation returns. No conditions: for every input.
-/
import Derived.Test.YtojjjbhkpcmooaaLaw01At
import Derived.Test.YtojjjbhkpcmooaaKitSet
namespace Go.Proofs.Ytojjjbhkpcmooaa
open Go.ChangeShapes Go.WideShapes Go.ChangeAt Go.RowKit Go.Joins
set_option linter.unusedVariables false

theorem r_add_at {a b c d x y e : Int} {w : World} (h : addF a b c d = (x, y, e)) : Calls Try.prog 16 #[.agg #[.int .i64 a, .int .i64 b], .agg #[.int .i64 c, .int .i64 d]] w (Ret (.tuple #[.agg #[.int .i64 x, .int .i64 y], .int .i64 e]) w) := by
  have := r_add a b c d w
  rw [h] at this; exact this

theorem r_sub_at {a b c d x y e : Int} {w : World} (h : subF a b c d = (x, y, e)) : Calls Try.prog 18 #[.agg #[.int .i64 a, .int .i64 b], .agg #[.int .i64 c, .int .i64 d]] w (Ret (.tuple #[.agg #[.int .i64 x, .int .i64 y], .int .i64 e]) w) := by
  have := r_sub a b c d w
  rw [h] at this; exact this

theorem r_mul_at {a b c d x y e : Int} {w : World} (h : mulF a b c d = (x, y, e)) : Calls Try.prog 20 #[.agg #[.int .i64 a, .int .i64 b], .agg #[.int .i64 c, .int .i64 d]] w (Ret (.tuple #[.agg #[.int .i64 x, .int .i64 y], .int .i64 e]) w) := by
  have := r_mul a b c d w
  rw [h] at this; exact this

theorem r_make_at {a b x y e : Int} {w : World} (h : mkF a b = (x, y, e)) : Calls Try.prog 12 #[.int .i64 a, .int .i64 b] w (Ret (.tuple #[.agg #[.int .i64 x, .int .i64 y], .int .i64 e]) w) := by
  have := r_make a b w
  rw [h] at this; exact this
theorem r_compare_at {a b c d x e : Int} {w : World} (h : cmpF a b c d = (x, e)) : Calls Try.prog 22 #[.agg #[.int .i64 a, .int .i64 b], .agg #[.int .i64 c, .int .i64 d]] w (Ret (.tuple #[.int .i64 x, .int .i64 e]) w) := by
  have := r_compare a b c d w
  rw [h] at this; exact this
theorem r_round_at {a b k x e : Int} {w : World} (h : roundF a b k = (x, e)) : Calls Try.prog 24 #[.agg #[.int .i64 a, .int .i64 b], .int .i64 k] w (Ret (.tuple #[.int .i64 x, .int .i64 e]) w) := by
  have := r_round a b k w
  rw [h] at this; exact this
theorem r_part_at {n a b k x e : Int} {w : World} (h : partF n a b k = (x, e)) : Calls Try.prog 26 #[.int .i64 n, .agg #[.int .i64 a, .int .i64 b], .int .i64 k] w (Ret (.tuple #[.int .i64 x, .int .i64 e]) w) := by
  have := r_part n a b k w
  rw [h] at this; exact this

set_option maxHeartbeats 6400000 in
set_option maxRecDepth 100000 in
theorem matches_walk (a1 a2 b1 b2 n d k : Int) (v : Bool) (m1 m2 m3 d1 d2 d3 s1 s2 s3 u1 u2 u3 c1 c2 r1 r2 p1 p2 : Int) (VV : Hid (vldB a1 a2 = v)) (MK : Hid (mkF n d = (m1, m2, m3))) (AD : Hid (addF a1 a2 b1 b2 = (d1, d2, d3))) (SU : Hid (subF a1 a2 b1 b2 = (s1, s2, s3))) (MU : Hid (mulF a1 a2 b1 b2 = (u1, u2, u3)))
    (CM : Hid (cmpF a1 a2 b1 b2 = (c1, c2))) (RO : Hid (roundF a1 a2 k = (r1, r2))) (PA : Hid (partF n a1 a2 k = (p1, p2))) (w : World) : Calls Try.prog 3 #[.agg #[.int .i64 a1, .int .i64 a2], .agg #[.int .i64 b1, .int .i64 b2], .int .i64 n, .int .i64 d, .int .i64 k] w (Ret (.bool true) w) := by
  have hb : Below w.heap.size w w := Below.refl _ _
  have he := eql_rat
  go_enter Try.func3, Try.ntmps3
  go_wp2_with fail
  refine (head_any _).mono ?_
  rintro e w1 ⟨rfl, hx⟩
  try clear c0_oa c1_oa f0_oa f1_oa z_oa
  first | have oa := (Own.new w _ _).below hx | have oa := ((Own.new w _ _).alloc _).below hx | have oa := (((Own.new w _ _).alloc _).alloc _).below hx | have oa := ((((Own.new w _ _).alloc _).alloc _).alloc _).below hx | have oa := ((Own.new w _ _).set2 _ _).below hx | have oa := (((Own.new w _ _).setCell (by simp <;> omega) _).setCell (by simp <;> omega) _).below hx
  obtain ⟨c0_oa, c1_oa, f0_oa, f1_oa, z_oa⟩ := oa.two
  try clear c0_ob c1_ob f0_ob f1_ob z_ob
  first | have ob := (Own.at (w.alloc _) _ _ (w.heap.size + 1) (by simp)).below hx | have ob := ((Own.at (w.alloc _) _ _ (w.heap.size + 1) (by simp)).alloc _).below hx | have ob := (((Own.at (w.alloc _) _ _ (w.heap.size + 1) (by simp)).alloc _).alloc _).below hx | have ob := ((((Own.at (w.alloc _) _ _ (w.heap.size + 1) (by simp)).alloc _).alloc _).alloc _).below hx | have ob := ((Own.at (w.alloc _) _ _ (w.heap.size + 1) (by simp)).set2 _ _).below hx | have ob := (((Own.at (w.alloc _) _ _ (w.heap.size + 1) (by simp)).setCell (by simp <;> omega) _).setCell (by simp <;> omega) _).below hx
  obtain ⟨c0_ob, c1_ob, f0_ob, f1_ob, z_ob⟩ := ob.two
  replace hb : Below w.heap.size w w1 := Below.trans (by (repeat (first | exact Below.refl _ _ | assumption | refine Below.drew ?_ | refine below_drewN ?_ _ | refine Below.setCell ?_ (by first | omega | (simp <;> omega)) _ | refine Below.alloc ?_ (by have := hb.size; first | omega | (simp <;> omega)) _))) (hx.mono (by have := hb.size; first | omega | (simp <;> omega)))
  clear hx
  go_wp2_with fail
  refine (make_at MK.out).mono ?_
  rintro e w2 ⟨rfl, hx⟩
  try clear c0_oa c1_oa f0_oa f1_oa z_oa
  first | replace oa := oa.below hx | replace oa := (oa.alloc _).below hx | replace oa := ((oa.alloc _).alloc _).below hx | replace oa := (((oa.alloc _).alloc _).alloc _).below hx | replace oa := (oa.set2 _ _).below hx | replace oa := ((oa.setCell (by simp <;> omega) _).setCell (by simp <;> omega) _).below hx
  obtain ⟨c0_oa, c1_oa, f0_oa, f1_oa, z_oa⟩ := oa.two
  try clear c0_ob c1_ob f0_ob f1_ob z_ob
  first | replace ob := ob.below hx | replace ob := (ob.alloc _).below hx | replace ob := ((ob.alloc _).alloc _).below hx | replace ob := (((ob.alloc _).alloc _).alloc _).below hx | replace ob := (ob.set2 _ _).below hx | replace ob := ((ob.setCell (by simp <;> omega) _).setCell (by simp <;> omega) _).below hx
  obtain ⟨c0_ob, c1_ob, f0_ob, f1_ob, z_ob⟩ := ob.two
  replace hb : Below w.heap.size w w2 := Below.trans (by (repeat (first | exact Below.refl _ _ | assumption | refine Below.drew ?_ | refine below_drewN ?_ _ | refine Below.setCell ?_ (by first | omega | (simp <;> omega)) _ | refine Below.alloc ?_ (by have := hb.size; first | omega | (simp <;> omega)) _))) (hx.mono (by have := hb.size; first | omega | (simp <;> omega)))
  clear hx
  have dd1 := z_ob
  go_wp2_with fail
  refine (r_make_at MK.out).mono ?_
  rintro e w3 ⟨rfl, hx⟩
  try clear c0_oa c1_oa f0_oa f1_oa z_oa
  first | replace oa := oa.below hx | replace oa := (oa.alloc _).below hx | replace oa := ((oa.alloc _).alloc _).below hx | replace oa := (((oa.alloc _).alloc _).alloc _).below hx | replace oa := (oa.set2 _ _).below hx | replace oa := ((oa.setCell (by simp <;> omega) _).setCell (by simp <;> omega) _).below hx
  obtain ⟨c0_oa, c1_oa, f0_oa, f1_oa, z_oa⟩ := oa.two
  try clear c0_ob c1_ob f0_ob f1_ob z_ob
  first | replace ob := ob.below hx | replace ob := (ob.alloc _).below hx | replace ob := ((ob.alloc _).alloc _).below hx | replace ob := (((ob.alloc _).alloc _).alloc _).below hx | replace ob := (ob.set2 _ _).below hx | replace ob := ((ob.setCell (by simp <;> omega) _).setCell (by simp <;> omega) _).below hx
  obtain ⟨c0_ob, c1_ob, f0_ob, f1_ob, z_ob⟩ := ob.two
  try clear c0_ox c1_ox f0_ox f1_ox z_ox
  first | have ox := (Own.new w2 _ _).below hx | have ox := ((Own.new w2 _ _).alloc _).below hx | have ox := (((Own.new w2 _ _).alloc _).alloc _).below hx | have ox := ((((Own.new w2 _ _).alloc _).alloc _).alloc _).below hx | have ox := ((Own.new w2 _ _).set2 _ _).below hx | have ox := (((Own.new w2 _ _).setCell (by simp <;> omega) _).setCell (by simp <;> omega) _).below hx
  obtain ⟨c0_ox, c1_ox, f0_ox, f1_ox, z_ox⟩ := ox.two
  replace hb : Below w.heap.size w w3 := Below.trans (by (repeat (first | exact Below.refl _ _ | assumption | refine Below.drew ?_ | refine below_drewN ?_ _ | refine Below.setCell ?_ (by first | omega | (simp <;> omega)) _ | refine Below.alloc ?_ (by have := hb.size; first | omega | (simp <;> omega)) _))) (hx.mono (by have := hb.size; first | omega | (simp <;> omega)))
  clear hx
  have dd2 := z_ox
  go_wp2_with fail
  have q1 : w.heap.size < w3.heap.size + 1 := by omega
  have q2 : w2.heap.size < w3.heap.size + 1 := by omega
  refine wp_region_up (by kernel_rfl) (by kernel_rfl) ?_
  repeat (go_big_quiet_step (first | (go_at_call 13; exact Ret.up (valid_at _ _ _ VV.out)) | (go_at_call 14; exact Ret.up (r_valid_at _ _ _ VV.out))))
  refine wpQuiet_nil ?_
  rintro w4 ⟨gU, hU⟩
  have hx := up_below _ gU
  rw [← hU] at hx
  clear hU gU
  try clear c0_oa c1_oa f0_oa f1_oa z_oa
  first | replace oa := oa.below hx | replace oa := (oa.alloc _).below hx | replace oa := ((oa.alloc _).alloc _).below hx | replace oa := (((oa.alloc _).alloc _).alloc _).below hx | replace oa := (oa.set2 _ _).below hx | replace oa := ((oa.setCell (by simp <;> omega) _).setCell (by simp <;> omega) _).below hx
  obtain ⟨c0_oa, c1_oa, f0_oa, f1_oa, z_oa⟩ := oa.two
  try clear c0_ob c1_ob f0_ob f1_ob z_ob
  first | replace ob := ob.below hx | replace ob := (ob.alloc _).below hx | replace ob := ((ob.alloc _).alloc _).below hx | replace ob := (((ob.alloc _).alloc _).alloc _).below hx | replace ob := (ob.set2 _ _).below hx | replace ob := ((ob.setCell (by simp <;> omega) _).setCell (by simp <;> omega) _).below hx
  obtain ⟨c0_ob, c1_ob, f0_ob, f1_ob, z_ob⟩ := ob.two
  try clear c0_ox c1_ox f0_ox f1_ox z_ox
  first | replace ox := ox.below hx | replace ox := (ox.alloc _).below hx | replace ox := ((ox.alloc _).alloc _).below hx | replace ox := (((ox.alloc _).alloc _).alloc _).below hx | replace ox := (ox.set2 _ _).below hx | replace ox := ((ox.setCell (by simp <;> omega) _).setCell (by simp <;> omega) _).below hx
  obtain ⟨c0_ox, c1_ox, f0_ox, f1_ox, z_ox⟩ := ox.two
  try clear c0_oy c1_oy f0_oy f1_oy z_oy
  first | have oy := (Own.new w3 _ _).below hx | have oy := ((Own.new w3 _ _).alloc _).below hx | have oy := (((Own.new w3 _ _).alloc _).alloc _).below hx | have oy := ((((Own.new w3 _ _).alloc _).alloc _).alloc _).below hx | have oy := ((Own.new w3 _ _).set2 _ _).below hx | have oy := (((Own.new w3 _ _).setCell (by simp <;> omega) _).setCell (by simp <;> omega) _).below hx
  obtain ⟨c0_oy, c1_oy, f0_oy, f1_oy, z_oy⟩ := oy.two
  replace hb : Below w.heap.size w w4 := Below.trans (by (repeat (first | exact Below.refl _ _ | assumption | refine Below.drew ?_ | refine below_drewN ?_ _ | refine Below.setCell ?_ (by first | omega | (simp <;> omega)) _ | refine Below.alloc ?_ (by have := hb.size; first | omega | (simp <;> omega)) _))) (hx.mono (by have := hb.size; first | omega | (simp <;> omega)))
  clear hx
  clear q1 q2
  go_wp2_with fail
  refine (add_at AD.out).mono ?_
  rintro e w5 ⟨rfl, hx⟩
  try clear c0_oa c1_oa f0_oa f1_oa z_oa
  first | replace oa := oa.below hx | replace oa := (oa.alloc _).below hx | replace oa := ((oa.alloc _).alloc _).below hx | replace oa := (((oa.alloc _).alloc _).alloc _).below hx | replace oa := (oa.set2 _ _).below hx | replace oa := ((oa.setCell (by simp <;> omega) _).setCell (by simp <;> omega) _).below hx
  obtain ⟨c0_oa, c1_oa, f0_oa, f1_oa, z_oa⟩ := oa.two
  try clear c0_ob c1_ob f0_ob f1_ob z_ob
  first | replace ob := ob.below hx | replace ob := (ob.alloc _).below hx | replace ob := ((ob.alloc _).alloc _).below hx | replace ob := (((ob.alloc _).alloc _).alloc _).below hx | replace ob := (ob.set2 _ _).below hx | replace ob := ((ob.setCell (by simp <;> omega) _).setCell (by simp <;> omega) _).below hx
  obtain ⟨c0_ob, c1_ob, f0_ob, f1_ob, z_ob⟩ := ob.two
  try clear c0_ox c1_ox f0_ox f1_ox z_ox
  first | replace ox := ox.below hx | replace ox := (ox.alloc _).below hx | replace ox := ((ox.alloc _).alloc _).below hx | replace ox := (((ox.alloc _).alloc _).alloc _).below hx | replace ox := (ox.set2 _ _).below hx | replace ox := ((ox.setCell (by simp <;> omega) _).setCell (by simp <;> omega) _).below hx
  obtain ⟨c0_ox, c1_ox, f0_ox, f1_ox, z_ox⟩ := ox.two
  try clear c0_oy c1_oy f0_oy f1_oy z_oy
  first | replace oy := oy.below hx | replace oy := (oy.alloc _).below hx | replace oy := ((oy.alloc _).alloc _).below hx | replace oy := (((oy.alloc _).alloc _).alloc _).below hx | replace oy := (oy.set2 _ _).below hx | replace oy := ((oy.setCell (by simp <;> omega) _).setCell (by simp <;> omega) _).below hx
  obtain ⟨c0_oy, c1_oy, f0_oy, f1_oy, z_oy⟩ := oy.two
  replace hb : Below w.heap.size w w5 := Below.trans (by (repeat (first | exact Below.refl _ _ | assumption | refine Below.drew ?_ | refine below_drewN ?_ _ | refine Below.setCell ?_ (by first | omega | (simp <;> omega)) _ | refine Below.alloc ?_ (by have := hb.size; first | omega | (simp <;> omega)) _))) (hx.mono (by have := hb.size; first | omega | (simp <;> omega)))
  clear hx
  go_wp2_with fail
  refine (r_add_at AD.out).mono ?_
  rintro e w6 ⟨rfl, hx⟩
  try clear c0_oa c1_oa f0_oa f1_oa z_oa
  first | replace oa := oa.below hx | replace oa := (oa.alloc _).below hx | replace oa := ((oa.alloc _).alloc _).below hx | replace oa := (((oa.alloc _).alloc _).alloc _).below hx | replace oa := (oa.set2 _ _).below hx | replace oa := ((oa.setCell (by simp <;> omega) _).setCell (by simp <;> omega) _).below hx
  obtain ⟨c0_oa, c1_oa, f0_oa, f1_oa, z_oa⟩ := oa.two
  try clear c0_ob c1_ob f0_ob f1_ob z_ob
  first | replace ob := ob.below hx | replace ob := (ob.alloc _).below hx | replace ob := ((ob.alloc _).alloc _).below hx | replace ob := (((ob.alloc _).alloc _).alloc _).below hx | replace ob := (ob.set2 _ _).below hx | replace ob := ((ob.setCell (by simp <;> omega) _).setCell (by simp <;> omega) _).below hx
  obtain ⟨c0_ob, c1_ob, f0_ob, f1_ob, z_ob⟩ := ob.two
  try clear c0_ox c1_ox f0_ox f1_ox z_ox
  first | replace ox := ox.below hx | replace ox := (ox.alloc _).below hx | replace ox := ((ox.alloc _).alloc _).below hx | replace ox := (((ox.alloc _).alloc _).alloc _).below hx | replace ox := (ox.set2 _ _).below hx | replace ox := ((ox.setCell (by simp <;> omega) _).setCell (by simp <;> omega) _).below hx
  obtain ⟨c0_ox, c1_ox, f0_ox, f1_ox, z_ox⟩ := ox.two
  try clear c0_oy c1_oy f0_oy f1_oy z_oy
  first | replace oy := oy.below hx | replace oy := (oy.alloc _).below hx | replace oy := ((oy.alloc _).alloc _).below hx | replace oy := (((oy.alloc _).alloc _).alloc _).below hx | replace oy := (oy.set2 _ _).below hx | replace oy := ((oy.setCell (by simp <;> omega) _).setCell (by simp <;> omega) _).below hx
  obtain ⟨c0_oy, c1_oy, f0_oy, f1_oy, z_oy⟩ := oy.two
  replace hb : Below w.heap.size w w6 := Below.trans (by (repeat (first | exact Below.refl _ _ | assumption | refine Below.drew ?_ | refine below_drewN ?_ _ | refine Below.setCell ?_ (by first | omega | (simp <;> omega)) _ | refine Below.alloc ?_ (by have := hb.size; first | omega | (simp <;> omega)) _))) (hx.mono (by have := hb.size; first | omega | (simp <;> omega)))
  clear hx
  go_wp2_with fail
  refine (sub_at SU.out).mono ?_
  rintro e w7 ⟨rfl, hx⟩
  try clear c0_oa c1_oa f0_oa f1_oa z_oa
  first | replace oa := oa.below hx | replace oa := (oa.alloc _).below hx | replace oa := ((oa.alloc _).alloc _).below hx | replace oa := (((oa.alloc _).alloc _).alloc _).below hx | replace oa := (oa.set2 _ _).below hx | replace oa := ((oa.setCell (by simp <;> omega) _).setCell (by simp <;> omega) _).below hx
  obtain ⟨c0_oa, c1_oa, f0_oa, f1_oa, z_oa⟩ := oa.two
  try clear c0_ob c1_ob f0_ob f1_ob z_ob
  first | replace ob := ob.below hx | replace ob := (ob.alloc _).below hx | replace ob := ((ob.alloc _).alloc _).below hx | replace ob := (((ob.alloc _).alloc _).alloc _).below hx | replace ob := (ob.set2 _ _).below hx | replace ob := ((ob.setCell (by simp <;> omega) _).setCell (by simp <;> omega) _).below hx
  obtain ⟨c0_ob, c1_ob, f0_ob, f1_ob, z_ob⟩ := ob.two
  try clear c0_ox c1_ox f0_ox f1_ox z_ox
  first | replace ox := ox.below hx | replace ox := (ox.alloc _).below hx | replace ox := ((ox.alloc _).alloc _).below hx | replace ox := (((ox.alloc _).alloc _).alloc _).below hx | replace ox := (ox.set2 _ _).below hx | replace ox := ((ox.setCell (by simp <;> omega) _).setCell (by simp <;> omega) _).below hx
  obtain ⟨c0_ox, c1_ox, f0_ox, f1_ox, z_ox⟩ := ox.two
  try clear c0_oy c1_oy f0_oy f1_oy z_oy
  first | replace oy := oy.below hx | replace oy := (oy.alloc _).below hx | replace oy := ((oy.alloc _).alloc _).below hx | replace oy := (((oy.alloc _).alloc _).alloc _).below hx | replace oy := (oy.set2 _ _).below hx | replace oy := ((oy.setCell (by simp <;> omega) _).setCell (by simp <;> omega) _).below hx
  obtain ⟨c0_oy, c1_oy, f0_oy, f1_oy, z_oy⟩ := oy.two
  replace hb : Below w.heap.size w w7 := Below.trans (by (repeat (first | exact Below.refl _ _ | assumption | refine Below.drew ?_ | refine below_drewN ?_ _ | refine Below.setCell ?_ (by first | omega | (simp <;> omega)) _ | refine Below.alloc ?_ (by have := hb.size; first | omega | (simp <;> omega)) _))) (hx.mono (by have := hb.size; first | omega | (simp <;> omega)))
  clear hx
  go_wp2_with fail
  refine (r_sub_at SU.out).mono ?_
  rintro e w8 ⟨rfl, hx⟩
  try clear c0_oa c1_oa f0_oa f1_oa z_oa
  first | replace oa := oa.below hx | replace oa := (oa.alloc _).below hx | replace oa := ((oa.alloc _).alloc _).below hx | replace oa := (((oa.alloc _).alloc _).alloc _).below hx | replace oa := (oa.set2 _ _).below hx | replace oa := ((oa.setCell (by simp <;> omega) _).setCell (by simp <;> omega) _).below hx
  obtain ⟨c0_oa, c1_oa, f0_oa, f1_oa, z_oa⟩ := oa.two
  try clear c0_ob c1_ob f0_ob f1_ob z_ob
  first | replace ob := ob.below hx | replace ob := (ob.alloc _).below hx | replace ob := ((ob.alloc _).alloc _).below hx | replace ob := (((ob.alloc _).alloc _).alloc _).below hx | replace ob := (ob.set2 _ _).below hx | replace ob := ((ob.setCell (by simp <;> omega) _).setCell (by simp <;> omega) _).below hx
  obtain ⟨c0_ob, c1_ob, f0_ob, f1_ob, z_ob⟩ := ob.two
  try clear c0_ox c1_ox f0_ox f1_ox z_ox
  first | replace ox := ox.below hx | replace ox := (ox.alloc _).below hx | replace ox := ((ox.alloc _).alloc _).below hx | replace ox := (((ox.alloc _).alloc _).alloc _).below hx | replace ox := (ox.set2 _ _).below hx | replace ox := ((ox.setCell (by simp <;> omega) _).setCell (by simp <;> omega) _).below hx
  obtain ⟨c0_ox, c1_ox, f0_ox, f1_ox, z_ox⟩ := ox.two
  try clear c0_oy c1_oy f0_oy f1_oy z_oy
  first | replace oy := oy.below hx | replace oy := (oy.alloc _).below hx | replace oy := ((oy.alloc _).alloc _).below hx | replace oy := (((oy.alloc _).alloc _).alloc _).below hx | replace oy := (oy.set2 _ _).below hx | replace oy := ((oy.setCell (by simp <;> omega) _).setCell (by simp <;> omega) _).below hx
  obtain ⟨c0_oy, c1_oy, f0_oy, f1_oy, z_oy⟩ := oy.two
  replace hb : Below w.heap.size w w8 := Below.trans (by (repeat (first | exact Below.refl _ _ | assumption | refine Below.drew ?_ | refine below_drewN ?_ _ | refine Below.setCell ?_ (by first | omega | (simp <;> omega)) _ | refine Below.alloc ?_ (by have := hb.size; first | omega | (simp <;> omega)) _))) (hx.mono (by have := hb.size; first | omega | (simp <;> omega)))
  clear hx
  go_wp2_with fail
  refine (mul_at MU.out).mono ?_
  rintro e w9 ⟨rfl, hx⟩
  try clear c0_oa c1_oa f0_oa f1_oa z_oa
  first | replace oa := oa.below hx | replace oa := (oa.alloc _).below hx | replace oa := ((oa.alloc _).alloc _).below hx | replace oa := (((oa.alloc _).alloc _).alloc _).below hx | replace oa := (oa.set2 _ _).below hx | replace oa := ((oa.setCell (by simp <;> omega) _).setCell (by simp <;> omega) _).below hx
  obtain ⟨c0_oa, c1_oa, f0_oa, f1_oa, z_oa⟩ := oa.two
  try clear c0_ob c1_ob f0_ob f1_ob z_ob
  first | replace ob := ob.below hx | replace ob := (ob.alloc _).below hx | replace ob := ((ob.alloc _).alloc _).below hx | replace ob := (((ob.alloc _).alloc _).alloc _).below hx | replace ob := (ob.set2 _ _).below hx | replace ob := ((ob.setCell (by simp <;> omega) _).setCell (by simp <;> omega) _).below hx
  obtain ⟨c0_ob, c1_ob, f0_ob, f1_ob, z_ob⟩ := ob.two
  try clear c0_ox c1_ox f0_ox f1_ox z_ox
  first | replace ox := ox.below hx | replace ox := (ox.alloc _).below hx | replace ox := ((ox.alloc _).alloc _).below hx | replace ox := (((ox.alloc _).alloc _).alloc _).below hx | replace ox := (ox.set2 _ _).below hx | replace ox := ((ox.setCell (by simp <;> omega) _).setCell (by simp <;> omega) _).below hx
  obtain ⟨c0_ox, c1_ox, f0_ox, f1_ox, z_ox⟩ := ox.two
  try clear c0_oy c1_oy f0_oy f1_oy z_oy
  first | replace oy := oy.below hx | replace oy := (oy.alloc _).below hx | replace oy := ((oy.alloc _).alloc _).below hx | replace oy := (((oy.alloc _).alloc _).alloc _).below hx | replace oy := (oy.set2 _ _).below hx | replace oy := ((oy.setCell (by simp <;> omega) _).setCell (by simp <;> omega) _).below hx
  obtain ⟨c0_oy, c1_oy, f0_oy, f1_oy, z_oy⟩ := oy.two
  replace hb : Below w.heap.size w w9 := Below.trans (by (repeat (first | exact Below.refl _ _ | assumption | refine Below.drew ?_ | refine below_drewN ?_ _ | refine Below.setCell ?_ (by first | omega | (simp <;> omega)) _ | refine Below.alloc ?_ (by have := hb.size; first | omega | (simp <;> omega)) _))) (hx.mono (by have := hb.size; first | omega | (simp <;> omega)))
  clear hx
  go_wp2_with fail
  refine (r_mul_at MU.out).mono ?_
  rintro e w10 ⟨rfl, hx⟩
  try clear c0_oa c1_oa f0_oa f1_oa z_oa
  first | replace oa := oa.below hx | replace oa := (oa.alloc _).below hx | replace oa := ((oa.alloc _).alloc _).below hx | replace oa := (((oa.alloc _).alloc _).alloc _).below hx | replace oa := (oa.set2 _ _).below hx | replace oa := ((oa.setCell (by simp <;> omega) _).setCell (by simp <;> omega) _).below hx
  obtain ⟨c0_oa, c1_oa, f0_oa, f1_oa, z_oa⟩ := oa.two
  try clear c0_ob c1_ob f0_ob f1_ob z_ob
  first | replace ob := ob.below hx | replace ob := (ob.alloc _).below hx | replace ob := ((ob.alloc _).alloc _).below hx | replace ob := (((ob.alloc _).alloc _).alloc _).below hx | replace ob := (ob.set2 _ _).below hx | replace ob := ((ob.setCell (by simp <;> omega) _).setCell (by simp <;> omega) _).below hx
  obtain ⟨c0_ob, c1_ob, f0_ob, f1_ob, z_ob⟩ := ob.two
  try clear c0_ox c1_ox f0_ox f1_ox z_ox
  first | replace ox := ox.below hx | replace ox := (ox.alloc _).below hx | replace ox := ((ox.alloc _).alloc _).below hx | replace ox := (((ox.alloc _).alloc _).alloc _).below hx | replace ox := (ox.set2 _ _).below hx | replace ox := ((ox.setCell (by simp <;> omega) _).setCell (by simp <;> omega) _).below hx
  obtain ⟨c0_ox, c1_ox, f0_ox, f1_ox, z_ox⟩ := ox.two
  try clear c0_oy c1_oy f0_oy f1_oy z_oy
  first | replace oy := oy.below hx | replace oy := (oy.alloc _).below hx | replace oy := ((oy.alloc _).alloc _).below hx | replace oy := (((oy.alloc _).alloc _).alloc _).below hx | replace oy := (oy.set2 _ _).below hx | replace oy := ((oy.setCell (by simp <;> omega) _).setCell (by simp <;> omega) _).below hx
  obtain ⟨c0_oy, c1_oy, f0_oy, f1_oy, z_oy⟩ := oy.two
  replace hb : Below w.heap.size w w10 := Below.trans (by (repeat (first | exact Below.refl _ _ | assumption | refine Below.drew ?_ | refine below_drewN ?_ _ | refine Below.setCell ?_ (by first | omega | (simp <;> omega)) _ | refine Below.alloc ?_ (by have := hb.size; first | omega | (simp <;> omega)) _))) (hx.mono (by have := hb.size; first | omega | (simp <;> omega)))
  clear hx
  go_wp2_with fail
  refine (cmp_at CM.out).mono ?_
  rintro e w11 ⟨rfl, hx⟩
  try clear c0_oa c1_oa f0_oa f1_oa z_oa
  first | replace oa := oa.below hx | replace oa := (oa.alloc _).below hx | replace oa := ((oa.alloc _).alloc _).below hx | replace oa := (((oa.alloc _).alloc _).alloc _).below hx | replace oa := (oa.set2 _ _).below hx | replace oa := ((oa.setCell (by simp <;> omega) _).setCell (by simp <;> omega) _).below hx
  obtain ⟨c0_oa, c1_oa, f0_oa, f1_oa, z_oa⟩ := oa.two
  try clear c0_ob c1_ob f0_ob f1_ob z_ob
  first | replace ob := ob.below hx | replace ob := (ob.alloc _).below hx | replace ob := ((ob.alloc _).alloc _).below hx | replace ob := (((ob.alloc _).alloc _).alloc _).below hx | replace ob := (ob.set2 _ _).below hx | replace ob := ((ob.setCell (by simp <;> omega) _).setCell (by simp <;> omega) _).below hx
  obtain ⟨c0_ob, c1_ob, f0_ob, f1_ob, z_ob⟩ := ob.two
  try clear c0_ox c1_ox f0_ox f1_ox z_ox
  first | replace ox := ox.below hx | replace ox := (ox.alloc _).below hx | replace ox := ((ox.alloc _).alloc _).below hx | replace ox := (((ox.alloc _).alloc _).alloc _).below hx | replace ox := (ox.set2 _ _).below hx | replace ox := ((ox.setCell (by simp <;> omega) _).setCell (by simp <;> omega) _).below hx
  obtain ⟨c0_ox, c1_ox, f0_ox, f1_ox, z_ox⟩ := ox.two
  try clear c0_oy c1_oy f0_oy f1_oy z_oy
  first | replace oy := oy.below hx | replace oy := (oy.alloc _).below hx | replace oy := ((oy.alloc _).alloc _).below hx | replace oy := (((oy.alloc _).alloc _).alloc _).below hx | replace oy := (oy.set2 _ _).below hx | replace oy := ((oy.setCell (by simp <;> omega) _).setCell (by simp <;> omega) _).below hx
  obtain ⟨c0_oy, c1_oy, f0_oy, f1_oy, z_oy⟩ := oy.two
  replace hb : Below w.heap.size w w11 := Below.trans (by (repeat (first | exact Below.refl _ _ | assumption | refine Below.drew ?_ | refine below_drewN ?_ _ | refine Below.setCell ?_ (by first | omega | (simp <;> omega)) _ | refine Below.alloc ?_ (by have := hb.size; first | omega | (simp <;> omega)) _))) (hx.mono (by have := hb.size; first | omega | (simp <;> omega)))
  clear hx
  go_wp2_with fail
  refine (r_compare_at CM.out).mono ?_
  rintro e w12 ⟨rfl, hx⟩
  try clear c0_oa c1_oa f0_oa f1_oa z_oa
  first | replace oa := oa.below hx | replace oa := (oa.alloc _).below hx | replace oa := ((oa.alloc _).alloc _).below hx | replace oa := (((oa.alloc _).alloc _).alloc _).below hx | replace oa := (oa.set2 _ _).below hx | replace oa := ((oa.setCell (by simp <;> omega) _).setCell (by simp <;> omega) _).below hx
  obtain ⟨c0_oa, c1_oa, f0_oa, f1_oa, z_oa⟩ := oa.two
  try clear c0_ob c1_ob f0_ob f1_ob z_ob
  first | replace ob := ob.below hx | replace ob := (ob.alloc _).below hx | replace ob := ((ob.alloc _).alloc _).below hx | replace ob := (((ob.alloc _).alloc _).alloc _).below hx | replace ob := (ob.set2 _ _).below hx | replace ob := ((ob.setCell (by simp <;> omega) _).setCell (by simp <;> omega) _).below hx
  obtain ⟨c0_ob, c1_ob, f0_ob, f1_ob, z_ob⟩ := ob.two
  try clear c0_ox c1_ox f0_ox f1_ox z_ox
  first | replace ox := ox.below hx | replace ox := (ox.alloc _).below hx | replace ox := ((ox.alloc _).alloc _).below hx | replace ox := (((ox.alloc _).alloc _).alloc _).below hx | replace ox := (ox.set2 _ _).below hx | replace ox := ((ox.setCell (by simp <;> omega) _).setCell (by simp <;> omega) _).below hx
  obtain ⟨c0_ox, c1_ox, f0_ox, f1_ox, z_ox⟩ := ox.two
  try clear c0_oy c1_oy f0_oy f1_oy z_oy
  first | replace oy := oy.below hx | replace oy := (oy.alloc _).below hx | replace oy := ((oy.alloc _).alloc _).below hx | replace oy := (((oy.alloc _).alloc _).alloc _).below hx | replace oy := (oy.set2 _ _).below hx | replace oy := ((oy.setCell (by simp <;> omega) _).setCell (by simp <;> omega) _).below hx
  obtain ⟨c0_oy, c1_oy, f0_oy, f1_oy, z_oy⟩ := oy.two
  replace hb : Below w.heap.size w w12 := Below.trans (by (repeat (first | exact Below.refl _ _ | assumption | refine Below.drew ?_ | refine below_drewN ?_ _ | refine Below.setCell ?_ (by first | omega | (simp <;> omega)) _ | refine Below.alloc ?_ (by have := hb.size; first | omega | (simp <;> omega)) _))) (hx.mono (by have := hb.size; first | omega | (simp <;> omega)))
  clear hx
  go_wp2_with fail
  refine (round_at RO.out).mono ?_
  rintro e w13 ⟨rfl, hx⟩
  try clear c0_oa c1_oa f0_oa f1_oa z_oa
  first | replace oa := oa.below hx | replace oa := (oa.alloc _).below hx | replace oa := ((oa.alloc _).alloc _).below hx | replace oa := (((oa.alloc _).alloc _).alloc _).below hx | replace oa := (oa.set2 _ _).below hx | replace oa := ((oa.setCell (by simp <;> omega) _).setCell (by simp <;> omega) _).below hx
  obtain ⟨c0_oa, c1_oa, f0_oa, f1_oa, z_oa⟩ := oa.two
  try clear c0_ob c1_ob f0_ob f1_ob z_ob
  first | replace ob := ob.below hx | replace ob := (ob.alloc _).below hx | replace ob := ((ob.alloc _).alloc _).below hx | replace ob := (((ob.alloc _).alloc _).alloc _).below hx | replace ob := (ob.set2 _ _).below hx | replace ob := ((ob.setCell (by simp <;> omega) _).setCell (by simp <;> omega) _).below hx
  obtain ⟨c0_ob, c1_ob, f0_ob, f1_ob, z_ob⟩ := ob.two
  try clear c0_ox c1_ox f0_ox f1_ox z_ox
  first | replace ox := ox.below hx | replace ox := (ox.alloc _).below hx | replace ox := ((ox.alloc _).alloc _).below hx | replace ox := (((ox.alloc _).alloc _).alloc _).below hx | replace ox := (ox.set2 _ _).below hx | replace ox := ((ox.setCell (by simp <;> omega) _).setCell (by simp <;> omega) _).below hx
  obtain ⟨c0_ox, c1_ox, f0_ox, f1_ox, z_ox⟩ := ox.two
  try clear c0_oy c1_oy f0_oy f1_oy z_oy
  first | replace oy := oy.below hx | replace oy := (oy.alloc _).below hx | replace oy := ((oy.alloc _).alloc _).below hx | replace oy := (((oy.alloc _).alloc _).alloc _).below hx | replace oy := (oy.set2 _ _).below hx | replace oy := ((oy.setCell (by simp <;> omega) _).setCell (by simp <;> omega) _).below hx
  obtain ⟨c0_oy, c1_oy, f0_oy, f1_oy, z_oy⟩ := oy.two
  replace hb : Below w.heap.size w w13 := Below.trans (by (repeat (first | exact Below.refl _ _ | assumption | refine Below.drew ?_ | refine below_drewN ?_ _ | refine Below.setCell ?_ (by first | omega | (simp <;> omega)) _ | refine Below.alloc ?_ (by have := hb.size; first | omega | (simp <;> omega)) _))) (hx.mono (by have := hb.size; first | omega | (simp <;> omega)))
  clear hx
  go_wp2_with fail
  refine (r_round_at RO.out).mono ?_
  rintro e w14 ⟨rfl, hx⟩
  try clear c0_oa c1_oa f0_oa f1_oa z_oa
  first | replace oa := oa.below hx | replace oa := (oa.alloc _).below hx | replace oa := ((oa.alloc _).alloc _).below hx | replace oa := (((oa.alloc _).alloc _).alloc _).below hx | replace oa := (oa.set2 _ _).below hx | replace oa := ((oa.setCell (by simp <;> omega) _).setCell (by simp <;> omega) _).below hx
  obtain ⟨c0_oa, c1_oa, f0_oa, f1_oa, z_oa⟩ := oa.two
  try clear c0_ob c1_ob f0_ob f1_ob z_ob
  first | replace ob := ob.below hx | replace ob := (ob.alloc _).below hx | replace ob := ((ob.alloc _).alloc _).below hx | replace ob := (((ob.alloc _).alloc _).alloc _).below hx | replace ob := (ob.set2 _ _).below hx | replace ob := ((ob.setCell (by simp <;> omega) _).setCell (by simp <;> omega) _).below hx
  obtain ⟨c0_ob, c1_ob, f0_ob, f1_ob, z_ob⟩ := ob.two
  try clear c0_ox c1_ox f0_ox f1_ox z_ox
  first | replace ox := ox.below hx | replace ox := (ox.alloc _).below hx | replace ox := ((ox.alloc _).alloc _).below hx | replace ox := (((ox.alloc _).alloc _).alloc _).below hx | replace ox := (ox.set2 _ _).below hx | replace ox := ((ox.setCell (by simp <;> omega) _).setCell (by simp <;> omega) _).below hx
  obtain ⟨c0_ox, c1_ox, f0_ox, f1_ox, z_ox⟩ := ox.two
  try clear c0_oy c1_oy f0_oy f1_oy z_oy
  first | replace oy := oy.below hx | replace oy := (oy.alloc _).below hx | replace oy := ((oy.alloc _).alloc _).below hx | replace oy := (((oy.alloc _).alloc _).alloc _).below hx | replace oy := (oy.set2 _ _).below hx | replace oy := ((oy.setCell (by simp <;> omega) _).setCell (by simp <;> omega) _).below hx
  obtain ⟨c0_oy, c1_oy, f0_oy, f1_oy, z_oy⟩ := oy.two
  replace hb : Below w.heap.size w w14 := Below.trans (by (repeat (first | exact Below.refl _ _ | assumption | refine Below.drew ?_ | refine below_drewN ?_ _ | refine Below.setCell ?_ (by first | omega | (simp <;> omega)) _ | refine Below.alloc ?_ (by have := hb.size; first | omega | (simp <;> omega)) _))) (hx.mono (by have := hb.size; first | omega | (simp <;> omega)))
  clear hx
  go_wp2_with fail
  refine (part_at PA.out).mono ?_
  rintro e w15 ⟨rfl, hx⟩
  try clear c0_oa c1_oa f0_oa f1_oa z_oa
  first | replace oa := oa.below hx | replace oa := (oa.alloc _).below hx | replace oa := ((oa.alloc _).alloc _).below hx | replace oa := (((oa.alloc _).alloc _).alloc _).below hx | replace oa := (oa.set2 _ _).below hx | replace oa := ((oa.setCell (by simp <;> omega) _).setCell (by simp <;> omega) _).below hx
  obtain ⟨c0_oa, c1_oa, f0_oa, f1_oa, z_oa⟩ := oa.two
  try clear c0_ob c1_ob f0_ob f1_ob z_ob
  first | replace ob := ob.below hx | replace ob := (ob.alloc _).below hx | replace ob := ((ob.alloc _).alloc _).below hx | replace ob := (((ob.alloc _).alloc _).alloc _).below hx | replace ob := (ob.set2 _ _).below hx | replace ob := ((ob.setCell (by simp <;> omega) _).setCell (by simp <;> omega) _).below hx
  obtain ⟨c0_ob, c1_ob, f0_ob, f1_ob, z_ob⟩ := ob.two
  try clear c0_ox c1_ox f0_ox f1_ox z_ox
  first | replace ox := ox.below hx | replace ox := (ox.alloc _).below hx | replace ox := ((ox.alloc _).alloc _).below hx | replace ox := (((ox.alloc _).alloc _).alloc _).below hx | replace ox := (ox.set2 _ _).below hx | replace ox := ((ox.setCell (by simp <;> omega) _).setCell (by simp <;> omega) _).below hx
  obtain ⟨c0_ox, c1_ox, f0_ox, f1_ox, z_ox⟩ := ox.two
  try clear c0_oy c1_oy f0_oy f1_oy z_oy
  first | replace oy := oy.below hx | replace oy := (oy.alloc _).below hx | replace oy := ((oy.alloc _).alloc _).below hx | replace oy := (((oy.alloc _).alloc _).alloc _).below hx | replace oy := (oy.set2 _ _).below hx | replace oy := ((oy.setCell (by simp <;> omega) _).setCell (by simp <;> omega) _).below hx
  obtain ⟨c0_oy, c1_oy, f0_oy, f1_oy, z_oy⟩ := oy.two
  replace hb : Below w.heap.size w w15 := Below.trans (by (repeat (first | exact Below.refl _ _ | assumption | refine Below.drew ?_ | refine below_drewN ?_ _ | refine Below.setCell ?_ (by first | omega | (simp <;> omega)) _ | refine Below.alloc ?_ (by have := hb.size; first | omega | (simp <;> omega)) _))) (hx.mono (by have := hb.size; first | omega | (simp <;> omega)))
  clear hx
  go_wp2_with fail
  refine (r_part_at PA.out).mono ?_
  rintro e w16 ⟨rfl, hx⟩
  try clear c0_oa c1_oa f0_oa f1_oa z_oa
  first | replace oa := oa.below hx | replace oa := (oa.alloc _).below hx | replace oa := ((oa.alloc _).alloc _).below hx | replace oa := (((oa.alloc _).alloc _).alloc _).below hx | replace oa := (oa.set2 _ _).below hx | replace oa := ((oa.setCell (by simp <;> omega) _).setCell (by simp <;> omega) _).below hx
  obtain ⟨c0_oa, c1_oa, f0_oa, f1_oa, z_oa⟩ := oa.two
  try clear c0_ob c1_ob f0_ob f1_ob z_ob
  first | replace ob := ob.below hx | replace ob := (ob.alloc _).below hx | replace ob := ((ob.alloc _).alloc _).below hx | replace ob := (((ob.alloc _).alloc _).alloc _).below hx | replace ob := (ob.set2 _ _).below hx | replace ob := ((ob.setCell (by simp <;> omega) _).setCell (by simp <;> omega) _).below hx
  obtain ⟨c0_ob, c1_ob, f0_ob, f1_ob, z_ob⟩ := ob.two
  try clear c0_ox c1_ox f0_ox f1_ox z_ox
  first | replace ox := ox.below hx | replace ox := (ox.alloc _).below hx | replace ox := ((ox.alloc _).alloc _).below hx | replace ox := (((ox.alloc _).alloc _).alloc _).below hx | replace ox := (ox.set2 _ _).below hx | replace ox := ((ox.setCell (by simp <;> omega) _).setCell (by simp <;> omega) _).below hx
  obtain ⟨c0_ox, c1_ox, f0_ox, f1_ox, z_ox⟩ := ox.two
  try clear c0_oy c1_oy f0_oy f1_oy z_oy
  first | replace oy := oy.below hx | replace oy := (oy.alloc _).below hx | replace oy := ((oy.alloc _).alloc _).below hx | replace oy := (((oy.alloc _).alloc _).alloc _).below hx | replace oy := (oy.set2 _ _).below hx | replace oy := ((oy.setCell (by simp <;> omega) _).setCell (by simp <;> omega) _).below hx
  obtain ⟨c0_oy, c1_oy, f0_oy, f1_oy, z_oy⟩ := oy.two
  replace hb : Below w.heap.size w w16 := Below.trans (by (repeat (first | exact Below.refl _ _ | assumption | refine Below.drew ?_ | refine below_drewN ?_ _ | refine Below.setCell ?_ (by first | omega | (simp <;> omega)) _ | refine Below.alloc ?_ (by have := hb.size; first | omega | (simp <;> omega)) _))) (hx.mono (by have := hb.size; first | omega | (simp <;> omega)))
  clear hx
  go_wp2_with fail
  go_ret
  exact Ret.mk rfl (by (have hbs := hb.size; repeat (first | exact Below.refl _ _ | assumption | refine Below.drew ?_ | refine below_drewN ?_ _ | refine Below.setCell ?_ (by first | omega | (simp <;> omega)) _ | refine Below.alloc ?_ (by first | omega | (simp <;> omega)) _)))

theorem walkMatches (a1 a2 b1 b2 n d k : Int) (_ : (Lit.int .i64 a1).wf = true) (_ : (Lit.int .i64 a2).wf = true) (_ : (Lit.int .i64 b1).wf = true) (_ : (Lit.int .i64 b2).wf = true) (_ : (Lit.int .i64 n).wf = true) (_ : (Lit.int .i64 d).wf = true) (_ : (Lit.int .i64 k).wf = true) (w : World) : Calls Try.prog 3 #[.agg #[.int .i64 a1, .int .i64 a2], .agg #[.int .i64 b1, .int .i64 b2], .int .i64 n, .int .i64 d, .int .i64 k] w (Ret (.bool true) w) :=
  matches_walk a1 a2 b1 b2 n d k _ _ _ _ _ _ _ _ _ _ _ _ _ _ _ _ _ _ _ (Lib.hid rfl) (Lib.hid rfl) (Lib.hid rfl) (Lib.hid rfl) (Lib.hid rfl) (Lib.hid rfl) (Lib.hid rfl) (Lib.hid rfl) w

theorem own_ratioMatchesReference : ownKnob Try.prog.godebug = none := by kernel_rfl
theorem laid_ratioMatchesReference : laidOutB Try.prog = true := by kernel_rfl

set_option maxRecDepth 100000 in
theorem lifted_ratioMatchesReference (os : Os) (started : os.Started) (H : Type) (enc : TypeId × Value → H) :
    ReturnsInHanded {} Try.checked os 3 .any (Rows.ratioMatchesReferenceSpec.pre6 enc Try.prog Try.f3 Rows.ratioMatchesReferenceRow.domain false) (Rows.ratioMatchesReferenceSpec.post enc Try.prog Try.f3 false true false false) := by
  refine returnsInHanded_of_change (C := Try.checked) own_ratioMatchesReference started (by kernel_rfl) Try.func3
    (ChangeSpec.witness6 (enc := enc) (C := Try.checked) false ⟨#[], #[.agg #[.int .i64 0, .int .i64 0], .agg #[.int .i64 0, .int .i64 0], .int .i64 0, .int .i64 0, .int .i64 0], []⟩ 8 (by kernel_rfl) (by kernel_rfl) (by kernel_rfl) (by kernel_rfl)) ?_
  intro W base args ds gs before hval0 hW hcnd _
  have hval : ∀ (j : Nat) t v, Try.f3.params[j]? = some t → args[j]? = some v → Value.okWide Try.prog W .any base t v := hval0
  have hW' := hW
  obtain ⟨p, q, hA0, hV, rfl, hfz, hnd⟩ := hW
  have hA : DataW.TrodAll enc Try.prog W 0 (fun _ => true) true Try.f3.params.toList args.toList ds p := hA0
  rw [Try.params3] at hA hval
  obtain ⟨v0, vs0, d0, ds0, p0, q0, hargs, rfl, rfl, h0, r0⟩ := trodAll_cons hA
  obtain ⟨v1, vs1, d1, ds1, p1, q1, rfl, rfl, rfl, h1, r1⟩ := trodAll_cons r0
  obtain ⟨v2, vs2, d2, ds2, p2, q2, rfl, rfl, rfl, h2, r2⟩ := trodAll_cons r1
  obtain ⟨v3, vs3, d3, ds3, p3, q3, rfl, rfl, rfl, h3, r3⟩ := trodAll_cons r2
  obtain ⟨v4, vs4, d4, ds4, p4, q4, rfl, rfl, rfl, h4, r4⟩ := trodAll_cons r3
  obtain ⟨rfl, rfl, rfl⟩ := trodAll_nil r4
  obtain rfl : args = #[v0, v1, v2, v3, v4] := by cases args; simp_all
  obtain ⟨rfl, rfl⟩ := trodVars_none hV
  have k0 := h0
  have lt0 : ∀ x ∈ p0, x.block < W.heap.size := by obtain ⟨m, hm⟩ := k0; exact DataW.trod_lt m _ _ _ hm
  have cells0 : Try.prog.cellsOf 23 = 2 := by kernel_rfl
  obtain ⟨c00, c01, y00, y01, m0, rfl, _, _, hy00, hy01⟩ := open_agg2 Try.underlying23 (by kernel_rfl) cells0 (hval 0 23 v0 rfl rfl) h0
  obtain ⟨a00, e00, _, w00⟩ := DataW.trod_int Try.underlying3 hy00
  simp at e00
  subst e00
  obtain ⟨a01, e01, _, w01⟩ := DataW.trod_int Try.underlying3 hy01
  simp at e01
  subst e01
  have k1 := h1
  have lt1 : ∀ x ∈ p1, x.block < W.heap.size := by obtain ⟨m, hm⟩ := k1; exact DataW.trod_lt m _ _ _ hm
  have cells1 : Try.prog.cellsOf 23 = 2 := by kernel_rfl
  obtain ⟨c10, c11, y10, y11, m1, rfl, _, _, hy10, hy11⟩ := open_agg2 Try.underlying23 (by kernel_rfl) cells1 (hval 1 23 v1 rfl rfl) h1
  obtain ⟨a10, e10, _, w10⟩ := DataW.trod_int Try.underlying3 hy10
  simp at e10
  subst e10
  obtain ⟨a11, e11, _, w11⟩ := DataW.trod_int Try.underlying3 hy11
  simp at e11
  subst e11
  have k2 := h2
  have lt2 : ∀ x ∈ p2, x.block < W.heap.size := by obtain ⟨m, hm⟩ := k2; exact DataW.trod_lt m _ _ _ hm
  obtain ⟨a2, rfl, _, _, w2⟩ := open_int Try.underlying3 (hval 2 3 v2 rfl rfl) h2
  have k3 := h3
  have lt3 : ∀ x ∈ p3, x.block < W.heap.size := by obtain ⟨m, hm⟩ := k3; exact DataW.trod_lt m _ _ _ hm
  obtain ⟨a3, rfl, _, _, w3⟩ := open_int Try.underlying3 (hval 3 3 v3 rfl rfl) h3
  have k4 := h4
  have lt4 : ∀ x ∈ p4, x.block < W.heap.size := by obtain ⟨m, hm⟩ := k4; exact DataW.trod_lt m _ _ _ hm
  obtain ⟨a4, rfl, _, _, w4⟩ := open_int Try.underlying3 (hval 4 3 v4 rfl rfl) h4
  clear hA0 hval0
  refine (walkMatches a00 a01 a10 a11 a2 a3 a4 w00 w01 w10 w11 w2 w3 w4 W).mono fun e W' ⟨he, bel⟩ => ?_
  subst he
  exact ⟨_, rfl, _, _, _, [], _, [], hW', trodAll_mk1 (shut_bool Try.underlying4 _), (trodAll_cons_mk (Below.trod laid_ratioMatchesReference (by kernel_rfl) (of_decide_eq_true (by kernel_rfl)) k0 bel lt0) (trodAll_cons_mk (Below.trod laid_ratioMatchesReference (by kernel_rfl) (of_decide_eq_true (by kernel_rfl)) k1 bel lt1) (trodAll_cons_mk (Below.trod laid_ratioMatchesReference (by kernel_rfl) (of_decide_eq_true (by kernel_rfl)) k2 bel lt2) (trodAll_cons_mk (Below.trod laid_ratioMatchesReference (by kernel_rfl) (of_decide_eq_true (by kernel_rfl)) k3 bel lt3) (trodAll_cons_mk (Below.trod laid_ratioMatchesReference (by kernel_rfl) (of_decide_eq_true (by kernel_rfl)) k4 bel lt4) trodAll_mk0))))), rfl, bel.frame _, fun h => by cases h⟩

/-- The given statement. -/
theorem ratioMatchesReference_holds : Rows.RatioMatchesReferenceSaid :=
  OpenClaim.holds_of_wide 3 Try.f3 rfl rfl rfl rfl rfl rfl rfl ⟨rfl, rfl, rfl, rfl, rfl⟩ rfl rfl rfl rfl rfl (by kernel_rfl) Try.func3 (by kernel_rfl)
    (of_decide_eq_true (by kernel_rfl)) (by unfold Func.isWrapper; first | (rw [if_pos (by decide +kernel)]; kernel_rfl) | (rw [if_neg (by decide +kernel)]; exact ⟨rfl, rfl⟩))
    (fun os started H enc _ => lifted_ratioMatchesReference os started H enc)
end Go.Proofs.Ytojjjbhkpcmooaa
