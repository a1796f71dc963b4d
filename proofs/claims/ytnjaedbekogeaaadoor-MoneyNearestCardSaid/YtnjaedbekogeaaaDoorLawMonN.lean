/-
  The walk of MoneyNearest.
-/
import Derived.Test.YtnjaedbekogeaaaDoorMonRate
namespace Go.Proofs.YtnjaedbekogeaaaDoor
open Go.RowKit Go.Shelf
set_option maxRecDepth 100000

set_option maxHeartbeats 1000000 in
theorem walkN_long (v : Value) (l : List Ex) (c k to : Int) (w : World) (hL : Lay w) (hX : Exs w v l) (hl : 40 < l.length) : Calls Tryd.prog 4 #[v, .agg #[.int .i64 c, .int .i64 k], .int .i64 to] w (Ret (.bool true) w) := by
  have hH : ∀ wk, Below w.heap.size w wk → Calls Tryd.prog 9 #[] wk (Ret (.bool true) wk) := fun wk h => mhead_any wk (hL.below h)
  have hb : Below w.heap.size w w := Below.refl _ _
  have hxl := hX.short
  obtain ⟨ad, cap, hsl, _⟩ := hX.open
  subst hsl
  have q0 : decide (40 < (l.length : Int)) = true := by rw [decide_eq_true_iff]; omega
  go_enter Tryd.func4, Tryd.ntmps4
  go_wp2_with fail
  refine (hH _ (by (have hbs := hb.size; repeat (first | exact Below.refl _ _ | assumption | refine Below.drew ?_ | refine below_drewN ?_ _ | refine Below.setCell ?_ (by first | omega | (simp <;> omega)) _ | refine Below.alloc ?_ (by first | omega | (simp <;> omega)) _)))).mono ?_
  rintro e w1 ⟨rfl, hx⟩
  try clear c0_oM c1_oM f0_oM f1_oM z_oM
  first | have oM := (Own.new w _ _).below hx | have oM := ((Own.new w _ _).alloc _).below hx | have oM := (((Own.new w _ _).alloc _).alloc _).below hx | have oM := ((((Own.new w _ _).alloc _).alloc _).alloc _).below hx | have oM := ((Own.new w _ _).set2 _ _).below hx | have oM := (((Own.new w _ _).setCell (by simp <;> omega) _).setCell (by simp <;> omega) _).below hx
  obtain ⟨c0_oM, c1_oM, f0_oM, f1_oM, z_oM⟩ := oM.two
  replace hb : Below w.heap.size w w1 := Below.trans (by (repeat (first | exact Below.refl _ _ | assumption | refine Below.drew ?_ | refine below_drewN ?_ _ | refine Below.setCell ?_ (by first | omega | (simp <;> omega)) _ | refine Below.alloc ?_ (by have := hb.size; first | omega | (simp <;> omega)) _))) (hx.mono (by have := hb.size; first | omega | (simp <;> omega)))
  clear hx
  clear hH
  go_wp2_with fail
  go_ret
  exact Ret.mk rfl hb

set_option maxHeartbeats 2000000 in
theorem walkN_err (v : Value) (l : List Ex) (c k to : Int) (w : World) (hL : Lay w) (hX : Exs w v l) (hl : ¬ 40 < l.length) (e0 : Int) (he : e0 ≠ 0) (hp : convF l c k to = ((0, 0), e0)) : Calls Tryd.prog 4 #[v, .agg #[.int .i64 c, .int .i64 k], .int .i64 to] w (Ret (.bool true) w) := by
  have hH : ∀ wk, Below w.heap.size w wk → Calls Tryd.prog 9 #[] wk (Ret (.bool true) wk) := fun wk h => mhead_any wk (hL.below h)
  have hb : Below w.heap.size w w := Below.refl _ _
  have hxl := hX.short
  have hC : ∀ wk, Below w.heap.size w wk → Calls Tryd.prog 10 #[v, .agg #[.int .i64 c, .int .i64 k], .int .i64 to] wk (Ret (.tuple #[.agg #[.int .i64 0, .int .i64 0], .int .i64 e0]) wk) := fun wk h => by
    have := convert_any v l c k to wk (hX.below h); rw [hp] at this; exact this
  obtain ⟨⟨⟨r1, r2⟩, r3⟩, hr⟩ : ∃ p, p = rateT (rateOf l k to) := ⟨_, rfl⟩
  have hR : ∀ wk, Below w.heap.size w wk → Calls Tryd.prog 21 #[v, .int .i64 k, .int .i64 to] wk (Ret (.tuple #[.agg #[.int .i64 r1, .int .i64 r2], .bool r3]) wk) := fun wk h => by
    have := rate_any v l k to wk (hX.below h); unfold rateV at this; rw [← hr] at this; exact this
  obtain ⟨ad, cap, hsl, _⟩ := hX.open
  subst hsl
  have q0 : decide (40 < (l.length : Int)) = false := by rw [decide_eq_false_iff_not]; omega
  have q1 : (e0 != 0) = true := by simpa using he
  clear hp hr he hX hL
  go_enter Tryd.func4, Tryd.ntmps4
  go_wp2_with fail
  refine (hH _ (by (have hbs := hb.size; repeat (first | exact Below.refl _ _ | assumption | refine Below.drew ?_ | refine below_drewN ?_ _ | refine Below.setCell ?_ (by first | omega | (simp <;> omega)) _ | refine Below.alloc ?_ (by first | omega | (simp <;> omega)) _)))).mono ?_
  rintro e w1 ⟨rfl, hx⟩
  try clear c0_oM c1_oM f0_oM f1_oM z_oM
  first | have oM := (Own.new w _ _).below hx | have oM := ((Own.new w _ _).alloc _).below hx | have oM := (((Own.new w _ _).alloc _).alloc _).below hx | have oM := ((((Own.new w _ _).alloc _).alloc _).alloc _).below hx | have oM := ((Own.new w _ _).set2 _ _).below hx | have oM := (((Own.new w _ _).setCell (by simp <;> omega) _).setCell (by simp <;> omega) _).below hx
  obtain ⟨c0_oM, c1_oM, f0_oM, f1_oM, z_oM⟩ := oM.two
  replace hb : Below w.heap.size w w1 := Below.trans (by (repeat (first | exact Below.refl _ _ | assumption | refine Below.drew ?_ | refine below_drewN ?_ _ | refine Below.setCell ?_ (by first | omega | (simp <;> omega)) _ | refine Below.alloc ?_ (by have := hb.size; first | omega | (simp <;> omega)) _))) (hx.mono (by have := hb.size; first | omega | (simp <;> omega)))
  clear hx
  clear hH
  go_wp2_with fail
  refine (hC _ hb).mono ?_
  rintro e w2 ⟨rfl, hx⟩
  try clear c0_oM c1_oM f0_oM f1_oM z_oM
  first | replace oM := oM.below hx | replace oM := (oM.alloc _).below hx | replace oM := ((oM.alloc _).alloc _).below hx | replace oM := (((oM.alloc _).alloc _).alloc _).below hx | replace oM := (oM.set2 _ _).below hx | replace oM := ((oM.setCell (by simp <;> omega) _).setCell (by simp <;> omega) _).below hx
  obtain ⟨c0_oM, c1_oM, f0_oM, f1_oM, z_oM⟩ := oM.two
  replace hb : Below w.heap.size w w2 := Below.trans (by (repeat (first | exact Below.refl _ _ | assumption | refine Below.drew ?_ | refine below_drewN ?_ _ | refine Below.setCell ?_ (by first | omega | (simp <;> omega)) _ | refine Below.alloc ?_ (by have := hb.size; first | omega | (simp <;> omega)) _))) (hx.mono (by have := hb.size; first | omega | (simp <;> omega)))
  clear hx
  go_wp2_with fail
  refine (hR _ (by (have hbs := hb.size; repeat (first | exact Below.refl _ _ | assumption | refine Below.drew ?_ | refine below_drewN ?_ _ | refine Below.setCell ?_ (by first | omega | (simp <;> omega)) _ | refine Below.alloc ?_ (by first | omega | (simp <;> omega)) _)))).mono ?_
  rintro e w3 ⟨rfl, hx⟩
  try clear c0_oM c1_oM f0_oM f1_oM z_oM
  first | replace oM := oM.below hx | replace oM := (oM.alloc _).below hx | replace oM := ((oM.alloc _).alloc _).below hx | replace oM := (((oM.alloc _).alloc _).alloc _).below hx | replace oM := (oM.set2 _ _).below hx | replace oM := ((oM.setCell (by simp <;> omega) _).setCell (by simp <;> omega) _).below hx
  obtain ⟨c0_oM, c1_oM, f0_oM, f1_oM, z_oM⟩ := oM.two
  try clear c0_oA c1_oA f0_oA f1_oA z_oA
  first | have oA := (Own.new w2 _ _).below hx | have oA := ((Own.new w2 _ _).alloc _).below hx | have oA := (((Own.new w2 _ _).alloc _).alloc _).below hx | have oA := ((((Own.new w2 _ _).alloc _).alloc _).alloc _).below hx | have oA := ((Own.new w2 _ _).set2 _ _).below hx | have oA := (((Own.new w2 _ _).setCell (by simp <;> omega) _).setCell (by simp <;> omega) _).below hx
  obtain ⟨c0_oA, c1_oA, f0_oA, f1_oA, z_oA⟩ := oA.two
  replace hb : Below w.heap.size w w3 := Below.trans (by (repeat (first | exact Below.refl _ _ | assumption | refine Below.drew ?_ | refine below_drewN ?_ _ | refine Below.setCell ?_ (by first | omega | (simp <;> omega)) _ | refine Below.alloc ?_ (by have := hb.size; first | omega | (simp <;> omega)) _))) (hx.mono (by have := hb.size; first | omega | (simp <;> omega)))
  clear hx
  clear hC hR
  go_wp2_with fail
  go_ret
  exact Ret.mk (by first | rfl | simp) (hb.alloc hb.size _)

set_option maxHeartbeats 2000000 in
theorem walkN_same (v : Value) (l : List Ex) (c k to : Int) (w : World) (hL : Lay w) (hX : Exs w v l) (hl : ¬ 40 < l.length) (he : k = to) (hp : convF l c k to = ((c, k), 0)) : Calls Tryd.prog 4 #[v, .agg #[.int .i64 c, .int .i64 k], .int .i64 to] w (Ret (.bool true) w) := by
  have hH : ∀ wk, Below w.heap.size w wk → Calls Tryd.prog 9 #[] wk (Ret (.bool true) wk) := fun wk h => mhead_any wk (hL.below h)
  have hb : Below w.heap.size w w := Below.refl _ _
  have hxl := hX.short
  have hC : ∀ wk, Below w.heap.size w wk → Calls Tryd.prog 10 #[v, .agg #[.int .i64 c, .int .i64 k], .int .i64 to] wk (Ret (.tuple #[.agg #[.int .i64 c, .int .i64 k], .int .i64 0]) wk) := fun wk h => by
    have := convert_any v l c k to wk (hX.below h); rw [hp] at this; exact this
  obtain ⟨⟨⟨r1, r2⟩, r3⟩, hr⟩ : ∃ p, p = rateT (rateOf l k to) := ⟨_, rfl⟩
  have hR : ∀ wk, Below w.heap.size w wk → Calls Tryd.prog 21 #[v, .int .i64 k, .int .i64 to] wk (Ret (.tuple #[.agg #[.int .i64 r1, .int .i64 r2], .bool r3]) wk) := fun wk h => by
    have := rate_any v l k to wk (hX.below h); unfold rateV at this; rw [← hr] at this; exact this
  obtain ⟨ad, cap, hsl, _⟩ := hX.open
  subst hsl
  have q0 : decide (40 < (l.length : Int)) = false := by rw [decide_eq_false_iff_not]; omega
  have q1 : (k == to) = true := by simpa using he
  have hem := eql_money
  clear hp hr he hX hL
  go_enter Tryd.func4, Tryd.ntmps4
  go_wp2_with fail
  refine (hH _ (by (have hbs := hb.size; repeat (first | exact Below.refl _ _ | assumption | refine Below.drew ?_ | refine below_drewN ?_ _ | refine Below.setCell ?_ (by first | omega | (simp <;> omega)) _ | refine Below.alloc ?_ (by first | omega | (simp <;> omega)) _)))).mono ?_
  rintro e w1 ⟨rfl, hx⟩
  try clear c0_oM c1_oM f0_oM f1_oM z_oM
  first | have oM := (Own.new w _ _).below hx | have oM := ((Own.new w _ _).alloc _).below hx | have oM := (((Own.new w _ _).alloc _).alloc _).below hx | have oM := ((((Own.new w _ _).alloc _).alloc _).alloc _).below hx | have oM := ((Own.new w _ _).set2 _ _).below hx | have oM := (((Own.new w _ _).setCell (by simp <;> omega) _).setCell (by simp <;> omega) _).below hx
  obtain ⟨c0_oM, c1_oM, f0_oM, f1_oM, z_oM⟩ := oM.two
  replace hb : Below w.heap.size w w1 := Below.trans (by (repeat (first | exact Below.refl _ _ | assumption | refine Below.drew ?_ | refine below_drewN ?_ _ | refine Below.setCell ?_ (by first | omega | (simp <;> omega)) _ | refine Below.alloc ?_ (by have := hb.size; first | omega | (simp <;> omega)) _))) (hx.mono (by have := hb.size; first | omega | (simp <;> omega)))
  clear hx
  clear hH
  go_wp2_with fail
  refine (hC _ hb).mono ?_
  rintro e w2 ⟨rfl, hx⟩
  try clear c0_oM c1_oM f0_oM f1_oM z_oM
  first | replace oM := oM.below hx | replace oM := (oM.alloc _).below hx | replace oM := ((oM.alloc _).alloc _).below hx | replace oM := (((oM.alloc _).alloc _).alloc _).below hx | replace oM := (oM.set2 _ _).below hx | replace oM := ((oM.setCell (by simp <;> omega) _).setCell (by simp <;> omega) _).below hx
  obtain ⟨c0_oM, c1_oM, f0_oM, f1_oM, z_oM⟩ := oM.two
  replace hb : Below w.heap.size w w2 := Below.trans (by (repeat (first | exact Below.refl _ _ | assumption | refine Below.drew ?_ | refine below_drewN ?_ _ | refine Below.setCell ?_ (by first | omega | (simp <;> omega)) _ | refine Below.alloc ?_ (by have := hb.size; first | omega | (simp <;> omega)) _))) (hx.mono (by have := hb.size; first | omega | (simp <;> omega)))
  clear hx
  go_wp2_with fail
  refine (hR _ (by (have hbs := hb.size; repeat (first | exact Below.refl _ _ | assumption | refine Below.drew ?_ | refine below_drewN ?_ _ | refine Below.setCell ?_ (by first | omega | (simp <;> omega)) _ | refine Below.alloc ?_ (by first | omega | (simp <;> omega)) _)))).mono ?_
  rintro e w3 ⟨rfl, hx⟩
  try clear c0_oM c1_oM f0_oM f1_oM z_oM
  first | replace oM := oM.below hx | replace oM := (oM.alloc _).below hx | replace oM := ((oM.alloc _).alloc _).below hx | replace oM := (((oM.alloc _).alloc _).alloc _).below hx | replace oM := (oM.set2 _ _).below hx | replace oM := ((oM.setCell (by simp <;> omega) _).setCell (by simp <;> omega) _).below hx
  obtain ⟨c0_oM, c1_oM, f0_oM, f1_oM, z_oM⟩ := oM.two
  try clear c0_oA c1_oA f0_oA f1_oA z_oA
  first | have oA := (Own.new w2 _ _).below hx | have oA := ((Own.new w2 _ _).alloc _).below hx | have oA := (((Own.new w2 _ _).alloc _).alloc _).below hx | have oA := ((((Own.new w2 _ _).alloc _).alloc _).alloc _).below hx | have oA := ((Own.new w2 _ _).set2 _ _).below hx | have oA := (((Own.new w2 _ _).setCell (by simp <;> omega) _).setCell (by simp <;> omega) _).below hx
  obtain ⟨c0_oA, c1_oA, f0_oA, f1_oA, z_oA⟩ := oA.two
  replace hb : Below w.heap.size w w3 := Below.trans (by (repeat (first | exact Below.refl _ _ | assumption | refine Below.drew ?_ | refine below_drewN ?_ _ | refine Below.setCell ?_ (by first | omega | (simp <;> omega)) _ | refine Below.alloc ?_ (by have := hb.size; first | omega | (simp <;> omega)) _))) (hx.mono (by have := hb.size; first | omega | (simp <;> omega)))
  clear hx
  clear hC hR
  go_wp2_with fail
  go_ret
  exact Ret.mk (by first | rfl | simp) (hb.alloc hb.size _)

set_option maxHeartbeats 4000000 in
theorem walkN_main (v : Value) (l : List Ex) (c k to : Int) (w : World) (hL : Lay w) (hX : Exs w v l) (hl : ¬ 40 < l.length) (he : k ≠ to) (x : Ex) (hr : rateOf l k to = some x) (hx0 : exB x = true) (hc : wthB c 1000000000 = true) (hy : wthB (rndF (c * x.n) x.d 3) 1000000000 = true) (hp : convF l c k to = ((rndF (c * x.n) x.d 3, to), 0)) : Calls Tryd.prog 4 #[v, .agg #[.int .i64 c, .int .i64 k], .int .i64 to] w (Ret (.bool true) w) := by
  have hH : ∀ wk, Below w.heap.size w wk → Calls Tryd.prog 9 #[] wk (Ret (.bool true) wk) := fun wk h => mhead_any wk (hL.below h)
  have hb : Below w.heap.size w w := Below.refl _ _
  have hxl := hX.short
  have hC : ∀ wk, Below w.heap.size w wk → Calls Tryd.prog 10 #[v, .agg #[.int .i64 c, .int .i64 k], .int .i64 to] wk (Ret (.tuple #[.agg #[.int .i64 (rndF (c * x.n) x.d 3), .int .i64 to], .int .i64 0]) wk) := fun wk h => by
    have := convert_any v l c k to wk (hX.below h); rw [hp] at this; exact this
  have hR : ∀ wk, Below w.heap.size w wk → Calls Tryd.prog 21 #[v, .int .i64 k, .int .i64 to] wk (Ret (.tuple #[.agg #[.int .i64 x.n, .int .i64 x.d], .bool true]) wk) := fun wk h => by
    have := rate_any v l k to wk (hX.below h); unfold rateV at this; rw [hr] at this; exact this
  obtain ⟨ad, cap, hsl, _⟩ := hX.open
  subst hsl
  have q0 : decide (40 < (l.length : Int)) = false := by rw [decide_eq_false_iff_not]; omega
  have q1 : (k == to) = false := by simpa using he
  have ⟨b1, b2, b3, b4⟩ := vld_bd (exB_vld hx0)
  have hc1 : -1000000000 ≤ c ∧ c ≤ 1000000000 := by simpa [wthB] using hc
  have hy1 : -1000000000 ≤ rndF (c * x.n) x.d 3 ∧ rndF (c * x.n) x.d 3 ≤ 1000000000 := by simpa [wthB] using hy
  obtain ⟨n1, n2, n3⟩ := rnd_near (c * x.n) x.d b3
  obtain ⟨xf, xt, n, d⟩ := x
  simp only at *
  generalize rndF (c * n) d 3 = y at *
  obtain ⟨m1, m2⟩ := mul_bd (X := 1000000000) (Y := 1000000000) hc1.1 hc1.2 b1 b2
  obtain ⟨m3, m4⟩ := mul_bd (X := 1000000000) (Y := 1000000) hy1.1 hy1.2 (show -1000000 ≤ d by omega) b4
  have hev := tmod2 y
  clear hp hr he hX hL hx0 hc hy
  obtain ⟨z, hz⟩ : ∃ z, z = 2 * (y * d - c * n) := ⟨_, rfl⟩
  rw [← hz] at n1 n2 n3
  have hz2 := Lib.hid hz
  clear hz
  by_cases hz0 : z < 0
  · have t0 : decide (2 * (y * d - c * n) < 0) = true := by rw [decide_eq_true_iff, ← hz2.out]; exact hz0
    have t1 : decide (-(2 * (y * d - c * n)) ≤ d) = true := by rw [decide_eq_true_iff, ← hz2.out]; omega
    by_cases hz3 : -z < d
    · have t2 : decide (-(2 * (y * d - c * n)) < d) = true := by rw [decide_eq_true_iff, ← hz2.out]; exact hz3
      clear hz0 hz3 n1 n2 n3 hev
      go_enter Tryd.func4, Tryd.ntmps4
      go_wp2_with fail
      refine (hH _ (by (have hbs := hb.size; repeat (first | exact Below.refl _ _ | assumption | refine Below.drew ?_ | refine below_drewN ?_ _ | refine Below.setCell ?_ (by first | omega | (simp <;> omega)) _ | refine Below.alloc ?_ (by first | omega | (simp <;> omega)) _)))).mono ?_
      rintro e w1 ⟨rfl, hx⟩
      try clear c0_oM c1_oM f0_oM f1_oM z_oM
      first | have oM := (Own.new w _ _).below hx | have oM := ((Own.new w _ _).alloc _).below hx | have oM := (((Own.new w _ _).alloc _).alloc _).below hx | have oM := ((((Own.new w _ _).alloc _).alloc _).alloc _).below hx | have oM := ((Own.new w _ _).set2 _ _).below hx | have oM := (((Own.new w _ _).setCell (by simp <;> omega) _).setCell (by simp <;> omega) _).below hx
      obtain ⟨c0_oM, c1_oM, f0_oM, f1_oM, z_oM⟩ := oM.two
      replace hb : Below w.heap.size w w1 := Below.trans (by (repeat (first | exact Below.refl _ _ | assumption | refine Below.drew ?_ | refine below_drewN ?_ _ | refine Below.setCell ?_ (by first | omega | (simp <;> omega)) _ | refine Below.alloc ?_ (by have := hb.size; first | omega | (simp <;> omega)) _))) (hx.mono (by have := hb.size; first | omega | (simp <;> omega)))
      clear hx
      clear hH
      go_wp2_with fail
      refine (hC _ hb).mono ?_
      rintro e w2 ⟨rfl, hx⟩
      try clear c0_oM c1_oM f0_oM f1_oM z_oM
      first | replace oM := oM.below hx | replace oM := (oM.alloc _).below hx | replace oM := ((oM.alloc _).alloc _).below hx | replace oM := (((oM.alloc _).alloc _).alloc _).below hx | replace oM := (oM.set2 _ _).below hx | replace oM := ((oM.setCell (by simp <;> omega) _).setCell (by simp <;> omega) _).below hx
      obtain ⟨c0_oM, c1_oM, f0_oM, f1_oM, z_oM⟩ := oM.two
      replace hb : Below w.heap.size w w2 := Below.trans (by (repeat (first | exact Below.refl _ _ | assumption | refine Below.drew ?_ | refine below_drewN ?_ _ | refine Below.setCell ?_ (by first | omega | (simp <;> omega)) _ | refine Below.alloc ?_ (by have := hb.size; first | omega | (simp <;> omega)) _))) (hx.mono (by have := hb.size; first | omega | (simp <;> omega)))
      clear hx
      go_wp2_with fail
      refine (hR _ (by (have hbs := hb.size; repeat (first | exact Below.refl _ _ | assumption | refine Below.drew ?_ | refine below_drewN ?_ _ | refine Below.setCell ?_ (by first | omega | (simp <;> omega)) _ | refine Below.alloc ?_ (by first | omega | (simp <;> omega)) _)))).mono ?_
      rintro e w3 ⟨rfl, hx⟩
      try clear c0_oM c1_oM f0_oM f1_oM z_oM
      first | replace oM := oM.below hx | replace oM := (oM.alloc _).below hx | replace oM := ((oM.alloc _).alloc _).below hx | replace oM := (((oM.alloc _).alloc _).alloc _).below hx | replace oM := (oM.set2 _ _).below hx | replace oM := ((oM.setCell (by simp <;> omega) _).setCell (by simp <;> omega) _).below hx
      obtain ⟨c0_oM, c1_oM, f0_oM, f1_oM, z_oM⟩ := oM.two
      try clear c0_oA c1_oA f0_oA f1_oA z_oA
      first | have oA := (Own.new w2 _ _).below hx | have oA := ((Own.new w2 _ _).alloc _).below hx | have oA := (((Own.new w2 _ _).alloc _).alloc _).below hx | have oA := ((((Own.new w2 _ _).alloc _).alloc _).alloc _).below hx | have oA := ((Own.new w2 _ _).set2 _ _).below hx | have oA := (((Own.new w2 _ _).setCell (by simp <;> omega) _).setCell (by simp <;> omega) _).below hx
      obtain ⟨c0_oA, c1_oA, f0_oA, f1_oA, z_oA⟩ := oA.two
      replace hb : Below w.heap.size w w3 := Below.trans (by (repeat (first | exact Below.refl _ _ | assumption | refine Below.drew ?_ | refine below_drewN ?_ _ | refine Below.setCell ?_ (by first | omega | (simp <;> omega)) _ | refine Below.alloc ?_ (by have := hb.size; first | omega | (simp <;> omega)) _))) (hx.mono (by have := hb.size; first | omega | (simp <;> omega)))
      clear hx
      clear hC hR
      go_wp2_with fail
      go_ret
      exact Ret.mk (by first | rfl | simp) (hb.alloc hb.size _)
    · have t2 : decide (-(2 * (y * d - c * n)) < d) = false := by rw [decide_eq_false_iff_not, ← hz2.out]; exact hz3
      have t3 : (y.tmod 2 == 0) = true := by rw [beq_iff_eq, hev]; exact n3 (by omega)
      clear hz0 hz3 n1 n2 n3 hev
      go_enter Tryd.func4, Tryd.ntmps4
      go_wp2_with fail
      refine (hH _ (by (have hbs := hb.size; repeat (first | exact Below.refl _ _ | assumption | refine Below.drew ?_ | refine below_drewN ?_ _ | refine Below.setCell ?_ (by first | omega | (simp <;> omega)) _ | refine Below.alloc ?_ (by first | omega | (simp <;> omega)) _)))).mono ?_
      rintro e w1 ⟨rfl, hx⟩
      try clear c0_oM c1_oM f0_oM f1_oM z_oM
      first | have oM := (Own.new w _ _).below hx | have oM := ((Own.new w _ _).alloc _).below hx | have oM := (((Own.new w _ _).alloc _).alloc _).below hx | have oM := ((((Own.new w _ _).alloc _).alloc _).alloc _).below hx | have oM := ((Own.new w _ _).set2 _ _).below hx | have oM := (((Own.new w _ _).setCell (by simp <;> omega) _).setCell (by simp <;> omega) _).below hx
      obtain ⟨c0_oM, c1_oM, f0_oM, f1_oM, z_oM⟩ := oM.two
      replace hb : Below w.heap.size w w1 := Below.trans (by (repeat (first | exact Below.refl _ _ | assumption | refine Below.drew ?_ | refine below_drewN ?_ _ | refine Below.setCell ?_ (by first | omega | (simp <;> omega)) _ | refine Below.alloc ?_ (by have := hb.size; first | omega | (simp <;> omega)) _))) (hx.mono (by have := hb.size; first | omega | (simp <;> omega)))
      clear hx
      clear hH
      go_wp2_with fail
      refine (hC _ hb).mono ?_
      rintro e w2 ⟨rfl, hx⟩
      try clear c0_oM c1_oM f0_oM f1_oM z_oM
      first | replace oM := oM.below hx | replace oM := (oM.alloc _).below hx | replace oM := ((oM.alloc _).alloc _).below hx | replace oM := (((oM.alloc _).alloc _).alloc _).below hx | replace oM := (oM.set2 _ _).below hx | replace oM := ((oM.setCell (by simp <;> omega) _).setCell (by simp <;> omega) _).below hx
      obtain ⟨c0_oM, c1_oM, f0_oM, f1_oM, z_oM⟩ := oM.two
      replace hb : Below w.heap.size w w2 := Below.trans (by (repeat (first | exact Below.refl _ _ | assumption | refine Below.drew ?_ | refine below_drewN ?_ _ | refine Below.setCell ?_ (by first | omega | (simp <;> omega)) _ | refine Below.alloc ?_ (by have := hb.size; first | omega | (simp <;> omega)) _))) (hx.mono (by have := hb.size; first | omega | (simp <;> omega)))
      clear hx
      go_wp2_with fail
      refine (hR _ (by (have hbs := hb.size; repeat (first | exact Below.refl _ _ | assumption | refine Below.drew ?_ | refine below_drewN ?_ _ | refine Below.setCell ?_ (by first | omega | (simp <;> omega)) _ | refine Below.alloc ?_ (by first | omega | (simp <;> omega)) _)))).mono ?_
      rintro e w3 ⟨rfl, hx⟩
      try clear c0_oM c1_oM f0_oM f1_oM z_oM
      first | replace oM := oM.below hx | replace oM := (oM.alloc _).below hx | replace oM := ((oM.alloc _).alloc _).below hx | replace oM := (((oM.alloc _).alloc _).alloc _).below hx | replace oM := (oM.set2 _ _).below hx | replace oM := ((oM.setCell (by simp <;> omega) _).setCell (by simp <;> omega) _).below hx
      obtain ⟨c0_oM, c1_oM, f0_oM, f1_oM, z_oM⟩ := oM.two
      try clear c0_oA c1_oA f0_oA f1_oA z_oA
      first | have oA := (Own.new w2 _ _).below hx | have oA := ((Own.new w2 _ _).alloc _).below hx | have oA := (((Own.new w2 _ _).alloc _).alloc _).below hx | have oA := ((((Own.new w2 _ _).alloc _).alloc _).alloc _).below hx | have oA := ((Own.new w2 _ _).set2 _ _).below hx | have oA := (((Own.new w2 _ _).setCell (by simp <;> omega) _).setCell (by simp <;> omega) _).below hx
      obtain ⟨c0_oA, c1_oA, f0_oA, f1_oA, z_oA⟩ := oA.two
      replace hb : Below w.heap.size w w3 := Below.trans (by (repeat (first | exact Below.refl _ _ | assumption | refine Below.drew ?_ | refine below_drewN ?_ _ | refine Below.setCell ?_ (by first | omega | (simp <;> omega)) _ | refine Below.alloc ?_ (by have := hb.size; first | omega | (simp <;> omega)) _))) (hx.mono (by have := hb.size; first | omega | (simp <;> omega)))
      clear hx
      clear hC hR
      go_wp2_with fail
      go_ret
      exact Ret.mk (by first | rfl | simp) (hb.alloc hb.size _)
  · have t0 : decide (2 * (y * d - c * n) < 0) = false := by rw [decide_eq_false_iff_not, ← hz2.out]; exact hz0
    have t1 : decide (2 * (y * d - c * n) ≤ d) = true := by rw [decide_eq_true_iff, ← hz2.out]; omega
    by_cases hz3 : z < d
    · have t2 : decide (2 * (y * d - c * n) < d) = true := by rw [decide_eq_true_iff, ← hz2.out]; exact hz3
      clear hz0 hz3 n1 n2 n3 hev
      go_enter Tryd.func4, Tryd.ntmps4
      go_wp2_with fail
      refine (hH _ (by (have hbs := hb.size; repeat (first | exact Below.refl _ _ | assumption | refine Below.drew ?_ | refine below_drewN ?_ _ | refine Below.setCell ?_ (by first | omega | (simp <;> omega)) _ | refine Below.alloc ?_ (by first | omega | (simp <;> omega)) _)))).mono ?_
      rintro e w1 ⟨rfl, hx⟩
      try clear c0_oM c1_oM f0_oM f1_oM z_oM
      first | have oM := (Own.new w _ _).below hx | have oM := ((Own.new w _ _).alloc _).below hx | have oM := (((Own.new w _ _).alloc _).alloc _).below hx | have oM := ((((Own.new w _ _).alloc _).alloc _).alloc _).below hx | have oM := ((Own.new w _ _).set2 _ _).below hx | have oM := (((Own.new w _ _).setCell (by simp <;> omega) _).setCell (by simp <;> omega) _).below hx
      obtain ⟨c0_oM, c1_oM, f0_oM, f1_oM, z_oM⟩ := oM.two
      replace hb : Below w.heap.size w w1 := Below.trans (by (repeat (first | exact Below.refl _ _ | assumption | refine Below.drew ?_ | refine below_drewN ?_ _ | refine Below.setCell ?_ (by first | omega | (simp <;> omega)) _ | refine Below.alloc ?_ (by have := hb.size; first | omega | (simp <;> omega)) _))) (hx.mono (by have := hb.size; first | omega | (simp <;> omega)))
      clear hx
      clear hH
      go_wp2_with fail
      refine (hC _ hb).mono ?_
      rintro e w2 ⟨rfl, hx⟩
      try clear c0_oM c1_oM f0_oM f1_oM z_oM
      first | replace oM := oM.below hx | replace oM := (oM.alloc _).below hx | replace oM := ((oM.alloc _).alloc _).below hx | replace oM := (((oM.alloc _).alloc _).alloc _).below hx | replace oM := (oM.set2 _ _).below hx | replace oM := ((oM.setCell (by simp <;> omega) _).setCell (by simp <;> omega) _).below hx
      obtain ⟨c0_oM, c1_oM, f0_oM, f1_oM, z_oM⟩ := oM.two
      replace hb : Below w.heap.size w w2 := Below.trans (by (repeat (first | exact Below.refl _ _ | assumption | refine Below.drew ?_ | refine below_drewN ?_ _ | refine Below.setCell ?_ (by first | omega | (simp <;> omega)) _ | refine Below.alloc ?_ (by have := hb.size; first | omega | (simp <;> omega)) _))) (hx.mono (by have := hb.size; first | omega | (simp <;> omega)))
      clear hx
      go_wp2_with fail
      refine (hR _ (by (have hbs := hb.size; repeat (first | exact Below.refl _ _ | assumption | refine Below.drew ?_ | refine below_drewN ?_ _ | refine Below.setCell ?_ (by first | omega | (simp <;> omega)) _ | refine Below.alloc ?_ (by first | omega | (simp <;> omega)) _)))).mono ?_
      rintro e w3 ⟨rfl, hx⟩
      try clear c0_oM c1_oM f0_oM f1_oM z_oM
      first | replace oM := oM.below hx | replace oM := (oM.alloc _).below hx | replace oM := ((oM.alloc _).alloc _).below hx | replace oM := (((oM.alloc _).alloc _).alloc _).below hx | replace oM := (oM.set2 _ _).below hx | replace oM := ((oM.setCell (by simp <;> omega) _).setCell (by simp <;> omega) _).below hx
      obtain ⟨c0_oM, c1_oM, f0_oM, f1_oM, z_oM⟩ := oM.two
      try clear c0_oA c1_oA f0_oA f1_oA z_oA
      first | have oA := (Own.new w2 _ _).below hx | have oA := ((Own.new w2 _ _).alloc _).below hx | have oA := (((Own.new w2 _ _).alloc _).alloc _).below hx | have oA := ((((Own.new w2 _ _).alloc _).alloc _).alloc _).below hx | have oA := ((Own.new w2 _ _).set2 _ _).below hx | have oA := (((Own.new w2 _ _).setCell (by simp <;> omega) _).setCell (by simp <;> omega) _).below hx
      obtain ⟨c0_oA, c1_oA, f0_oA, f1_oA, z_oA⟩ := oA.two
      replace hb : Below w.heap.size w w3 := Below.trans (by (repeat (first | exact Below.refl _ _ | assumption | refine Below.drew ?_ | refine below_drewN ?_ _ | refine Below.setCell ?_ (by first | omega | (simp <;> omega)) _ | refine Below.alloc ?_ (by have := hb.size; first | omega | (simp <;> omega)) _))) (hx.mono (by have := hb.size; first | omega | (simp <;> omega)))
      clear hx
      clear hC hR
      go_wp2_with fail
      go_ret
      exact Ret.mk (by first | rfl | simp) (hb.alloc hb.size _)
    · have t2 : decide (2 * (y * d - c * n) < d) = false := by rw [decide_eq_false_iff_not, ← hz2.out]; exact hz3
      have t3 : (y.tmod 2 == 0) = true := by rw [beq_iff_eq, hev]; exact n3 (by omega)
      clear hz0 hz3 n1 n2 n3 hev
      go_enter Tryd.func4, Tryd.ntmps4
      go_wp2_with fail
      refine (hH _ (by (have hbs := hb.size; repeat (first | exact Below.refl _ _ | assumption | refine Below.drew ?_ | refine below_drewN ?_ _ | refine Below.setCell ?_ (by first | omega | (simp <;> omega)) _ | refine Below.alloc ?_ (by first | omega | (simp <;> omega)) _)))).mono ?_
      rintro e w1 ⟨rfl, hx⟩
      try clear c0_oM c1_oM f0_oM f1_oM z_oM
      first | have oM := (Own.new w _ _).below hx | have oM := ((Own.new w _ _).alloc _).below hx | have oM := (((Own.new w _ _).alloc _).alloc _).below hx | have oM := ((((Own.new w _ _).alloc _).alloc _).alloc _).below hx | have oM := ((Own.new w _ _).set2 _ _).below hx | have oM := (((Own.new w _ _).setCell (by simp <;> omega) _).setCell (by simp <;> omega) _).below hx
      obtain ⟨c0_oM, c1_oM, f0_oM, f1_oM, z_oM⟩ := oM.two
      replace hb : Below w.heap.size w w1 := Below.trans (by (repeat (first | exact Below.refl _ _ | assumption | refine Below.drew ?_ | refine below_drewN ?_ _ | refine Below.setCell ?_ (by first | omega | (simp <;> omega)) _ | refine Below.alloc ?_ (by have := hb.size; first | omega | (simp <;> omega)) _))) (hx.mono (by have := hb.size; first | omega | (simp <;> omega)))
      clear hx
      clear hH
      go_wp2_with fail
      refine (hC _ hb).mono ?_
      rintro e w2 ⟨rfl, hx⟩
      try clear c0_oM c1_oM f0_oM f1_oM z_oM
      first | replace oM := oM.below hx | replace oM := (oM.alloc _).below hx | replace oM := ((oM.alloc _).alloc _).below hx | replace oM := (((oM.alloc _).alloc _).alloc _).below hx | replace oM := (oM.set2 _ _).below hx | replace oM := ((oM.setCell (by simp <;> omega) _).setCell (by simp <;> omega) _).below hx
      obtain ⟨c0_oM, c1_oM, f0_oM, f1_oM, z_oM⟩ := oM.two
      replace hb : Below w.heap.size w w2 := Below.trans (by (repeat (first | exact Below.refl _ _ | assumption | refine Below.drew ?_ | refine below_drewN ?_ _ | refine Below.setCell ?_ (by first | omega | (simp <;> omega)) _ | refine Below.alloc ?_ (by have := hb.size; first | omega | (simp <;> omega)) _))) (hx.mono (by have := hb.size; first | omega | (simp <;> omega)))
      clear hx
      go_wp2_with fail
      refine (hR _ (by (have hbs := hb.size; repeat (first | exact Below.refl _ _ | assumption | refine Below.drew ?_ | refine below_drewN ?_ _ | refine Below.setCell ?_ (by first | omega | (simp <;> omega)) _ | refine Below.alloc ?_ (by first | omega | (simp <;> omega)) _)))).mono ?_
      rintro e w3 ⟨rfl, hx⟩
      try clear c0_oM c1_oM f0_oM f1_oM z_oM
      first | replace oM := oM.below hx | replace oM := (oM.alloc _).below hx | replace oM := ((oM.alloc _).alloc _).below hx | replace oM := (((oM.alloc _).alloc _).alloc _).below hx | replace oM := (oM.set2 _ _).below hx | replace oM := ((oM.setCell (by simp <;> omega) _).setCell (by simp <;> omega) _).below hx
      obtain ⟨c0_oM, c1_oM, f0_oM, f1_oM, z_oM⟩ := oM.two
      try clear c0_oA c1_oA f0_oA f1_oA z_oA
      first | have oA := (Own.new w2 _ _).below hx | have oA := ((Own.new w2 _ _).alloc _).below hx | have oA := (((Own.new w2 _ _).alloc _).alloc _).below hx | have oA := ((((Own.new w2 _ _).alloc _).alloc _).alloc _).below hx | have oA := ((Own.new w2 _ _).set2 _ _).below hx | have oA := (((Own.new w2 _ _).setCell (by simp <;> omega) _).setCell (by simp <;> omega) _).below hx
      obtain ⟨c0_oA, c1_oA, f0_oA, f1_oA, z_oA⟩ := oA.two
      replace hb : Below w.heap.size w w3 := Below.trans (by (repeat (first | exact Below.refl _ _ | assumption | refine Below.drew ?_ | refine below_drewN ?_ _ | refine Below.setCell ?_ (by first | omega | (simp <;> omega)) _ | refine Below.alloc ?_ (by have := hb.size; first | omega | (simp <;> omega)) _))) (hx.mono (by have := hb.size; first | omega | (simp <;> omega)))
      clear hx
      clear hC hR
      go_wp2_with fail
      go_ret
      exact Ret.mk (by first | rfl | simp) (hb.alloc hb.size _)

theorem walkMoneyNearest (v : Value) (l : List Ex) (c k to : Int) (w : World) (hL : Lay w) (hX : Exs w v l) : Calls Tryd.prog 4 #[v, .agg #[.int .i64 c, .int .i64 k], .int .i64 to] w (Ret (.bool true) w) := by
  by_cases hl : 40 < l.length
  · exact walkN_long v l c k to w hL hX hl
  rcases conv_cases l c k to with ⟨e, he, hp⟩ | ⟨he, _, hp⟩ | ⟨he, x, hr, hx0, hc, hy, hp⟩
  · exact walkN_err v l c k to w hL hX hl e he hp
  · exact walkN_same v l c k to w hL hX hl he hp
  · exact walkN_main v l c k to w hL hX hl he x hr hx0 hc hy hp
end Go.Proofs.YtnjaedbekogeaaaDoor
