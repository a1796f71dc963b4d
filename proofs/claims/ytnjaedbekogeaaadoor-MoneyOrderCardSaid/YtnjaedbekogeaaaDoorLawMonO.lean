/-
  The walk of MoneyOrder.
-/
import Derived.Test.YtnjaedbekogeaaaDoorMonOrd
namespace Go.Proofs.YtnjaedbekogeaaaDoor
open Go.RowKit Go.Shelf
set_option maxRecDepth 100000

theorem conv_ok_bd {l : List Ex} {c k to p q : Int} (h : convF l c k to = ((p, q), 0)) : -1000000000 ≤ p ∧ p ≤ 1000000000 := by
  rcases conv_cases l c k to with ⟨e, he, hq⟩ | ⟨_, hc, hq⟩ | ⟨_, x, _, _, _, hy, hq⟩
  · rw [h] at hq; cases hq; exact absurd rfl he
  · rw [h] at hq; cases hq; simpa [wthB] using hc
  · rw [h] at hq; cases hq; simpa [wthB] using hy
theorem two_own (w : World) (x y : Value) (t : TypeId) : (Own ((w.alloc (.cells #[x, y] t)).alloc (.cells #[x, y] t)).drew w.heap.size [x, y] ∧ Own ((w.alloc (.cells #[x, y] t)).alloc (.cells #[x, y] t)).drew (w.heap.size + 1) [x, y]) ∧
    Below w.heap.size w ((w.alloc (.cells #[x, y] t)).alloc (.cells #[x, y] t)).drew :=
  ⟨⟨((Own.new w #[x, y] t).alloc _).drew, (Own.at (w.alloc _) #[x, y] t (w.heap.size + 1) (by simp)).drew⟩, (((Below.refl _ w).alloc (Nat.le_refl _) _).alloc (by simp) _).drew⟩

set_option maxHeartbeats 2000000 in
theorem walkO_long (v : Value) (l : List Ex) (c k e0 to : Int) (w : World) (hL : Lay w) (hX : Exs w v l) (hl : 40 < l.length) : Calls Tryd.prog 5 #[v, .agg #[.int .i64 c, .int .i64 k], .int .u32 e0, .int .i64 to] w (Ret (.bool true) w) := by
  have hH : ∀ wk, Below w.heap.size w wk → Calls Tryd.prog 9 #[] wk (Ret (.bool true) wk) := fun wk h => mhead_any wk (hL.below h)
  have hb : Below w.heap.size w w := Below.refl _ _
  have hxl := hX.short
  obtain ⟨ad, cap, hsl, _⟩ := hX.open
  subst hsl
  have q0 : decide (40 < (l.length : Int)) = true := by rw [decide_eq_true_iff]; omega
  go_enter Tryd.func5, Tryd.ntmps5
  go_wp2_with fail
  refine (hH _ (by (have hbs := hb.size; repeat (first | exact Below.refl _ _ | assumption | refine Below.drew ?_ | refine below_drewN ?_ _ | refine Below.setCell ?_ (by first | omega | (simp <;> omega)) _ | refine Below.alloc ?_ (by first | omega | (simp <;> omega)) _)))).mono ?_
  rintro e w1 ⟨rfl, hx⟩
  try clear c0_oM c1_oM f0_oM f1_oM z_oM
  first | have oM := (Own.new w _ _).below hx | have oM := ((Own.new w _ _).alloc _).below hx | have oM := (((Own.new w _ _).alloc _).alloc _).below hx | have oM := ((((Own.new w _ _).alloc _).alloc _).alloc _).below hx | have oM := ((Own.new w _ _).set2 _ _).below hx | have oM := (((Own.new w _ _).setCell (by simp <;> omega) _).setCell (by simp <;> omega) _).below hx
  obtain ⟨c0_oM, c1_oM, f0_oM, f1_oM, z_oM⟩ := oM.two
  replace hb : Below w.heap.size w w1 := Below.trans (by (repeat (first | exact Below.refl _ _ | assumption | refine Below.drew ?_ | refine below_drewN ?_ _ | refine Below.setCell ?_ (by first | omega | (simp <;> omega)) _ | refine Below.alloc ?_ (by have := hb.size; first | omega | (simp <;> omega)) _))) (hx.mono (by have := hb.size; first | omega | (simp <;> omega)))
  clear hx
  clear hH
  go_wp2_with fail
  have z0 := z_oM
  have z1 := hb.size
  go_region
  · obtain ⟨⟨hA, hB⟩, hx2⟩ := two_own w1 (.int .i64 c) (.int .i64 k) 24
    have o10 := hA
    have o11 := hB
    clear hA hB c0_oM c1_oM f0_oM f1_oM z_oM
    replace oM := oM.below hx2
    replace hb := hb.trans (hx2.mono hb.size)
    clear hx2
    obtain ⟨b10, hb10⟩ : ∃ b10, b10 = w1.heap.size := ⟨_, rfl⟩
    obtain ⟨b11, hb11⟩ : ∃ b11, b11 = w1.heap.size + 1 := ⟨_, rfl⟩
    have hne : b10 ≠ b11 := by omega
    have hlo : w.heap.size < b10 ∧ w.heap.size < b11 := by have := z0; omega
    rw [← hb11] at o11 ⊢
    rw [← hb10] at o10 ⊢
    generalize ((w1.alloc (.cells #[.int .i64 c, .int .i64 k] 24)).alloc (.cells #[.int .i64 c, .int .i64 k] 24)).drew = w2 at *
    clear hb10 hb11
    obtain ⟨m0, m1, mf0, mf1, mz⟩ := oM.two
    obtain ⟨x0, x1, xf0, xf1, xz⟩ := o10.two
    obtain ⟨y0, y1, yf0, yf1, yz⟩ := o11.two
    go_wp2_with fail
    go_ret
    exact Ret.mk rfl (by (have hbs := hb.size; repeat (first | exact Below.refl _ _ | assumption | refine Below.drew ?_ | refine below_drewN ?_ _ | refine Below.setCell ?_ (by first | omega | (simp <;> omega)) _ | refine Below.alloc ?_ (by first | omega | (simp <;> omega)) _)))
  · obtain ⟨⟨hA, hB⟩, hx2⟩ := two_own w1 (.int .i64 c) (.int .i64 k) 24
    have o10 := hB
    have o11 := hA
    clear hA hB c0_oM c1_oM f0_oM f1_oM z_oM
    replace oM := oM.below hx2
    replace hb := hb.trans (hx2.mono hb.size)
    clear hx2
    obtain ⟨b10, hb10⟩ : ∃ b10, b10 = w1.heap.size + 1 := ⟨_, rfl⟩
    obtain ⟨b11, hb11⟩ : ∃ b11, b11 = w1.heap.size := ⟨_, rfl⟩
    have hne : b10 ≠ b11 := by omega
    have hlo : w.heap.size < b10 ∧ w.heap.size < b11 := by have := z0; omega
    rw [← hb10] at o10 ⊢
    rw [← hb11] at o11 ⊢
    generalize ((w1.alloc (.cells #[.int .i64 c, .int .i64 k] 24)).alloc (.cells #[.int .i64 c, .int .i64 k] 24)).drew = w2 at *
    clear hb10 hb11
    obtain ⟨m0, m1, mf0, mf1, mz⟩ := oM.two
    obtain ⟨x0, x1, xf0, xf1, xz⟩ := o10.two
    obtain ⟨y0, y1, yf0, yf1, yz⟩ := o11.two
    go_wp2_with fail
    go_ret
    exact Ret.mk rfl (by (have hbs := hb.size; repeat (first | exact Below.refl _ _ | assumption | refine Below.drew ?_ | refine below_drewN ?_ _ | refine Below.setCell ?_ (by first | omega | (simp <;> omega)) _ | refine Below.alloc ?_ (by first | omega | (simp <;> omega)) _)))

set_option maxHeartbeats 2000000 in
theorem walkO_amt (v : Value) (l : List Ex) (c k e0 to : Int) (w : World) (hL : Lay w) (hX : Exs w v l) (hl : ¬ 40 < l.length) (hc : wthB c 1000000000 = false) : Calls Tryd.prog 5 #[v, .agg #[.int .i64 c, .int .i64 k], .int .u32 e0, .int .i64 to] w (Ret (.bool true) w) := by
  have hH : ∀ wk, Below w.heap.size w wk → Calls Tryd.prog 9 #[] wk (Ret (.bool true) wk) := fun wk h => mhead_any wk (hL.below h)
  have hb : Below w.heap.size w w := Below.refl _ _
  have hxl := hX.short
  obtain ⟨ad, cap, hsl, _⟩ := hX.open
  subst hsl
  have q0 : decide (40 < (l.length : Int)) = false := by rw [decide_eq_false_iff_not]; omega
  have HC := Lib.hid hc
  clear hc
  go_enter Tryd.func5, Tryd.ntmps5
  go_wp2_with fail
  refine (hH _ (by (have hbs := hb.size; repeat (first | exact Below.refl _ _ | assumption | refine Below.drew ?_ | refine below_drewN ?_ _ | refine Below.setCell ?_ (by first | omega | (simp <;> omega)) _ | refine Below.alloc ?_ (by first | omega | (simp <;> omega)) _)))).mono ?_
  rintro e w1 ⟨rfl, hx⟩
  try clear c0_oM c1_oM f0_oM f1_oM z_oM
  first | have oM := (Own.new w _ _).below hx | have oM := ((Own.new w _ _).alloc _).below hx | have oM := (((Own.new w _ _).alloc _).alloc _).below hx | have oM := ((((Own.new w _ _).alloc _).alloc _).alloc _).below hx | have oM := ((Own.new w _ _).set2 _ _).below hx | have oM := (((Own.new w _ _).setCell (by simp <;> omega) _).setCell (by simp <;> omega) _).below hx
  obtain ⟨c0_oM, c1_oM, f0_oM, f1_oM, z_oM⟩ := oM.two
  replace hb : Below w.heap.size w w1 := Below.trans (by (repeat (first | exact Below.refl _ _ | assumption | refine Below.drew ?_ | refine below_drewN ?_ _ | refine Below.setCell ?_ (by first | omega | (simp <;> omega)) _ | refine Below.alloc ?_ (by have := hb.size; first | omega | (simp <;> omega)) _))) (hx.mono (by have := hb.size; first | omega | (simp <;> omega)))
  clear hx
  clear hH
  go_wp2_with fail
  have z0 := z_oM
  have z1 := hb.size
  go_region
  · obtain ⟨⟨hA, hB⟩, hx2⟩ := two_own w1 (.int .i64 c) (.int .i64 k) 24
    have o10 := hA
    have o11 := hB
    clear hA hB c0_oM c1_oM f0_oM f1_oM z_oM
    replace oM := oM.below hx2
    replace hb := hb.trans (hx2.mono hb.size)
    clear hx2
    obtain ⟨b10, hb10⟩ : ∃ b10, b10 = w1.heap.size := ⟨_, rfl⟩
    obtain ⟨b11, hb11⟩ : ∃ b11, b11 = w1.heap.size + 1 := ⟨_, rfl⟩
    have hne : b10 ≠ b11 := by omega
    have hlo : w.heap.size < b10 ∧ w.heap.size < b11 := by have := z0; omega
    rw [← hb11] at o11 ⊢
    rw [← hb10] at o10 ⊢
    generalize ((w1.alloc (.cells #[.int .i64 c, .int .i64 k] 24)).alloc (.cells #[.int .i64 c, .int .i64 k] 24)).drew = w2 at *
    clear hb10 hb11
    obtain ⟨m0, m1, mf0, mf1, mz⟩ := oM.two
    obtain ⟨x0, x1, xf0, xf1, xz⟩ := o10.two
    obtain ⟨y0, y1, yf0, yf1, yz⟩ := o11.two
    go_wp2_with fail
    refine (rAmount_at _ _ HC.out).mono ?_
    rintro e w' ⟨rfl, rfl⟩
    go_wp2_with fail
    go_ret
    exact Ret.mk rfl (by (have hbs := hb.size; repeat (first | exact Below.refl _ _ | assumption | refine Below.drew ?_ | refine below_drewN ?_ _ | refine Below.setCell ?_ (by first | omega | (simp <;> omega)) _ | refine Below.alloc ?_ (by first | omega | (simp <;> omega)) _)))
  · obtain ⟨⟨hA, hB⟩, hx2⟩ := two_own w1 (.int .i64 c) (.int .i64 k) 24
    have o10 := hB
    have o11 := hA
    clear hA hB c0_oM c1_oM f0_oM f1_oM z_oM
    replace oM := oM.below hx2
    replace hb := hb.trans (hx2.mono hb.size)
    clear hx2
    obtain ⟨b10, hb10⟩ : ∃ b10, b10 = w1.heap.size + 1 := ⟨_, rfl⟩
    obtain ⟨b11, hb11⟩ : ∃ b11, b11 = w1.heap.size := ⟨_, rfl⟩
    have hne : b10 ≠ b11 := by omega
    have hlo : w.heap.size < b10 ∧ w.heap.size < b11 := by have := z0; omega
    rw [← hb10] at o10 ⊢
    rw [← hb11] at o11 ⊢
    generalize ((w1.alloc (.cells #[.int .i64 c, .int .i64 k] 24)).alloc (.cells #[.int .i64 c, .int .i64 k] 24)).drew = w2 at *
    clear hb10 hb11
    obtain ⟨m0, m1, mf0, mf1, mz⟩ := oM.two
    obtain ⟨x0, x1, xf0, xf1, xz⟩ := o10.two
    obtain ⟨y0, y1, yf0, yf1, yz⟩ := o11.two
    go_wp2_with fail
    refine (rAmount_at _ _ HC.out).mono ?_
    rintro e w' ⟨rfl, rfl⟩
    go_wp2_with fail
    go_ret
    exact Ret.mk rfl (by (have hbs := hb.size; repeat (first | exact Below.refl _ _ | assumption | refine Below.drew ?_ | refine below_drewN ?_ _ | refine Below.setCell ?_ (by first | omega | (simp <;> omega)) _ | refine Below.alloc ?_ (by first | omega | (simp <;> omega)) _)))

theorem mset2 {w : World} {B : Nat} {x y : Value} (h : Own w B [x, y]) (v : Value) : Own (w.setCell ⟨B, 0, none⟩ v) B [v, y] := mset_at h v (i := 0) (by simp)

set_option maxHeartbeats 4000000 in
theorem walkO_err (v : Value) (l : List Ex) (c k e0 to : Int) (w : World) (hL : Lay w) (hX : Exs w v l) (he0 : 0 ≤ e0 ∧ e0 ≤ 4294967295) (hl : ¬ 40 < l.length) (hc : wthB c 1000000000 = true) (e1 : Int) (he : e1 ≠ 0) (hp : convF l c k to = ((0, 0), e1)) : Calls Tryd.prog 5 #[v, .agg #[.int .i64 c, .int .i64 k], .int .u32 e0, .int .i64 to] w (Ret (.bool true) w) := by
  have hH : ∀ wk, Below w.heap.size w wk → Calls Tryd.prog 9 #[] wk (Ret (.bool true) wk) := fun wk h => mhead_any wk (hL.below h)
  have hb : Below w.heap.size w w := Below.refl _ _
  have hxl := hX.short
  have hC0 : ∀ wk, Below w.heap.size w wk → Calls Tryd.prog 10 #[v, .agg #[.int .i64 c, .int .i64 k], .int .i64 to] wk (Ret (.tuple #[.agg #[.int .i64 0, .int .i64 0], .int .i64 e1]) wk) := fun wk h => by
    have := convert_any v l c k to wk (hX.below h); rw [hp] at this; exact this
  obtain ⟨⟨⟨r1, r2⟩, r3⟩, hr⟩ : ∃ p, p = convF l (c + e0) k to := ⟨_, rfl⟩
  have hC1 : ∀ wk, Below w.heap.size w wk → Calls Tryd.prog 10 #[v, .agg #[.int .i64 (c + e0), .int .i64 k], .int .i64 to] wk (Ret (.tuple #[.agg #[.int .i64 r1, .int .i64 r2], .int .i64 r3]) wk) := fun wk h => by
    have := convert_any v l (c + e0) k to wk (hX.below h); rw [← hr] at this; exact this
  have hn : convF l (-c) k to = ((0, 0), e1) := by rw [conv_neg, hp]; rfl
  have hC2 : ∀ wk, Below w.heap.size w wk → Calls Tryd.prog 10 #[v, .agg #[.int .i64 (-c), .int .i64 k], .int .i64 to] wk (Ret (.tuple #[.agg #[.int .i64 0, .int .i64 0], .int .i64 e1]) wk) := fun wk h => by
    have := convert_any v l (-c) k to wk (hX.below h); rw [hn] at this; exact this
  obtain ⟨ad, cap, hsl, _⟩ := hX.open
  subst hsl
  have q0 : decide (40 < (l.length : Int)) = false := by rw [decide_eq_false_iff_not]; omega
  have hc1 : -1000000000 ≤ c ∧ c ≤ 1000000000 := by simpa [wthB] using hc
  have HC := Lib.hid hc
  have q1 : (e1 != 0) = true := by simpa using he
  clear hc he hp hr hn hX hL
  go_enter Tryd.func5, Tryd.ntmps5
  go_wp2_with fail
  refine (hH _ (by (have hbs := hb.size; repeat (first | exact Below.refl _ _ | assumption | refine Below.drew ?_ | refine below_drewN ?_ _ | refine Below.setCell ?_ (by first | omega | (simp <;> omega)) _ | refine Below.alloc ?_ (by first | omega | (simp <;> omega)) _)))).mono ?_
  rintro e w1 ⟨rfl, hx⟩
  try clear c0_oM c1_oM f0_oM f1_oM z_oM
  first | have oM := (Own.new w _ _).below hx | have oM := ((Own.new w _ _).alloc _).below hx | have oM := (((Own.new w _ _).alloc _).alloc _).below hx | have oM := ((((Own.new w _ _).alloc _).alloc _).alloc _).below hx | have oM := ((Own.new w _ _).set2 _ _).below hx | have oM := (((Own.new w _ _).setCell (by simp <;> omega) _).setCell (by simp <;> omega) _).below hx
  obtain ⟨c0_oM, c1_oM, f0_oM, f1_oM, z_oM⟩ := oM.two
  replace hb : Below w.heap.size w w1 := Below.trans (by (repeat (first | exact Below.refl _ _ | assumption | refine Below.drew ?_ | refine below_drewN ?_ _ | refine Below.setCell ?_ (by first | omega | (simp <;> omega)) _ | refine Below.alloc ?_ (by have := hb.size; first | omega | (simp <;> omega)) _))) (hx.mono (by have := hb.size; first | omega | (simp <;> omega)))
  clear hx
  clear hH
  go_wp2_with fail
  have z0 := z_oM
  have z1 := hb.size
  go_region
  · obtain ⟨⟨hA, hB⟩, hx2⟩ := two_own w1 (.int .i64 c) (.int .i64 k) 24
    have o10 := hA
    have o11 := hB
    clear hA hB c0_oM c1_oM f0_oM f1_oM z_oM
    replace oM := oM.below hx2
    replace hb := hb.trans (hx2.mono hb.size)
    clear hx2
    obtain ⟨b10, hb10⟩ : ∃ b10, b10 = w1.heap.size := ⟨_, rfl⟩
    obtain ⟨b11, hb11⟩ : ∃ b11, b11 = w1.heap.size + 1 := ⟨_, rfl⟩
    have hne : b10 ≠ b11 := by omega
    have hlo : w.heap.size < b10 ∧ w.heap.size < b11 := by have := z0; omega
    rw [← hb11] at o11 ⊢
    rw [← hb10] at o10 ⊢
    generalize ((w1.alloc (.cells #[.int .i64 c, .int .i64 k] 24)).alloc (.cells #[.int .i64 c, .int .i64 k] 24)).drew = w2 at *
    clear hb10 hb11
    obtain ⟨m0, m1, mf0, mf1, mz⟩ := oM.two
    obtain ⟨x0, x1, xf0, xf1, xz⟩ := o10.two
    obtain ⟨y0, y1, yf0, yf1, yz⟩ := o11.two
    have O10 : Own ((w2.setCell ⟨b10, 0, none⟩ (.int .i64 (c + e0))).setCell ⟨b11, 0, none⟩ (.int .i64 (-c))) b10 [.int .i64 (c + e0), .int .i64 k] := (mset2 o10 _).setCell (p := ⟨b11, 0, none⟩) (fun h => hne h.symm) _
    have O11 : Own ((w2.setCell ⟨b10, 0, none⟩ (.int .i64 (c + e0))).setCell ⟨b11, 0, none⟩ (.int .i64 (-c))) b11 [.int .i64 (-c), .int .i64 k] := mset2 (o11.setCell (p := ⟨b10, 0, none⟩) hne _) _
    have OM : Own ((w2.setCell ⟨b10, 0, none⟩ (.int .i64 (c + e0))).setCell ⟨b11, 0, none⟩ (.int .i64 (-c))) w.heap.size [.int .i64 c, .int .i64 k] := (oM.setCell (p := ⟨b10, 0, none⟩) (fun h => by simp at h; omega) _).setCell (p := ⟨b11, 0, none⟩) (fun h => by simp at h; omega) _
    have hb3 : Below w.heap.size w ((w2.setCell ⟨b10, 0, none⟩ (.int .i64 (c + e0))).setCell ⟨b11, 0, none⟩ (.int .i64 (-c))) := (hb.setCell (p := ⟨b10, 0, none⟩) (by simp; omega) _).setCell (p := ⟨b11, 0, none⟩) (by simp; omega) _
    have hne2 : (b11 = b10) = False := by simp; exact fun h => hne h.symm
    go_wp2_with fail
    refine (rAmount_at _ _ HC.out).mono ?_
    rintro e w' ⟨rfl, hw3⟩
    rw [hw3] at O10 O11 OM hb3
    clear hw3 o10 o11 oM hb m0 m1 mf0 mf1 mz x0 x1 xf0 xf1 xz y0 y1 yf0 yf1 yz
    have hb := hb3
    clear hb3
    obtain ⟨m0, m1, mf0, mf1, mz⟩ := OM.two
    go_wp2_with fail
    refine (hC0 _ hb).mono ?_
    rintro e w4 ⟨rfl, hx⟩
    try clear c0_O10 c1_O10 f0_O10 f1_O10 z_O10
    first | replace O10 := O10.below hx | replace O10 := (O10.alloc _).below hx | replace O10 := ((O10.alloc _).alloc _).below hx | replace O10 := (((O10.alloc _).alloc _).alloc _).below hx | replace O10 := (O10.set2 _ _).below hx | replace O10 := ((O10.setCell (by simp <;> omega) _).setCell (by simp <;> omega) _).below hx
    obtain ⟨c0_O10, c1_O10, f0_O10, f1_O10, z_O10⟩ := O10.two
    try clear c0_O11 c1_O11 f0_O11 f1_O11 z_O11
    first | replace O11 := O11.below hx | replace O11 := (O11.alloc _).below hx | replace O11 := ((O11.alloc _).alloc _).below hx | replace O11 := (((O11.alloc _).alloc _).alloc _).below hx | replace O11 := (O11.set2 _ _).below hx | replace O11 := ((O11.setCell (by simp <;> omega) _).setCell (by simp <;> omega) _).below hx
    obtain ⟨c0_O11, c1_O11, f0_O11, f1_O11, z_O11⟩ := O11.two
    replace hb : Below w.heap.size w w4 := Below.trans (by (repeat (first | exact Below.refl _ _ | assumption | refine Below.drew ?_ | refine below_drewN ?_ _ | refine Below.setCell ?_ (by first | omega | (simp <;> omega)) _ | refine Below.alloc ?_ (by have := hb.size; first | omega | (simp <;> omega)) _))) (hx.mono (by have := hb.size; first | omega | (simp <;> omega)))
    clear hx
    clear m0 m1 mf0 mf1 mz
    go_wp2_with fail
    refine (hC1 _ (by (have hbs := hb.size; repeat (first | exact Below.refl _ _ | assumption | refine Below.drew ?_ | refine below_drewN ?_ _ | refine Below.setCell ?_ (by first | omega | (simp <;> omega)) _ | refine Below.alloc ?_ (by first | omega | (simp <;> omega)) _)))).mono ?_
    rintro e w5 ⟨rfl, hx⟩
    try clear c0_O10 c1_O10 f0_O10 f1_O10 z_O10
    first | replace O10 := O10.below hx | replace O10 := (O10.alloc _).below hx | replace O10 := ((O10.alloc _).alloc _).below hx | replace O10 := (((O10.alloc _).alloc _).alloc _).below hx | replace O10 := (O10.set2 _ _).below hx | replace O10 := ((O10.setCell (by simp <;> omega) _).setCell (by simp <;> omega) _).below hx
    obtain ⟨c0_O10, c1_O10, f0_O10, f1_O10, z_O10⟩ := O10.two
    try clear c0_O11 c1_O11 f0_O11 f1_O11 z_O11
    first | replace O11 := O11.below hx | replace O11 := (O11.alloc _).below hx | replace O11 := ((O11.alloc _).alloc _).below hx | replace O11 := (((O11.alloc _).alloc _).alloc _).below hx | replace O11 := (O11.set2 _ _).below hx | replace O11 := ((O11.setCell (by simp <;> omega) _).setCell (by simp <;> omega) _).below hx
    obtain ⟨c0_O11, c1_O11, f0_O11, f1_O11, z_O11⟩ := O11.two
    try clear c0_o12 c1_o12 f0_o12 f1_o12 z_o12
    first | have o12 := (Own.new w4 _ _).below hx | have o12 := ((Own.new w4 _ _).alloc _).below hx | have o12 := (((Own.new w4 _ _).alloc _).alloc _).below hx | have o12 := ((((Own.new w4 _ _).alloc _).alloc _).alloc _).below hx | have o12 := ((Own.new w4 _ _).set2 _ _).below hx | have o12 := (((Own.new w4 _ _).setCell (by simp <;> omega) _).setCell (by simp <;> omega) _).below hx
    obtain ⟨c0_o12, c1_o12, f0_o12, f1_o12, z_o12⟩ := o12.two
    replace hb : Below w.heap.size w w5 := Below.trans (by (repeat (first | exact Below.refl _ _ | assumption | refine Below.drew ?_ | refine below_drewN ?_ _ | refine Below.setCell ?_ (by first | omega | (simp <;> omega)) _ | refine Below.alloc ?_ (by have := hb.size; first | omega | (simp <;> omega)) _))) (hx.mono (by have := hb.size; first | omega | (simp <;> omega)))
    clear hx
    go_wp2_with fail
    refine (hC2 _ (by (have hbs := hb.size; repeat (first | exact Below.refl _ _ | assumption | refine Below.drew ?_ | refine below_drewN ?_ _ | refine Below.setCell ?_ (by first | omega | (simp <;> omega)) _ | refine Below.alloc ?_ (by first | omega | (simp <;> omega)) _)))).mono ?_
    rintro e w6 ⟨rfl, hx⟩
    try clear c0_O10 c1_O10 f0_O10 f1_O10 z_O10
    first | replace O10 := O10.below hx | replace O10 := (O10.alloc _).below hx | replace O10 := ((O10.alloc _).alloc _).below hx | replace O10 := (((O10.alloc _).alloc _).alloc _).below hx | replace O10 := (O10.set2 _ _).below hx | replace O10 := ((O10.setCell (by simp <;> omega) _).setCell (by simp <;> omega) _).below hx
    obtain ⟨c0_O10, c1_O10, f0_O10, f1_O10, z_O10⟩ := O10.two
    try clear c0_O11 c1_O11 f0_O11 f1_O11 z_O11
    first | replace O11 := O11.below hx | replace O11 := (O11.alloc _).below hx | replace O11 := ((O11.alloc _).alloc _).below hx | replace O11 := (((O11.alloc _).alloc _).alloc _).below hx | replace O11 := (O11.set2 _ _).below hx | replace O11 := ((O11.setCell (by simp <;> omega) _).setCell (by simp <;> omega) _).below hx
    obtain ⟨c0_O11, c1_O11, f0_O11, f1_O11, z_O11⟩ := O11.two
    try clear c0_o12 c1_o12 f0_o12 f1_o12 z_o12
    first | replace o12 := o12.below hx | replace o12 := (o12.alloc _).below hx | replace o12 := ((o12.alloc _).alloc _).below hx | replace o12 := (((o12.alloc _).alloc _).alloc _).below hx | replace o12 := (o12.set2 _ _).below hx | replace o12 := ((o12.setCell (by simp <;> omega) _).setCell (by simp <;> omega) _).below hx
    obtain ⟨c0_o12, c1_o12, f0_o12, f1_o12, z_o12⟩ := o12.two
    try clear c0_o14 c1_o14 f0_o14 f1_o14 z_o14
    first | have o14 := (Own.new w5 _ _).below hx | have o14 := ((Own.new w5 _ _).alloc _).below hx | have o14 := (((Own.new w5 _ _).alloc _).alloc _).below hx | have o14 := ((((Own.new w5 _ _).alloc _).alloc _).alloc _).below hx | have o14 := ((Own.new w5 _ _).set2 _ _).below hx | have o14 := (((Own.new w5 _ _).setCell (by simp <;> omega) _).setCell (by simp <;> omega) _).below hx
    obtain ⟨c0_o14, c1_o14, f0_o14, f1_o14, z_o14⟩ := o14.two
    replace hb : Below w.heap.size w w6 := Below.trans (by (repeat (first | exact Below.refl _ _ | assumption | refine Below.drew ?_ | refine below_drewN ?_ _ | refine Below.setCell ?_ (by first | omega | (simp <;> omega)) _ | refine Below.alloc ?_ (by have := hb.size; first | omega | (simp <;> omega)) _))) (hx.mono (by have := hb.size; first | omega | (simp <;> omega)))
    clear hx
    clear hC0 hC1 hC2
    go_wp2_with fail
    go_ret
    exact Ret.mk (by first | rfl | simp) (by (have hbs := hb.size; repeat (first | exact Below.refl _ _ | assumption | refine Below.drew ?_ | refine below_drewN ?_ _ | refine Below.setCell ?_ (by first | omega | (simp <;> omega)) _ | refine Below.alloc ?_ (by first | omega | (simp <;> omega)) _)))
  · obtain ⟨⟨hA, hB⟩, hx2⟩ := two_own w1 (.int .i64 c) (.int .i64 k) 24
    have o10 := hB
    have o11 := hA
    clear hA hB c0_oM c1_oM f0_oM f1_oM z_oM
    replace oM := oM.below hx2
    replace hb := hb.trans (hx2.mono hb.size)
    clear hx2
    obtain ⟨b10, hb10⟩ : ∃ b10, b10 = w1.heap.size + 1 := ⟨_, rfl⟩
    obtain ⟨b11, hb11⟩ : ∃ b11, b11 = w1.heap.size := ⟨_, rfl⟩
    have hne : b10 ≠ b11 := by omega
    have hlo : w.heap.size < b10 ∧ w.heap.size < b11 := by have := z0; omega
    rw [← hb10] at o10 ⊢
    rw [← hb11] at o11 ⊢
    generalize ((w1.alloc (.cells #[.int .i64 c, .int .i64 k] 24)).alloc (.cells #[.int .i64 c, .int .i64 k] 24)).drew = w2 at *
    clear hb10 hb11
    obtain ⟨m0, m1, mf0, mf1, mz⟩ := oM.two
    obtain ⟨x0, x1, xf0, xf1, xz⟩ := o10.two
    obtain ⟨y0, y1, yf0, yf1, yz⟩ := o11.two
    have O10 : Own ((w2.setCell ⟨b10, 0, none⟩ (.int .i64 (c + e0))).setCell ⟨b11, 0, none⟩ (.int .i64 (-c))) b10 [.int .i64 (c + e0), .int .i64 k] := (mset2 o10 _).setCell (p := ⟨b11, 0, none⟩) (fun h => hne h.symm) _
    have O11 : Own ((w2.setCell ⟨b10, 0, none⟩ (.int .i64 (c + e0))).setCell ⟨b11, 0, none⟩ (.int .i64 (-c))) b11 [.int .i64 (-c), .int .i64 k] := mset2 (o11.setCell (p := ⟨b10, 0, none⟩) hne _) _
    have OM : Own ((w2.setCell ⟨b10, 0, none⟩ (.int .i64 (c + e0))).setCell ⟨b11, 0, none⟩ (.int .i64 (-c))) w.heap.size [.int .i64 c, .int .i64 k] := (oM.setCell (p := ⟨b10, 0, none⟩) (fun h => by simp at h; omega) _).setCell (p := ⟨b11, 0, none⟩) (fun h => by simp at h; omega) _
    have hb3 : Below w.heap.size w ((w2.setCell ⟨b10, 0, none⟩ (.int .i64 (c + e0))).setCell ⟨b11, 0, none⟩ (.int .i64 (-c))) := (hb.setCell (p := ⟨b10, 0, none⟩) (by simp; omega) _).setCell (p := ⟨b11, 0, none⟩) (by simp; omega) _
    have hne2 : (b11 = b10) = False := by simp; exact fun h => hne h.symm
    go_wp2_with fail
    refine (rAmount_at _ _ HC.out).mono ?_
    rintro e w' ⟨rfl, hw3⟩
    rw [hw3] at O10 O11 OM hb3
    clear hw3 o10 o11 oM hb m0 m1 mf0 mf1 mz x0 x1 xf0 xf1 xz y0 y1 yf0 yf1 yz
    have hb := hb3
    clear hb3
    obtain ⟨m0, m1, mf0, mf1, mz⟩ := OM.two
    go_wp2_with fail
    refine (hC0 _ hb).mono ?_
    rintro e w4 ⟨rfl, hx⟩
    try clear c0_O10 c1_O10 f0_O10 f1_O10 z_O10
    first | replace O10 := O10.below hx | replace O10 := (O10.alloc _).below hx | replace O10 := ((O10.alloc _).alloc _).below hx | replace O10 := (((O10.alloc _).alloc _).alloc _).below hx | replace O10 := (O10.set2 _ _).below hx | replace O10 := ((O10.setCell (by simp <;> omega) _).setCell (by simp <;> omega) _).below hx
    obtain ⟨c0_O10, c1_O10, f0_O10, f1_O10, z_O10⟩ := O10.two
    try clear c0_O11 c1_O11 f0_O11 f1_O11 z_O11
    first | replace O11 := O11.below hx | replace O11 := (O11.alloc _).below hx | replace O11 := ((O11.alloc _).alloc _).below hx | replace O11 := (((O11.alloc _).alloc _).alloc _).below hx | replace O11 := (O11.set2 _ _).below hx | replace O11 := ((O11.setCell (by simp <;> omega) _).setCell (by simp <;> omega) _).below hx
    obtain ⟨c0_O11, c1_O11, f0_O11, f1_O11, z_O11⟩ := O11.two
    replace hb : Below w.heap.size w w4 := Below.trans (by (repeat (first | exact Below.refl _ _ | assumption | refine Below.drew ?_ | refine below_drewN ?_ _ | refine Below.setCell ?_ (by first | omega | (simp <;> omega)) _ | refine Below.alloc ?_ (by have := hb.size; first | omega | (simp <;> omega)) _))) (hx.mono (by have := hb.size; first | omega | (simp <;> omega)))
    clear hx
    clear m0 m1 mf0 mf1 mz
    go_wp2_with fail
    refine (hC1 _ (by (have hbs := hb.size; repeat (first | exact Below.refl _ _ | assumption | refine Below.drew ?_ | refine below_drewN ?_ _ | refine Below.setCell ?_ (by first | omega | (simp <;> omega)) _ | refine Below.alloc ?_ (by first | omega | (simp <;> omega)) _)))).mono ?_
    rintro e w5 ⟨rfl, hx⟩
    try clear c0_O10 c1_O10 f0_O10 f1_O10 z_O10
    first | replace O10 := O10.below hx | replace O10 := (O10.alloc _).below hx | replace O10 := ((O10.alloc _).alloc _).below hx | replace O10 := (((O10.alloc _).alloc _).alloc _).below hx | replace O10 := (O10.set2 _ _).below hx | replace O10 := ((O10.setCell (by simp <;> omega) _).setCell (by simp <;> omega) _).below hx
    obtain ⟨c0_O10, c1_O10, f0_O10, f1_O10, z_O10⟩ := O10.two
    try clear c0_O11 c1_O11 f0_O11 f1_O11 z_O11
    first | replace O11 := O11.below hx | replace O11 := (O11.alloc _).below hx | replace O11 := ((O11.alloc _).alloc _).below hx | replace O11 := (((O11.alloc _).alloc _).alloc _).below hx | replace O11 := (O11.set2 _ _).below hx | replace O11 := ((O11.setCell (by simp <;> omega) _).setCell (by simp <;> omega) _).below hx
    obtain ⟨c0_O11, c1_O11, f0_O11, f1_O11, z_O11⟩ := O11.two
    try clear c0_o12 c1_o12 f0_o12 f1_o12 z_o12
    first | have o12 := (Own.new w4 _ _).below hx | have o12 := ((Own.new w4 _ _).alloc _).below hx | have o12 := (((Own.new w4 _ _).alloc _).alloc _).below hx | have o12 := ((((Own.new w4 _ _).alloc _).alloc _).alloc _).below hx | have o12 := ((Own.new w4 _ _).set2 _ _).below hx | have o12 := (((Own.new w4 _ _).setCell (by simp <;> omega) _).setCell (by simp <;> omega) _).below hx
    obtain ⟨c0_o12, c1_o12, f0_o12, f1_o12, z_o12⟩ := o12.two
    replace hb : Below w.heap.size w w5 := Below.trans (by (repeat (first | exact Below.refl _ _ | assumption | refine Below.drew ?_ | refine below_drewN ?_ _ | refine Below.setCell ?_ (by first | omega | (simp <;> omega)) _ | refine Below.alloc ?_ (by have := hb.size; first | omega | (simp <;> omega)) _))) (hx.mono (by have := hb.size; first | omega | (simp <;> omega)))
    clear hx
    go_wp2_with fail
    refine (hC2 _ (by (have hbs := hb.size; repeat (first | exact Below.refl _ _ | assumption | refine Below.drew ?_ | refine below_drewN ?_ _ | refine Below.setCell ?_ (by first | omega | (simp <;> omega)) _ | refine Below.alloc ?_ (by first | omega | (simp <;> omega)) _)))).mono ?_
    rintro e w6 ⟨rfl, hx⟩
    try clear c0_O10 c1_O10 f0_O10 f1_O10 z_O10
    first | replace O10 := O10.below hx | replace O10 := (O10.alloc _).below hx | replace O10 := ((O10.alloc _).alloc _).below hx | replace O10 := (((O10.alloc _).alloc _).alloc _).below hx | replace O10 := (O10.set2 _ _).below hx | replace O10 := ((O10.setCell (by simp <;> omega) _).setCell (by simp <;> omega) _).below hx
    obtain ⟨c0_O10, c1_O10, f0_O10, f1_O10, z_O10⟩ := O10.two
    try clear c0_O11 c1_O11 f0_O11 f1_O11 z_O11
    first | replace O11 := O11.below hx | replace O11 := (O11.alloc _).below hx | replace O11 := ((O11.alloc _).alloc _).below hx | replace O11 := (((O11.alloc _).alloc _).alloc _).below hx | replace O11 := (O11.set2 _ _).below hx | replace O11 := ((O11.setCell (by simp <;> omega) _).setCell (by simp <;> omega) _).below hx
    obtain ⟨c0_O11, c1_O11, f0_O11, f1_O11, z_O11⟩ := O11.two
    try clear c0_o12 c1_o12 f0_o12 f1_o12 z_o12
    first | replace o12 := o12.below hx | replace o12 := (o12.alloc _).below hx | replace o12 := ((o12.alloc _).alloc _).below hx | replace o12 := (((o12.alloc _).alloc _).alloc _).below hx | replace o12 := (o12.set2 _ _).below hx | replace o12 := ((o12.setCell (by simp <;> omega) _).setCell (by simp <;> omega) _).below hx
    obtain ⟨c0_o12, c1_o12, f0_o12, f1_o12, z_o12⟩ := o12.two
    try clear c0_o14 c1_o14 f0_o14 f1_o14 z_o14
    first | have o14 := (Own.new w5 _ _).below hx | have o14 := ((Own.new w5 _ _).alloc _).below hx | have o14 := (((Own.new w5 _ _).alloc _).alloc _).below hx | have o14 := ((((Own.new w5 _ _).alloc _).alloc _).alloc _).below hx | have o14 := ((Own.new w5 _ _).set2 _ _).below hx | have o14 := (((Own.new w5 _ _).setCell (by simp <;> omega) _).setCell (by simp <;> omega) _).below hx
    obtain ⟨c0_o14, c1_o14, f0_o14, f1_o14, z_o14⟩ := o14.two
    replace hb : Below w.heap.size w w6 := Below.trans (by (repeat (first | exact Below.refl _ _ | assumption | refine Below.drew ?_ | refine below_drewN ?_ _ | refine Below.setCell ?_ (by first | omega | (simp <;> omega)) _ | refine Below.alloc ?_ (by have := hb.size; first | omega | (simp <;> omega)) _))) (hx.mono (by have := hb.size; first | omega | (simp <;> omega)))
    clear hx
    clear hC0 hC1 hC2
    go_wp2_with fail
    go_ret
    exact Ret.mk (by first | rfl | simp) (by (have hbs := hb.size; repeat (first | exact Below.refl _ _ | assumption | refine Below.drew ?_ | refine below_drewN ?_ _ | refine Below.setCell ?_ (by first | omega | (simp <;> omega)) _ | refine Below.alloc ?_ (by first | omega | (simp <;> omega)) _)))

set_option maxHeartbeats 4000000 in
theorem walkO_ok (v : Value) (l : List Ex) (c k e0 to : Int) (w : World) (hL : Lay w) (hX : Exs w v l) (he0 : 0 ≤ e0 ∧ e0 ≤ 4294967295) (hl : ¬ 40 < l.length) (hc : wthB c 1000000000 = true) (p q : Int) (hp : convF l c k to = ((p, q), 0)) (y : Int) (hy : convF l (c + e0) k to = ((y, q), 0)) (hge : p ≤ y) : Calls Tryd.prog 5 #[v, .agg #[.int .i64 c, .int .i64 k], .int .u32 e0, .int .i64 to] w (Ret (.bool true) w) := by
  have hH : ∀ wk, Below w.heap.size w wk → Calls Tryd.prog 9 #[] wk (Ret (.bool true) wk) := fun wk h => mhead_any wk (hL.below h)
  have hb : Below w.heap.size w w := Below.refl _ _
  have hxl := hX.short
  have hC0 : ∀ wk, Below w.heap.size w wk → Calls Tryd.prog 10 #[v, .agg #[.int .i64 c, .int .i64 k], .int .i64 to] wk (Ret (.tuple #[.agg #[.int .i64 p, .int .i64 q], .int .i64 0]) wk) := fun wk h => by
    have := convert_any v l c k to wk (hX.below h); rw [hp] at this; exact this
  have hn : convF l (-c) k to = ((-p, q), 0) := by rw [conv_neg, hp]
  have hC2 : ∀ wk, Below w.heap.size w wk → Calls Tryd.prog 10 #[v, .agg #[.int .i64 (-c), .int .i64 k], .int .i64 to] wk (Ret (.tuple #[.agg #[.int .i64 (-p), .int .i64 q], .int .i64 0]) wk) := fun wk h => by
    have := convert_any v l (-c) k to wk (hX.below h); rw [hn] at this; exact this
  have hpb := conv_ok_bd hp
  have hC1 : ∀ wk, Below w.heap.size w wk → Calls Tryd.prog 10 #[v, .agg #[.int .i64 (c + e0), .int .i64 k], .int .i64 to] wk (Ret (.tuple #[.agg #[.int .i64 y, .int .i64 q], .int .i64 0]) wk) := fun wk h => by
    have := convert_any v l (c + e0) k to wk (hX.below h); rw [hy] at this; exact this
  obtain ⟨ad, cap, hsl, _⟩ := hX.open
  subst hsl
  have q0 : decide (40 < (l.length : Int)) = false := by rw [decide_eq_false_iff_not]; omega
  have hc1 : -1000000000 ≤ c ∧ c ≤ 1000000000 := by simpa [wthB] using hc
  have HC := Lib.hid hc
  have q1 : decide (p ≤ y) = true := by rw [decide_eq_true_iff]; exact hge
  clear hc hp hn hy hge hX hL
  go_enter Tryd.func5, Tryd.ntmps5
  go_wp2_with fail
  refine (hH _ (by (have hbs := hb.size; repeat (first | exact Below.refl _ _ | assumption | refine Below.drew ?_ | refine below_drewN ?_ _ | refine Below.setCell ?_ (by first | omega | (simp <;> omega)) _ | refine Below.alloc ?_ (by first | omega | (simp <;> omega)) _)))).mono ?_
  rintro e w1 ⟨rfl, hx⟩
  try clear c0_oM c1_oM f0_oM f1_oM z_oM
  first | have oM := (Own.new w _ _).below hx | have oM := ((Own.new w _ _).alloc _).below hx | have oM := (((Own.new w _ _).alloc _).alloc _).below hx | have oM := ((((Own.new w _ _).alloc _).alloc _).alloc _).below hx | have oM := ((Own.new w _ _).set2 _ _).below hx | have oM := (((Own.new w _ _).setCell (by simp <;> omega) _).setCell (by simp <;> omega) _).below hx
  obtain ⟨c0_oM, c1_oM, f0_oM, f1_oM, z_oM⟩ := oM.two
  replace hb : Below w.heap.size w w1 := Below.trans (by (repeat (first | exact Below.refl _ _ | assumption | refine Below.drew ?_ | refine below_drewN ?_ _ | refine Below.setCell ?_ (by first | omega | (simp <;> omega)) _ | refine Below.alloc ?_ (by have := hb.size; first | omega | (simp <;> omega)) _))) (hx.mono (by have := hb.size; first | omega | (simp <;> omega)))
  clear hx
  clear hH
  go_wp2_with fail
  have z0 := z_oM
  have z1 := hb.size
  go_region
  · obtain ⟨⟨hA, hB⟩, hx2⟩ := two_own w1 (.int .i64 c) (.int .i64 k) 24
    have o10 := hA
    have o11 := hB
    clear hA hB c0_oM c1_oM f0_oM f1_oM z_oM
    replace oM := oM.below hx2
    replace hb := hb.trans (hx2.mono hb.size)
    clear hx2
    obtain ⟨b10, hb10⟩ : ∃ b10, b10 = w1.heap.size := ⟨_, rfl⟩
    obtain ⟨b11, hb11⟩ : ∃ b11, b11 = w1.heap.size + 1 := ⟨_, rfl⟩
    have hne : b10 ≠ b11 := by omega
    have hlo : w.heap.size < b10 ∧ w.heap.size < b11 := by have := z0; omega
    rw [← hb11] at o11 ⊢
    rw [← hb10] at o10 ⊢
    generalize ((w1.alloc (.cells #[.int .i64 c, .int .i64 k] 24)).alloc (.cells #[.int .i64 c, .int .i64 k] 24)).drew = w2 at *
    clear hb10 hb11
    obtain ⟨m0, m1, mf0, mf1, mz⟩ := oM.two
    obtain ⟨x0, x1, xf0, xf1, xz⟩ := o10.two
    obtain ⟨y0, y1, yf0, yf1, yz⟩ := o11.two
    have O10 : Own ((w2.setCell ⟨b10, 0, none⟩ (.int .i64 (c + e0))).setCell ⟨b11, 0, none⟩ (.int .i64 (-c))) b10 [.int .i64 (c + e0), .int .i64 k] := (mset2 o10 _).setCell (p := ⟨b11, 0, none⟩) (fun h => hne h.symm) _
    have O11 : Own ((w2.setCell ⟨b10, 0, none⟩ (.int .i64 (c + e0))).setCell ⟨b11, 0, none⟩ (.int .i64 (-c))) b11 [.int .i64 (-c), .int .i64 k] := mset2 (o11.setCell (p := ⟨b10, 0, none⟩) hne _) _
    have OM : Own ((w2.setCell ⟨b10, 0, none⟩ (.int .i64 (c + e0))).setCell ⟨b11, 0, none⟩ (.int .i64 (-c))) w.heap.size [.int .i64 c, .int .i64 k] := (oM.setCell (p := ⟨b10, 0, none⟩) (fun h => by simp at h; omega) _).setCell (p := ⟨b11, 0, none⟩) (fun h => by simp at h; omega) _
    have hb3 : Below w.heap.size w ((w2.setCell ⟨b10, 0, none⟩ (.int .i64 (c + e0))).setCell ⟨b11, 0, none⟩ (.int .i64 (-c))) := (hb.setCell (p := ⟨b10, 0, none⟩) (by simp; omega) _).setCell (p := ⟨b11, 0, none⟩) (by simp; omega) _
    have hne2 : (b11 = b10) = False := by simp; exact fun h => hne h.symm
    go_wp2_with fail
    refine (rAmount_at _ _ HC.out).mono ?_
    rintro e w' ⟨rfl, hw3⟩
    rw [hw3] at O10 O11 OM hb3
    clear hw3 o10 o11 oM hb m0 m1 mf0 mf1 mz x0 x1 xf0 xf1 xz y0 y1 yf0 yf1 yz
    have hb := hb3
    clear hb3
    obtain ⟨m0, m1, mf0, mf1, mz⟩ := OM.two
    go_wp2_with fail
    refine (hC0 _ hb).mono ?_
    rintro e w4 ⟨rfl, hx⟩
    try clear c0_O10 c1_O10 f0_O10 f1_O10 z_O10
    first | replace O10 := O10.below hx | replace O10 := (O10.alloc _).below hx | replace O10 := ((O10.alloc _).alloc _).below hx | replace O10 := (((O10.alloc _).alloc _).alloc _).below hx | replace O10 := (O10.set2 _ _).below hx | replace O10 := ((O10.setCell (by simp <;> omega) _).setCell (by simp <;> omega) _).below hx
    obtain ⟨c0_O10, c1_O10, f0_O10, f1_O10, z_O10⟩ := O10.two
    try clear c0_O11 c1_O11 f0_O11 f1_O11 z_O11
    first | replace O11 := O11.below hx | replace O11 := (O11.alloc _).below hx | replace O11 := ((O11.alloc _).alloc _).below hx | replace O11 := (((O11.alloc _).alloc _).alloc _).below hx | replace O11 := (O11.set2 _ _).below hx | replace O11 := ((O11.setCell (by simp <;> omega) _).setCell (by simp <;> omega) _).below hx
    obtain ⟨c0_O11, c1_O11, f0_O11, f1_O11, z_O11⟩ := O11.two
    replace hb : Below w.heap.size w w4 := Below.trans (by (repeat (first | exact Below.refl _ _ | assumption | refine Below.drew ?_ | refine below_drewN ?_ _ | refine Below.setCell ?_ (by first | omega | (simp <;> omega)) _ | refine Below.alloc ?_ (by have := hb.size; first | omega | (simp <;> omega)) _))) (hx.mono (by have := hb.size; first | omega | (simp <;> omega)))
    clear hx
    clear m0 m1 mf0 mf1 mz
    go_wp2_with fail
    refine (hC1 _ (by (have hbs := hb.size; repeat (first | exact Below.refl _ _ | assumption | refine Below.drew ?_ | refine below_drewN ?_ _ | refine Below.setCell ?_ (by first | omega | (simp <;> omega)) _ | refine Below.alloc ?_ (by first | omega | (simp <;> omega)) _)))).mono ?_
    rintro e w5 ⟨rfl, hx⟩
    try clear c0_O10 c1_O10 f0_O10 f1_O10 z_O10
    first | replace O10 := O10.below hx | replace O10 := (O10.alloc _).below hx | replace O10 := ((O10.alloc _).alloc _).below hx | replace O10 := (((O10.alloc _).alloc _).alloc _).below hx | replace O10 := (O10.set2 _ _).below hx | replace O10 := ((O10.setCell (by simp <;> omega) _).setCell (by simp <;> omega) _).below hx
    obtain ⟨c0_O10, c1_O10, f0_O10, f1_O10, z_O10⟩ := O10.two
    try clear c0_O11 c1_O11 f0_O11 f1_O11 z_O11
    first | replace O11 := O11.below hx | replace O11 := (O11.alloc _).below hx | replace O11 := ((O11.alloc _).alloc _).below hx | replace O11 := (((O11.alloc _).alloc _).alloc _).below hx | replace O11 := (O11.set2 _ _).below hx | replace O11 := ((O11.setCell (by simp <;> omega) _).setCell (by simp <;> omega) _).below hx
    obtain ⟨c0_O11, c1_O11, f0_O11, f1_O11, z_O11⟩ := O11.two
    try clear c0_o12 c1_o12 f0_o12 f1_o12 z_o12
    first | have o12 := (Own.new w4 _ _).below hx | have o12 := ((Own.new w4 _ _).alloc _).below hx | have o12 := (((Own.new w4 _ _).alloc _).alloc _).below hx | have o12 := ((((Own.new w4 _ _).alloc _).alloc _).alloc _).below hx | have o12 := ((Own.new w4 _ _).set2 _ _).below hx | have o12 := (((Own.new w4 _ _).setCell (by simp <;> omega) _).setCell (by simp <;> omega) _).below hx
    obtain ⟨c0_o12, c1_o12, f0_o12, f1_o12, z_o12⟩ := o12.two
    replace hb : Below w.heap.size w w5 := Below.trans (by (repeat (first | exact Below.refl _ _ | assumption | refine Below.drew ?_ | refine below_drewN ?_ _ | refine Below.setCell ?_ (by first | omega | (simp <;> omega)) _ | refine Below.alloc ?_ (by have := hb.size; first | omega | (simp <;> omega)) _))) (hx.mono (by have := hb.size; first | omega | (simp <;> omega)))
    clear hx
    go_wp2_with fail
    refine (hC2 _ (by (have hbs := hb.size; repeat (first | exact Below.refl _ _ | assumption | refine Below.drew ?_ | refine below_drewN ?_ _ | refine Below.setCell ?_ (by first | omega | (simp <;> omega)) _ | refine Below.alloc ?_ (by first | omega | (simp <;> omega)) _)))).mono ?_
    rintro e w6 ⟨rfl, hx⟩
    try clear c0_O10 c1_O10 f0_O10 f1_O10 z_O10
    first | replace O10 := O10.below hx | replace O10 := (O10.alloc _).below hx | replace O10 := ((O10.alloc _).alloc _).below hx | replace O10 := (((O10.alloc _).alloc _).alloc _).below hx | replace O10 := (O10.set2 _ _).below hx | replace O10 := ((O10.setCell (by simp <;> omega) _).setCell (by simp <;> omega) _).below hx
    obtain ⟨c0_O10, c1_O10, f0_O10, f1_O10, z_O10⟩ := O10.two
    try clear c0_O11 c1_O11 f0_O11 f1_O11 z_O11
    first | replace O11 := O11.below hx | replace O11 := (O11.alloc _).below hx | replace O11 := ((O11.alloc _).alloc _).below hx | replace O11 := (((O11.alloc _).alloc _).alloc _).below hx | replace O11 := (O11.set2 _ _).below hx | replace O11 := ((O11.setCell (by simp <;> omega) _).setCell (by simp <;> omega) _).below hx
    obtain ⟨c0_O11, c1_O11, f0_O11, f1_O11, z_O11⟩ := O11.two
    try clear c0_o12 c1_o12 f0_o12 f1_o12 z_o12
    first | replace o12 := o12.below hx | replace o12 := (o12.alloc _).below hx | replace o12 := ((o12.alloc _).alloc _).below hx | replace o12 := (((o12.alloc _).alloc _).alloc _).below hx | replace o12 := (o12.set2 _ _).below hx | replace o12 := ((o12.setCell (by simp <;> omega) _).setCell (by simp <;> omega) _).below hx
    obtain ⟨c0_o12, c1_o12, f0_o12, f1_o12, z_o12⟩ := o12.two
    try clear c0_o14 c1_o14 f0_o14 f1_o14 z_o14
    first | have o14 := (Own.new w5 _ _).below hx | have o14 := ((Own.new w5 _ _).alloc _).below hx | have o14 := (((Own.new w5 _ _).alloc _).alloc _).below hx | have o14 := ((((Own.new w5 _ _).alloc _).alloc _).alloc _).below hx | have o14 := ((Own.new w5 _ _).set2 _ _).below hx | have o14 := (((Own.new w5 _ _).setCell (by simp <;> omega) _).setCell (by simp <;> omega) _).below hx
    obtain ⟨c0_o14, c1_o14, f0_o14, f1_o14, z_o14⟩ := o14.two
    replace hb : Below w.heap.size w w6 := Below.trans (by (repeat (first | exact Below.refl _ _ | assumption | refine Below.drew ?_ | refine below_drewN ?_ _ | refine Below.setCell ?_ (by first | omega | (simp <;> omega)) _ | refine Below.alloc ?_ (by have := hb.size; first | omega | (simp <;> omega)) _))) (hx.mono (by have := hb.size; first | omega | (simp <;> omega)))
    clear hx
    clear hC0 hC1 hC2
    go_wp2_with fail
    go_ret
    exact Ret.mk (by first | rfl | simp) (by (have hbs := hb.size; repeat (first | exact Below.refl _ _ | assumption | refine Below.drew ?_ | refine below_drewN ?_ _ | refine Below.setCell ?_ (by first | omega | (simp <;> omega)) _ | refine Below.alloc ?_ (by first | omega | (simp <;> omega)) _)))
  · obtain ⟨⟨hA, hB⟩, hx2⟩ := two_own w1 (.int .i64 c) (.int .i64 k) 24
    have o10 := hB
    have o11 := hA
    clear hA hB c0_oM c1_oM f0_oM f1_oM z_oM
    replace oM := oM.below hx2
    replace hb := hb.trans (hx2.mono hb.size)
    clear hx2
    obtain ⟨b10, hb10⟩ : ∃ b10, b10 = w1.heap.size + 1 := ⟨_, rfl⟩
    obtain ⟨b11, hb11⟩ : ∃ b11, b11 = w1.heap.size := ⟨_, rfl⟩
    have hne : b10 ≠ b11 := by omega
    have hlo : w.heap.size < b10 ∧ w.heap.size < b11 := by have := z0; omega
    rw [← hb10] at o10 ⊢
    rw [← hb11] at o11 ⊢
    generalize ((w1.alloc (.cells #[.int .i64 c, .int .i64 k] 24)).alloc (.cells #[.int .i64 c, .int .i64 k] 24)).drew = w2 at *
    clear hb10 hb11
    obtain ⟨m0, m1, mf0, mf1, mz⟩ := oM.two
    obtain ⟨x0, x1, xf0, xf1, xz⟩ := o10.two
    obtain ⟨y0, y1, yf0, yf1, yz⟩ := o11.two
    have O10 : Own ((w2.setCell ⟨b10, 0, none⟩ (.int .i64 (c + e0))).setCell ⟨b11, 0, none⟩ (.int .i64 (-c))) b10 [.int .i64 (c + e0), .int .i64 k] := (mset2 o10 _).setCell (p := ⟨b11, 0, none⟩) (fun h => hne h.symm) _
    have O11 : Own ((w2.setCell ⟨b10, 0, none⟩ (.int .i64 (c + e0))).setCell ⟨b11, 0, none⟩ (.int .i64 (-c))) b11 [.int .i64 (-c), .int .i64 k] := mset2 (o11.setCell (p := ⟨b10, 0, none⟩) hne _) _
    have OM : Own ((w2.setCell ⟨b10, 0, none⟩ (.int .i64 (c + e0))).setCell ⟨b11, 0, none⟩ (.int .i64 (-c))) w.heap.size [.int .i64 c, .int .i64 k] := (oM.setCell (p := ⟨b10, 0, none⟩) (fun h => by simp at h; omega) _).setCell (p := ⟨b11, 0, none⟩) (fun h => by simp at h; omega) _
    have hb3 : Below w.heap.size w ((w2.setCell ⟨b10, 0, none⟩ (.int .i64 (c + e0))).setCell ⟨b11, 0, none⟩ (.int .i64 (-c))) := (hb.setCell (p := ⟨b10, 0, none⟩) (by simp; omega) _).setCell (p := ⟨b11, 0, none⟩) (by simp; omega) _
    have hne2 : (b11 = b10) = False := by simp; exact fun h => hne h.symm
    go_wp2_with fail
    refine (rAmount_at _ _ HC.out).mono ?_
    rintro e w' ⟨rfl, hw3⟩
    rw [hw3] at O10 O11 OM hb3
    clear hw3 o10 o11 oM hb m0 m1 mf0 mf1 mz x0 x1 xf0 xf1 xz y0 y1 yf0 yf1 yz
    have hb := hb3
    clear hb3
    obtain ⟨m0, m1, mf0, mf1, mz⟩ := OM.two
    go_wp2_with fail
    refine (hC0 _ hb).mono ?_
    rintro e w4 ⟨rfl, hx⟩
    try clear c0_O10 c1_O10 f0_O10 f1_O10 z_O10
    first | replace O10 := O10.below hx | replace O10 := (O10.alloc _).below hx | replace O10 := ((O10.alloc _).alloc _).below hx | replace O10 := (((O10.alloc _).alloc _).alloc _).below hx | replace O10 := (O10.set2 _ _).below hx | replace O10 := ((O10.setCell (by simp <;> omega) _).setCell (by simp <;> omega) _).below hx
    obtain ⟨c0_O10, c1_O10, f0_O10, f1_O10, z_O10⟩ := O10.two
    try clear c0_O11 c1_O11 f0_O11 f1_O11 z_O11
    first | replace O11 := O11.below hx | replace O11 := (O11.alloc _).below hx | replace O11 := ((O11.alloc _).alloc _).below hx | replace O11 := (((O11.alloc _).alloc _).alloc _).below hx | replace O11 := (O11.set2 _ _).below hx | replace O11 := ((O11.setCell (by simp <;> omega) _).setCell (by simp <;> omega) _).below hx
    obtain ⟨c0_O11, c1_O11, f0_O11, f1_O11, z_O11⟩ := O11.two
    replace hb : Below w.heap.size w w4 := Below.trans (by (repeat (first | exact Below.refl _ _ | assumption | refine Below.drew ?_ | refine below_drewN ?_ _ | refine Below.setCell ?_ (by first | omega | (simp <;> omega)) _ | refine Below.alloc ?_ (by have := hb.size; first | omega | (simp <;> omega)) _))) (hx.mono (by have := hb.size; first | omega | (simp <;> omega)))
    clear hx
    clear m0 m1 mf0 mf1 mz
    go_wp2_with fail
    refine (hC1 _ (by (have hbs := hb.size; repeat (first | exact Below.refl _ _ | assumption | refine Below.drew ?_ | refine below_drewN ?_ _ | refine Below.setCell ?_ (by first | omega | (simp <;> omega)) _ | refine Below.alloc ?_ (by first | omega | (simp <;> omega)) _)))).mono ?_
    rintro e w5 ⟨rfl, hx⟩
    try clear c0_O10 c1_O10 f0_O10 f1_O10 z_O10
    first | replace O10 := O10.below hx | replace O10 := (O10.alloc _).below hx | replace O10 := ((O10.alloc _).alloc _).below hx | replace O10 := (((O10.alloc _).alloc _).alloc _).below hx | replace O10 := (O10.set2 _ _).below hx | replace O10 := ((O10.setCell (by simp <;> omega) _).setCell (by simp <;> omega) _).below hx
    obtain ⟨c0_O10, c1_O10, f0_O10, f1_O10, z_O10⟩ := O10.two
    try clear c0_O11 c1_O11 f0_O11 f1_O11 z_O11
    first | replace O11 := O11.below hx | replace O11 := (O11.alloc _).below hx | replace O11 := ((O11.alloc _).alloc _).below hx | replace O11 := (((O11.alloc _).alloc _).alloc _).below hx | replace O11 := (O11.set2 _ _).below hx | replace O11 := ((O11.setCell (by simp <;> omega) _).setCell (by simp <;> omega) _).below hx
    obtain ⟨c0_O11, c1_O11, f0_O11, f1_O11, z_O11⟩ := O11.two
    try clear c0_o12 c1_o12 f0_o12 f1_o12 z_o12
    first | have o12 := (Own.new w4 _ _).below hx | have o12 := ((Own.new w4 _ _).alloc _).below hx | have o12 := (((Own.new w4 _ _).alloc _).alloc _).below hx | have o12 := ((((Own.new w4 _ _).alloc _).alloc _).alloc _).below hx | have o12 := ((Own.new w4 _ _).set2 _ _).below hx | have o12 := (((Own.new w4 _ _).setCell (by simp <;> omega) _).setCell (by simp <;> omega) _).below hx
    obtain ⟨c0_o12, c1_o12, f0_o12, f1_o12, z_o12⟩ := o12.two
    replace hb : Below w.heap.size w w5 := Below.trans (by (repeat (first | exact Below.refl _ _ | assumption | refine Below.drew ?_ | refine below_drewN ?_ _ | refine Below.setCell ?_ (by first | omega | (simp <;> omega)) _ | refine Below.alloc ?_ (by have := hb.size; first | omega | (simp <;> omega)) _))) (hx.mono (by have := hb.size; first | omega | (simp <;> omega)))
    clear hx
    go_wp2_with fail
    refine (hC2 _ (by (have hbs := hb.size; repeat (first | exact Below.refl _ _ | assumption | refine Below.drew ?_ | refine below_drewN ?_ _ | refine Below.setCell ?_ (by first | omega | (simp <;> omega)) _ | refine Below.alloc ?_ (by first | omega | (simp <;> omega)) _)))).mono ?_
    rintro e w6 ⟨rfl, hx⟩
    try clear c0_O10 c1_O10 f0_O10 f1_O10 z_O10
    first | replace O10 := O10.below hx | replace O10 := (O10.alloc _).below hx | replace O10 := ((O10.alloc _).alloc _).below hx | replace O10 := (((O10.alloc _).alloc _).alloc _).below hx | replace O10 := (O10.set2 _ _).below hx | replace O10 := ((O10.setCell (by simp <;> omega) _).setCell (by simp <;> omega) _).below hx
    obtain ⟨c0_O10, c1_O10, f0_O10, f1_O10, z_O10⟩ := O10.two
    try clear c0_O11 c1_O11 f0_O11 f1_O11 z_O11
    first | replace O11 := O11.below hx | replace O11 := (O11.alloc _).below hx | replace O11 := ((O11.alloc _).alloc _).below hx | replace O11 := (((O11.alloc _).alloc _).alloc _).below hx | replace O11 := (O11.set2 _ _).below hx | replace O11 := ((O11.setCell (by simp <;> omega) _).setCell (by simp <;> omega) _).below hx
    obtain ⟨c0_O11, c1_O11, f0_O11, f1_O11, z_O11⟩ := O11.two
    try clear c0_o12 c1_o12 f0_o12 f1_o12 z_o12
    first | replace o12 := o12.below hx | replace o12 := (o12.alloc _).below hx | replace o12 := ((o12.alloc _).alloc _).below hx | replace o12 := (((o12.alloc _).alloc _).alloc _).below hx | replace o12 := (o12.set2 _ _).below hx | replace o12 := ((o12.setCell (by simp <;> omega) _).setCell (by simp <;> omega) _).below hx
    obtain ⟨c0_o12, c1_o12, f0_o12, f1_o12, z_o12⟩ := o12.two
    try clear c0_o14 c1_o14 f0_o14 f1_o14 z_o14
    first | have o14 := (Own.new w5 _ _).below hx | have o14 := ((Own.new w5 _ _).alloc _).below hx | have o14 := (((Own.new w5 _ _).alloc _).alloc _).below hx | have o14 := ((((Own.new w5 _ _).alloc _).alloc _).alloc _).below hx | have o14 := ((Own.new w5 _ _).set2 _ _).below hx | have o14 := (((Own.new w5 _ _).setCell (by simp <;> omega) _).setCell (by simp <;> omega) _).below hx
    obtain ⟨c0_o14, c1_o14, f0_o14, f1_o14, z_o14⟩ := o14.two
    replace hb : Below w.heap.size w w6 := Below.trans (by (repeat (first | exact Below.refl _ _ | assumption | refine Below.drew ?_ | refine below_drewN ?_ _ | refine Below.setCell ?_ (by first | omega | (simp <;> omega)) _ | refine Below.alloc ?_ (by have := hb.size; first | omega | (simp <;> omega)) _))) (hx.mono (by have := hb.size; first | omega | (simp <;> omega)))
    clear hx
    clear hC0 hC1 hC2
    go_wp2_with fail
    go_ret
    exact Ret.mk (by first | rfl | simp) (by (have hbs := hb.size; repeat (first | exact Below.refl _ _ | assumption | refine Below.drew ?_ | refine below_drewN ?_ _ | refine Below.setCell ?_ (by first | omega | (simp <;> omega)) _ | refine Below.alloc ?_ (by first | omega | (simp <;> omega)) _)))

set_option maxHeartbeats 4000000 in
theorem walkO_arg (v : Value) (l : List Ex) (c k e0 to : Int) (w : World) (hL : Lay w) (hX : Exs w v l) (he0 : 0 ≤ e0 ∧ e0 ≤ 4294967295) (hl : ¬ 40 < l.length) (hc : wthB c 1000000000 = true) (p q : Int) (hp : convF l c k to = ((p, q), 0)) (hw : wthB (c + e0) 1000000000 = false) (hy : convF l (c + e0) k to = ((0, 0), 1)) : Calls Tryd.prog 5 #[v, .agg #[.int .i64 c, .int .i64 k], .int .u32 e0, .int .i64 to] w (Ret (.bool true) w) := by
  have hH : ∀ wk, Below w.heap.size w wk → Calls Tryd.prog 9 #[] wk (Ret (.bool true) wk) := fun wk h => mhead_any wk (hL.below h)
  have hb : Below w.heap.size w w := Below.refl _ _
  have hxl := hX.short
  have hC0 : ∀ wk, Below w.heap.size w wk → Calls Tryd.prog 10 #[v, .agg #[.int .i64 c, .int .i64 k], .int .i64 to] wk (Ret (.tuple #[.agg #[.int .i64 p, .int .i64 q], .int .i64 0]) wk) := fun wk h => by
    have := convert_any v l c k to wk (hX.below h); rw [hp] at this; exact this
  have hn : convF l (-c) k to = ((-p, q), 0) := by rw [conv_neg, hp]
  have hC2 : ∀ wk, Below w.heap.size w wk → Calls Tryd.prog 10 #[v, .agg #[.int .i64 (-c), .int .i64 k], .int .i64 to] wk (Ret (.tuple #[.agg #[.int .i64 (-p), .int .i64 q], .int .i64 0]) wk) := fun wk h => by
    have := convert_any v l (-c) k to wk (hX.below h); rw [hn] at this; exact this
  have hpb := conv_ok_bd hp
  have hC1 : ∀ wk, Below w.heap.size w wk → Calls Tryd.prog 10 #[v, .agg #[.int .i64 (c + e0), .int .i64 k], .int .i64 to] wk (Ret (.tuple #[.agg #[.int .i64 0, .int .i64 0], .int .i64 1]) wk) := fun wk h => by
    have := convert_any v l (c + e0) k to wk (hX.below h); rw [hy] at this; exact this
  obtain ⟨ad, cap, hsl, _⟩ := hX.open
  subst hsl
  have q0 : decide (40 < (l.length : Int)) = false := by rw [decide_eq_false_iff_not]; omega
  have hc1 : -1000000000 ≤ c ∧ c ≤ 1000000000 := by simpa [wthB] using hc
  have HC := Lib.hid hc
  have HW := Lib.hid hw
  clear hc hp hn hy hw hX hL
  go_enter Tryd.func5, Tryd.ntmps5
  go_wp2_with fail
  refine (hH _ (by (have hbs := hb.size; repeat (first | exact Below.refl _ _ | assumption | refine Below.drew ?_ | refine below_drewN ?_ _ | refine Below.setCell ?_ (by first | omega | (simp <;> omega)) _ | refine Below.alloc ?_ (by first | omega | (simp <;> omega)) _)))).mono ?_
  rintro e w1 ⟨rfl, hx⟩
  try clear c0_oM c1_oM f0_oM f1_oM z_oM
  first | have oM := (Own.new w _ _).below hx | have oM := ((Own.new w _ _).alloc _).below hx | have oM := (((Own.new w _ _).alloc _).alloc _).below hx | have oM := ((((Own.new w _ _).alloc _).alloc _).alloc _).below hx | have oM := ((Own.new w _ _).set2 _ _).below hx | have oM := (((Own.new w _ _).setCell (by simp <;> omega) _).setCell (by simp <;> omega) _).below hx
  obtain ⟨c0_oM, c1_oM, f0_oM, f1_oM, z_oM⟩ := oM.two
  replace hb : Below w.heap.size w w1 := Below.trans (by (repeat (first | exact Below.refl _ _ | assumption | refine Below.drew ?_ | refine below_drewN ?_ _ | refine Below.setCell ?_ (by first | omega | (simp <;> omega)) _ | refine Below.alloc ?_ (by have := hb.size; first | omega | (simp <;> omega)) _))) (hx.mono (by have := hb.size; first | omega | (simp <;> omega)))
  clear hx
  clear hH
  go_wp2_with fail
  have z0 := z_oM
  have z1 := hb.size
  go_region
  · obtain ⟨⟨hA, hB⟩, hx2⟩ := two_own w1 (.int .i64 c) (.int .i64 k) 24
    have o10 := hA
    have o11 := hB
    clear hA hB c0_oM c1_oM f0_oM f1_oM z_oM
    replace oM := oM.below hx2
    replace hb := hb.trans (hx2.mono hb.size)
    clear hx2
    obtain ⟨b10, hb10⟩ : ∃ b10, b10 = w1.heap.size := ⟨_, rfl⟩
    obtain ⟨b11, hb11⟩ : ∃ b11, b11 = w1.heap.size + 1 := ⟨_, rfl⟩
    have hne : b10 ≠ b11 := by omega
    have hlo : w.heap.size < b10 ∧ w.heap.size < b11 := by have := z0; omega
    rw [← hb11] at o11 ⊢
    rw [← hb10] at o10 ⊢
    generalize ((w1.alloc (.cells #[.int .i64 c, .int .i64 k] 24)).alloc (.cells #[.int .i64 c, .int .i64 k] 24)).drew = w2 at *
    clear hb10 hb11
    obtain ⟨m0, m1, mf0, mf1, mz⟩ := oM.two
    obtain ⟨x0, x1, xf0, xf1, xz⟩ := o10.two
    obtain ⟨y0, y1, yf0, yf1, yz⟩ := o11.two
    have O10 : Own ((w2.setCell ⟨b10, 0, none⟩ (.int .i64 (c + e0))).setCell ⟨b11, 0, none⟩ (.int .i64 (-c))) b10 [.int .i64 (c + e0), .int .i64 k] := (mset2 o10 _).setCell (p := ⟨b11, 0, none⟩) (fun h => hne h.symm) _
    have O11 : Own ((w2.setCell ⟨b10, 0, none⟩ (.int .i64 (c + e0))).setCell ⟨b11, 0, none⟩ (.int .i64 (-c))) b11 [.int .i64 (-c), .int .i64 k] := mset2 (o11.setCell (p := ⟨b10, 0, none⟩) hne _) _
    have OM : Own ((w2.setCell ⟨b10, 0, none⟩ (.int .i64 (c + e0))).setCell ⟨b11, 0, none⟩ (.int .i64 (-c))) w.heap.size [.int .i64 c, .int .i64 k] := (oM.setCell (p := ⟨b10, 0, none⟩) (fun h => by simp at h; omega) _).setCell (p := ⟨b11, 0, none⟩) (fun h => by simp at h; omega) _
    have hb3 : Below w.heap.size w ((w2.setCell ⟨b10, 0, none⟩ (.int .i64 (c + e0))).setCell ⟨b11, 0, none⟩ (.int .i64 (-c))) := (hb.setCell (p := ⟨b10, 0, none⟩) (by simp; omega) _).setCell (p := ⟨b11, 0, none⟩) (by simp; omega) _
    have hne2 : (b11 = b10) = False := by simp; exact fun h => hne h.symm
    go_wp2_with fail
    refine (rAmount_at _ _ HC.out).mono ?_
    rintro e w' ⟨rfl, hw3⟩
    rw [hw3] at O10 O11 OM hb3
    clear hw3 o10 o11 oM hb m0 m1 mf0 mf1 mz x0 x1 xf0 xf1 xz y0 y1 yf0 yf1 yz
    have hb := hb3
    clear hb3
    obtain ⟨m0, m1, mf0, mf1, mz⟩ := OM.two
    go_wp2_with fail
    refine (hC0 _ hb).mono ?_
    rintro e w4 ⟨rfl, hx⟩
    try clear c0_O10 c1_O10 f0_O10 f1_O10 z_O10
    first | replace O10 := O10.below hx | replace O10 := (O10.alloc _).below hx | replace O10 := ((O10.alloc _).alloc _).below hx | replace O10 := (((O10.alloc _).alloc _).alloc _).below hx | replace O10 := (O10.set2 _ _).below hx | replace O10 := ((O10.setCell (by simp <;> omega) _).setCell (by simp <;> omega) _).below hx
    obtain ⟨c0_O10, c1_O10, f0_O10, f1_O10, z_O10⟩ := O10.two
    try clear c0_O11 c1_O11 f0_O11 f1_O11 z_O11
    first | replace O11 := O11.below hx | replace O11 := (O11.alloc _).below hx | replace O11 := ((O11.alloc _).alloc _).below hx | replace O11 := (((O11.alloc _).alloc _).alloc _).below hx | replace O11 := (O11.set2 _ _).below hx | replace O11 := ((O11.setCell (by simp <;> omega) _).setCell (by simp <;> omega) _).below hx
    obtain ⟨c0_O11, c1_O11, f0_O11, f1_O11, z_O11⟩ := O11.two
    replace hb : Below w.heap.size w w4 := Below.trans (by (repeat (first | exact Below.refl _ _ | assumption | refine Below.drew ?_ | refine below_drewN ?_ _ | refine Below.setCell ?_ (by first | omega | (simp <;> omega)) _ | refine Below.alloc ?_ (by have := hb.size; first | omega | (simp <;> omega)) _))) (hx.mono (by have := hb.size; first | omega | (simp <;> omega)))
    clear hx
    clear m0 m1 mf0 mf1 mz
    go_wp2_with fail
    refine (hC1 _ (by (have hbs := hb.size; repeat (first | exact Below.refl _ _ | assumption | refine Below.drew ?_ | refine below_drewN ?_ _ | refine Below.setCell ?_ (by first | omega | (simp <;> omega)) _ | refine Below.alloc ?_ (by first | omega | (simp <;> omega)) _)))).mono ?_
    rintro e w5 ⟨rfl, hx⟩
    try clear c0_O10 c1_O10 f0_O10 f1_O10 z_O10
    first | replace O10 := O10.below hx | replace O10 := (O10.alloc _).below hx | replace O10 := ((O10.alloc _).alloc _).below hx | replace O10 := (((O10.alloc _).alloc _).alloc _).below hx | replace O10 := (O10.set2 _ _).below hx | replace O10 := ((O10.setCell (by simp <;> omega) _).setCell (by simp <;> omega) _).below hx
    obtain ⟨c0_O10, c1_O10, f0_O10, f1_O10, z_O10⟩ := O10.two
    try clear c0_O11 c1_O11 f0_O11 f1_O11 z_O11
    first | replace O11 := O11.below hx | replace O11 := (O11.alloc _).below hx | replace O11 := ((O11.alloc _).alloc _).below hx | replace O11 := (((O11.alloc _).alloc _).alloc _).below hx | replace O11 := (O11.set2 _ _).below hx | replace O11 := ((O11.setCell (by simp <;> omega) _).setCell (by simp <;> omega) _).below hx
    obtain ⟨c0_O11, c1_O11, f0_O11, f1_O11, z_O11⟩ := O11.two
    try clear c0_o12 c1_o12 f0_o12 f1_o12 z_o12
    first | have o12 := (Own.new w4 _ _).below hx | have o12 := ((Own.new w4 _ _).alloc _).below hx | have o12 := (((Own.new w4 _ _).alloc _).alloc _).below hx | have o12 := ((((Own.new w4 _ _).alloc _).alloc _).alloc _).below hx | have o12 := ((Own.new w4 _ _).set2 _ _).below hx | have o12 := (((Own.new w4 _ _).setCell (by simp <;> omega) _).setCell (by simp <;> omega) _).below hx
    obtain ⟨c0_o12, c1_o12, f0_o12, f1_o12, z_o12⟩ := o12.two
    replace hb : Below w.heap.size w w5 := Below.trans (by (repeat (first | exact Below.refl _ _ | assumption | refine Below.drew ?_ | refine below_drewN ?_ _ | refine Below.setCell ?_ (by first | omega | (simp <;> omega)) _ | refine Below.alloc ?_ (by have := hb.size; first | omega | (simp <;> omega)) _))) (hx.mono (by have := hb.size; first | omega | (simp <;> omega)))
    clear hx
    go_wp2_with fail
    refine (hC2 _ (by (have hbs := hb.size; repeat (first | exact Below.refl _ _ | assumption | refine Below.drew ?_ | refine below_drewN ?_ _ | refine Below.setCell ?_ (by first | omega | (simp <;> omega)) _ | refine Below.alloc ?_ (by first | omega | (simp <;> omega)) _)))).mono ?_
    rintro e w6 ⟨rfl, hx⟩
    try clear c0_O10 c1_O10 f0_O10 f1_O10 z_O10
    first | replace O10 := O10.below hx | replace O10 := (O10.alloc _).below hx | replace O10 := ((O10.alloc _).alloc _).below hx | replace O10 := (((O10.alloc _).alloc _).alloc _).below hx | replace O10 := (O10.set2 _ _).below hx | replace O10 := ((O10.setCell (by simp <;> omega) _).setCell (by simp <;> omega) _).below hx
    obtain ⟨c0_O10, c1_O10, f0_O10, f1_O10, z_O10⟩ := O10.two
    try clear c0_O11 c1_O11 f0_O11 f1_O11 z_O11
    first | replace O11 := O11.below hx | replace O11 := (O11.alloc _).below hx | replace O11 := ((O11.alloc _).alloc _).below hx | replace O11 := (((O11.alloc _).alloc _).alloc _).below hx | replace O11 := (O11.set2 _ _).below hx | replace O11 := ((O11.setCell (by simp <;> omega) _).setCell (by simp <;> omega) _).below hx
    obtain ⟨c0_O11, c1_O11, f0_O11, f1_O11, z_O11⟩ := O11.two
    try clear c0_o12 c1_o12 f0_o12 f1_o12 z_o12
    first | replace o12 := o12.below hx | replace o12 := (o12.alloc _).below hx | replace o12 := ((o12.alloc _).alloc _).below hx | replace o12 := (((o12.alloc _).alloc _).alloc _).below hx | replace o12 := (o12.set2 _ _).below hx | replace o12 := ((o12.setCell (by simp <;> omega) _).setCell (by simp <;> omega) _).below hx
    obtain ⟨c0_o12, c1_o12, f0_o12, f1_o12, z_o12⟩ := o12.two
    try clear c0_o14 c1_o14 f0_o14 f1_o14 z_o14
    first | have o14 := (Own.new w5 _ _).below hx | have o14 := ((Own.new w5 _ _).alloc _).below hx | have o14 := (((Own.new w5 _ _).alloc _).alloc _).below hx | have o14 := ((((Own.new w5 _ _).alloc _).alloc _).alloc _).below hx | have o14 := ((Own.new w5 _ _).set2 _ _).below hx | have o14 := (((Own.new w5 _ _).setCell (by simp <;> omega) _).setCell (by simp <;> omega) _).below hx
    obtain ⟨c0_o14, c1_o14, f0_o14, f1_o14, z_o14⟩ := o14.two
    replace hb : Below w.heap.size w w6 := Below.trans (by (repeat (first | exact Below.refl _ _ | assumption | refine Below.drew ?_ | refine below_drewN ?_ _ | refine Below.setCell ?_ (by first | omega | (simp <;> omega)) _ | refine Below.alloc ?_ (by have := hb.size; first | omega | (simp <;> omega)) _))) (hx.mono (by have := hb.size; first | omega | (simp <;> omega)))
    clear hx
    clear hC0 hC1 hC2
    go_wp2_with (go_at_call 22; refine (rAmount_at _ _ HW.out).mono ?_; rintro e w' ⟨rfl, rfl⟩)
    go_ret
    exact Ret.mk (by first | rfl | simp) (by (have hbs := hb.size; repeat (first | exact Below.refl _ _ | assumption | refine Below.drew ?_ | refine below_drewN ?_ _ | refine Below.setCell ?_ (by first | omega | (simp <;> omega)) _ | refine Below.alloc ?_ (by first | omega | (simp <;> omega)) _)))
  · obtain ⟨⟨hA, hB⟩, hx2⟩ := two_own w1 (.int .i64 c) (.int .i64 k) 24
    have o10 := hB
    have o11 := hA
    clear hA hB c0_oM c1_oM f0_oM f1_oM z_oM
    replace oM := oM.below hx2
    replace hb := hb.trans (hx2.mono hb.size)
    clear hx2
    obtain ⟨b10, hb10⟩ : ∃ b10, b10 = w1.heap.size + 1 := ⟨_, rfl⟩
    obtain ⟨b11, hb11⟩ : ∃ b11, b11 = w1.heap.size := ⟨_, rfl⟩
    have hne : b10 ≠ b11 := by omega
    have hlo : w.heap.size < b10 ∧ w.heap.size < b11 := by have := z0; omega
    rw [← hb10] at o10 ⊢
    rw [← hb11] at o11 ⊢
    generalize ((w1.alloc (.cells #[.int .i64 c, .int .i64 k] 24)).alloc (.cells #[.int .i64 c, .int .i64 k] 24)).drew = w2 at *
    clear hb10 hb11
    obtain ⟨m0, m1, mf0, mf1, mz⟩ := oM.two
    obtain ⟨x0, x1, xf0, xf1, xz⟩ := o10.two
    obtain ⟨y0, y1, yf0, yf1, yz⟩ := o11.two
    have O10 : Own ((w2.setCell ⟨b10, 0, none⟩ (.int .i64 (c + e0))).setCell ⟨b11, 0, none⟩ (.int .i64 (-c))) b10 [.int .i64 (c + e0), .int .i64 k] := (mset2 o10 _).setCell (p := ⟨b11, 0, none⟩) (fun h => hne h.symm) _
    have O11 : Own ((w2.setCell ⟨b10, 0, none⟩ (.int .i64 (c + e0))).setCell ⟨b11, 0, none⟩ (.int .i64 (-c))) b11 [.int .i64 (-c), .int .i64 k] := mset2 (o11.setCell (p := ⟨b10, 0, none⟩) hne _) _
    have OM : Own ((w2.setCell ⟨b10, 0, none⟩ (.int .i64 (c + e0))).setCell ⟨b11, 0, none⟩ (.int .i64 (-c))) w.heap.size [.int .i64 c, .int .i64 k] := (oM.setCell (p := ⟨b10, 0, none⟩) (fun h => by simp at h; omega) _).setCell (p := ⟨b11, 0, none⟩) (fun h => by simp at h; omega) _
    have hb3 : Below w.heap.size w ((w2.setCell ⟨b10, 0, none⟩ (.int .i64 (c + e0))).setCell ⟨b11, 0, none⟩ (.int .i64 (-c))) := (hb.setCell (p := ⟨b10, 0, none⟩) (by simp; omega) _).setCell (p := ⟨b11, 0, none⟩) (by simp; omega) _
    have hne2 : (b11 = b10) = False := by simp; exact fun h => hne h.symm
    go_wp2_with fail
    refine (rAmount_at _ _ HC.out).mono ?_
    rintro e w' ⟨rfl, hw3⟩
    rw [hw3] at O10 O11 OM hb3
    clear hw3 o10 o11 oM hb m0 m1 mf0 mf1 mz x0 x1 xf0 xf1 xz y0 y1 yf0 yf1 yz
    have hb := hb3
    clear hb3
    obtain ⟨m0, m1, mf0, mf1, mz⟩ := OM.two
    go_wp2_with fail
    refine (hC0 _ hb).mono ?_
    rintro e w4 ⟨rfl, hx⟩
    try clear c0_O10 c1_O10 f0_O10 f1_O10 z_O10
    first | replace O10 := O10.below hx | replace O10 := (O10.alloc _).below hx | replace O10 := ((O10.alloc _).alloc _).below hx | replace O10 := (((O10.alloc _).alloc _).alloc _).below hx | replace O10 := (O10.set2 _ _).below hx | replace O10 := ((O10.setCell (by simp <;> omega) _).setCell (by simp <;> omega) _).below hx
    obtain ⟨c0_O10, c1_O10, f0_O10, f1_O10, z_O10⟩ := O10.two
    try clear c0_O11 c1_O11 f0_O11 f1_O11 z_O11
    first | replace O11 := O11.below hx | replace O11 := (O11.alloc _).below hx | replace O11 := ((O11.alloc _).alloc _).below hx | replace O11 := (((O11.alloc _).alloc _).alloc _).below hx | replace O11 := (O11.set2 _ _).below hx | replace O11 := ((O11.setCell (by simp <;> omega) _).setCell (by simp <;> omega) _).below hx
    obtain ⟨c0_O11, c1_O11, f0_O11, f1_O11, z_O11⟩ := O11.two
    replace hb : Below w.heap.size w w4 := Below.trans (by (repeat (first | exact Below.refl _ _ | assumption | refine Below.drew ?_ | refine below_drewN ?_ _ | refine Below.setCell ?_ (by first | omega | (simp <;> omega)) _ | refine Below.alloc ?_ (by have := hb.size; first | omega | (simp <;> omega)) _))) (hx.mono (by have := hb.size; first | omega | (simp <;> omega)))
    clear hx
    clear m0 m1 mf0 mf1 mz
    go_wp2_with fail
    refine (hC1 _ (by (have hbs := hb.size; repeat (first | exact Below.refl _ _ | assumption | refine Below.drew ?_ | refine below_drewN ?_ _ | refine Below.setCell ?_ (by first | omega | (simp <;> omega)) _ | refine Below.alloc ?_ (by first | omega | (simp <;> omega)) _)))).mono ?_
    rintro e w5 ⟨rfl, hx⟩
    try clear c0_O10 c1_O10 f0_O10 f1_O10 z_O10
    first | replace O10 := O10.below hx | replace O10 := (O10.alloc _).below hx | replace O10 := ((O10.alloc _).alloc _).below hx | replace O10 := (((O10.alloc _).alloc _).alloc _).below hx | replace O10 := (O10.set2 _ _).below hx | replace O10 := ((O10.setCell (by simp <;> omega) _).setCell (by simp <;> omega) _).below hx
    obtain ⟨c0_O10, c1_O10, f0_O10, f1_O10, z_O10⟩ := O10.two
    try clear c0_O11 c1_O11 f0_O11 f1_O11 z_O11
    first | replace O11 := O11.below hx | replace O11 := (O11.alloc _).below hx | replace O11 := ((O11.alloc _).alloc _).below hx | replace O11 := (((O11.alloc _).alloc _).alloc _).below hx | replace O11 := (O11.set2 _ _).below hx | replace O11 := ((O11.setCell (by simp <;> omega) _).setCell (by simp <;> omega) _).below hx
    obtain ⟨c0_O11, c1_O11, f0_O11, f1_O11, z_O11⟩ := O11.two
    try clear c0_o12 c1_o12 f0_o12 f1_o12 z_o12
    first | have o12 := (Own.new w4 _ _).below hx | have o12 := ((Own.new w4 _ _).alloc _).below hx | have o12 := (((Own.new w4 _ _).alloc _).alloc _).below hx | have o12 := ((((Own.new w4 _ _).alloc _).alloc _).alloc _).below hx | have o12 := ((Own.new w4 _ _).set2 _ _).below hx | have o12 := (((Own.new w4 _ _).setCell (by simp <;> omega) _).setCell (by simp <;> omega) _).below hx
    obtain ⟨c0_o12, c1_o12, f0_o12, f1_o12, z_o12⟩ := o12.two
    replace hb : Below w.heap.size w w5 := Below.trans (by (repeat (first | exact Below.refl _ _ | assumption | refine Below.drew ?_ | refine below_drewN ?_ _ | refine Below.setCell ?_ (by first | omega | (simp <;> omega)) _ | refine Below.alloc ?_ (by have := hb.size; first | omega | (simp <;> omega)) _))) (hx.mono (by have := hb.size; first | omega | (simp <;> omega)))
    clear hx
    go_wp2_with fail
    refine (hC2 _ (by (have hbs := hb.size; repeat (first | exact Below.refl _ _ | assumption | refine Below.drew ?_ | refine below_drewN ?_ _ | refine Below.setCell ?_ (by first | omega | (simp <;> omega)) _ | refine Below.alloc ?_ (by first | omega | (simp <;> omega)) _)))).mono ?_
    rintro e w6 ⟨rfl, hx⟩
    try clear c0_O10 c1_O10 f0_O10 f1_O10 z_O10
    first | replace O10 := O10.below hx | replace O10 := (O10.alloc _).below hx | replace O10 := ((O10.alloc _).alloc _).below hx | replace O10 := (((O10.alloc _).alloc _).alloc _).below hx | replace O10 := (O10.set2 _ _).below hx | replace O10 := ((O10.setCell (by simp <;> omega) _).setCell (by simp <;> omega) _).below hx
    obtain ⟨c0_O10, c1_O10, f0_O10, f1_O10, z_O10⟩ := O10.two
    try clear c0_O11 c1_O11 f0_O11 f1_O11 z_O11
    first | replace O11 := O11.below hx | replace O11 := (O11.alloc _).below hx | replace O11 := ((O11.alloc _).alloc _).below hx | replace O11 := (((O11.alloc _).alloc _).alloc _).below hx | replace O11 := (O11.set2 _ _).below hx | replace O11 := ((O11.setCell (by simp <;> omega) _).setCell (by simp <;> omega) _).below hx
    obtain ⟨c0_O11, c1_O11, f0_O11, f1_O11, z_O11⟩ := O11.two
    try clear c0_o12 c1_o12 f0_o12 f1_o12 z_o12
    first | replace o12 := o12.below hx | replace o12 := (o12.alloc _).below hx | replace o12 := ((o12.alloc _).alloc _).below hx | replace o12 := (((o12.alloc _).alloc _).alloc _).below hx | replace o12 := (o12.set2 _ _).below hx | replace o12 := ((o12.setCell (by simp <;> omega) _).setCell (by simp <;> omega) _).below hx
    obtain ⟨c0_o12, c1_o12, f0_o12, f1_o12, z_o12⟩ := o12.two
    try clear c0_o14 c1_o14 f0_o14 f1_o14 z_o14
    first | have o14 := (Own.new w5 _ _).below hx | have o14 := ((Own.new w5 _ _).alloc _).below hx | have o14 := (((Own.new w5 _ _).alloc _).alloc _).below hx | have o14 := ((((Own.new w5 _ _).alloc _).alloc _).alloc _).below hx | have o14 := ((Own.new w5 _ _).set2 _ _).below hx | have o14 := (((Own.new w5 _ _).setCell (by simp <;> omega) _).setCell (by simp <;> omega) _).below hx
    obtain ⟨c0_o14, c1_o14, f0_o14, f1_o14, z_o14⟩ := o14.two
    replace hb : Below w.heap.size w w6 := Below.trans (by (repeat (first | exact Below.refl _ _ | assumption | refine Below.drew ?_ | refine below_drewN ?_ _ | refine Below.setCell ?_ (by first | omega | (simp <;> omega)) _ | refine Below.alloc ?_ (by have := hb.size; first | omega | (simp <;> omega)) _))) (hx.mono (by have := hb.size; first | omega | (simp <;> omega)))
    clear hx
    clear hC0 hC1 hC2
    go_wp2_with (go_at_call 22; refine (rAmount_at _ _ HW.out).mono ?_; rintro e w' ⟨rfl, rfl⟩)
    go_ret
    exact Ret.mk (by first | rfl | simp) (by (have hbs := hb.size; repeat (first | exact Below.refl _ _ | assumption | refine Below.drew ?_ | refine below_drewN ?_ _ | refine Below.setCell ?_ (by first | omega | (simp <;> omega)) _ | refine Below.alloc ?_ (by first | omega | (simp <;> omega)) _)))

set_option maxHeartbeats 4000000 in
theorem walkO_rng (v : Value) (l : List Ex) (c k e0 to : Int) (w : World) (hL : Lay w) (hX : Exs w v l) (he0 : 0 ≤ e0 ∧ e0 ≤ 4294967295) (hl : ¬ 40 < l.length) (hc : wthB c 1000000000 = true) (p q : Int) (hp : convF l c k to = ((p, q), 0)) (hy : convF l (c + e0) k to = ((0, 0), 3)) : Calls Tryd.prog 5 #[v, .agg #[.int .i64 c, .int .i64 k], .int .u32 e0, .int .i64 to] w (Ret (.bool true) w) := by
  have hH : ∀ wk, Below w.heap.size w wk → Calls Tryd.prog 9 #[] wk (Ret (.bool true) wk) := fun wk h => mhead_any wk (hL.below h)
  have hb : Below w.heap.size w w := Below.refl _ _
  have hxl := hX.short
  have hC0 : ∀ wk, Below w.heap.size w wk → Calls Tryd.prog 10 #[v, .agg #[.int .i64 c, .int .i64 k], .int .i64 to] wk (Ret (.tuple #[.agg #[.int .i64 p, .int .i64 q], .int .i64 0]) wk) := fun wk h => by
    have := convert_any v l c k to wk (hX.below h); rw [hp] at this; exact this
  have hn : convF l (-c) k to = ((-p, q), 0) := by rw [conv_neg, hp]
  have hC2 : ∀ wk, Below w.heap.size w wk → Calls Tryd.prog 10 #[v, .agg #[.int .i64 (-c), .int .i64 k], .int .i64 to] wk (Ret (.tuple #[.agg #[.int .i64 (-p), .int .i64 q], .int .i64 0]) wk) := fun wk h => by
    have := convert_any v l (-c) k to wk (hX.below h); rw [hn] at this; exact this
  have hpb := conv_ok_bd hp
  have hC1 : ∀ wk, Below w.heap.size w wk → Calls Tryd.prog 10 #[v, .agg #[.int .i64 (c + e0), .int .i64 k], .int .i64 to] wk (Ret (.tuple #[.agg #[.int .i64 0, .int .i64 0], .int .i64 3]) wk) := fun wk h => by
    have := convert_any v l (c + e0) k to wk (hX.below h); rw [hy] at this; exact this
  obtain ⟨ad, cap, hsl, _⟩ := hX.open
  subst hsl
  have q0 : decide (40 < (l.length : Int)) = false := by rw [decide_eq_false_iff_not]; omega
  have hc1 : -1000000000 ≤ c ∧ c ≤ 1000000000 := by simpa [wthB] using hc
  have HC := Lib.hid hc
  clear hc hp hn hy hX hL
  go_enter Tryd.func5, Tryd.ntmps5
  go_wp2_with fail
  refine (hH _ (by (have hbs := hb.size; repeat (first | exact Below.refl _ _ | assumption | refine Below.drew ?_ | refine below_drewN ?_ _ | refine Below.setCell ?_ (by first | omega | (simp <;> omega)) _ | refine Below.alloc ?_ (by first | omega | (simp <;> omega)) _)))).mono ?_
  rintro e w1 ⟨rfl, hx⟩
  try clear c0_oM c1_oM f0_oM f1_oM z_oM
  first | have oM := (Own.new w _ _).below hx | have oM := ((Own.new w _ _).alloc _).below hx | have oM := (((Own.new w _ _).alloc _).alloc _).below hx | have oM := ((((Own.new w _ _).alloc _).alloc _).alloc _).below hx | have oM := ((Own.new w _ _).set2 _ _).below hx | have oM := (((Own.new w _ _).setCell (by simp <;> omega) _).setCell (by simp <;> omega) _).below hx
  obtain ⟨c0_oM, c1_oM, f0_oM, f1_oM, z_oM⟩ := oM.two
  replace hb : Below w.heap.size w w1 := Below.trans (by (repeat (first | exact Below.refl _ _ | assumption | refine Below.drew ?_ | refine below_drewN ?_ _ | refine Below.setCell ?_ (by first | omega | (simp <;> omega)) _ | refine Below.alloc ?_ (by have := hb.size; first | omega | (simp <;> omega)) _))) (hx.mono (by have := hb.size; first | omega | (simp <;> omega)))
  clear hx
  clear hH
  go_wp2_with fail
  have z0 := z_oM
  have z1 := hb.size
  go_region
  · obtain ⟨⟨hA, hB⟩, hx2⟩ := two_own w1 (.int .i64 c) (.int .i64 k) 24
    have o10 := hA
    have o11 := hB
    clear hA hB c0_oM c1_oM f0_oM f1_oM z_oM
    replace oM := oM.below hx2
    replace hb := hb.trans (hx2.mono hb.size)
    clear hx2
    obtain ⟨b10, hb10⟩ : ∃ b10, b10 = w1.heap.size := ⟨_, rfl⟩
    obtain ⟨b11, hb11⟩ : ∃ b11, b11 = w1.heap.size + 1 := ⟨_, rfl⟩
    have hne : b10 ≠ b11 := by omega
    have hlo : w.heap.size < b10 ∧ w.heap.size < b11 := by have := z0; omega
    rw [← hb11] at o11 ⊢
    rw [← hb10] at o10 ⊢
    generalize ((w1.alloc (.cells #[.int .i64 c, .int .i64 k] 24)).alloc (.cells #[.int .i64 c, .int .i64 k] 24)).drew = w2 at *
    clear hb10 hb11
    obtain ⟨m0, m1, mf0, mf1, mz⟩ := oM.two
    obtain ⟨x0, x1, xf0, xf1, xz⟩ := o10.two
    obtain ⟨y0, y1, yf0, yf1, yz⟩ := o11.two
    have O10 : Own ((w2.setCell ⟨b10, 0, none⟩ (.int .i64 (c + e0))).setCell ⟨b11, 0, none⟩ (.int .i64 (-c))) b10 [.int .i64 (c + e0), .int .i64 k] := (mset2 o10 _).setCell (p := ⟨b11, 0, none⟩) (fun h => hne h.symm) _
    have O11 : Own ((w2.setCell ⟨b10, 0, none⟩ (.int .i64 (c + e0))).setCell ⟨b11, 0, none⟩ (.int .i64 (-c))) b11 [.int .i64 (-c), .int .i64 k] := mset2 (o11.setCell (p := ⟨b10, 0, none⟩) hne _) _
    have OM : Own ((w2.setCell ⟨b10, 0, none⟩ (.int .i64 (c + e0))).setCell ⟨b11, 0, none⟩ (.int .i64 (-c))) w.heap.size [.int .i64 c, .int .i64 k] := (oM.setCell (p := ⟨b10, 0, none⟩) (fun h => by simp at h; omega) _).setCell (p := ⟨b11, 0, none⟩) (fun h => by simp at h; omega) _
    have hb3 : Below w.heap.size w ((w2.setCell ⟨b10, 0, none⟩ (.int .i64 (c + e0))).setCell ⟨b11, 0, none⟩ (.int .i64 (-c))) := (hb.setCell (p := ⟨b10, 0, none⟩) (by simp; omega) _).setCell (p := ⟨b11, 0, none⟩) (by simp; omega) _
    have hne2 : (b11 = b10) = False := by simp; exact fun h => hne h.symm
    go_wp2_with fail
    refine (rAmount_at _ _ HC.out).mono ?_
    rintro e w' ⟨rfl, hw3⟩
    rw [hw3] at O10 O11 OM hb3
    clear hw3 o10 o11 oM hb m0 m1 mf0 mf1 mz x0 x1 xf0 xf1 xz y0 y1 yf0 yf1 yz
    have hb := hb3
    clear hb3
    obtain ⟨m0, m1, mf0, mf1, mz⟩ := OM.two
    go_wp2_with fail
    refine (hC0 _ hb).mono ?_
    rintro e w4 ⟨rfl, hx⟩
    try clear c0_O10 c1_O10 f0_O10 f1_O10 z_O10
    first | replace O10 := O10.below hx | replace O10 := (O10.alloc _).below hx | replace O10 := ((O10.alloc _).alloc _).below hx | replace O10 := (((O10.alloc _).alloc _).alloc _).below hx | replace O10 := (O10.set2 _ _).below hx | replace O10 := ((O10.setCell (by simp <;> omega) _).setCell (by simp <;> omega) _).below hx
    obtain ⟨c0_O10, c1_O10, f0_O10, f1_O10, z_O10⟩ := O10.two
    try clear c0_O11 c1_O11 f0_O11 f1_O11 z_O11
    first | replace O11 := O11.below hx | replace O11 := (O11.alloc _).below hx | replace O11 := ((O11.alloc _).alloc _).below hx | replace O11 := (((O11.alloc _).alloc _).alloc _).below hx | replace O11 := (O11.set2 _ _).below hx | replace O11 := ((O11.setCell (by simp <;> omega) _).setCell (by simp <;> omega) _).below hx
    obtain ⟨c0_O11, c1_O11, f0_O11, f1_O11, z_O11⟩ := O11.two
    replace hb : Below w.heap.size w w4 := Below.trans (by (repeat (first | exact Below.refl _ _ | assumption | refine Below.drew ?_ | refine below_drewN ?_ _ | refine Below.setCell ?_ (by first | omega | (simp <;> omega)) _ | refine Below.alloc ?_ (by have := hb.size; first | omega | (simp <;> omega)) _))) (hx.mono (by have := hb.size; first | omega | (simp <;> omega)))
    clear hx
    clear m0 m1 mf0 mf1 mz
    go_wp2_with fail
    refine (hC1 _ (by (have hbs := hb.size; repeat (first | exact Below.refl _ _ | assumption | refine Below.drew ?_ | refine below_drewN ?_ _ | refine Below.setCell ?_ (by first | omega | (simp <;> omega)) _ | refine Below.alloc ?_ (by first | omega | (simp <;> omega)) _)))).mono ?_
    rintro e w5 ⟨rfl, hx⟩
    try clear c0_O10 c1_O10 f0_O10 f1_O10 z_O10
    first | replace O10 := O10.below hx | replace O10 := (O10.alloc _).below hx | replace O10 := ((O10.alloc _).alloc _).below hx | replace O10 := (((O10.alloc _).alloc _).alloc _).below hx | replace O10 := (O10.set2 _ _).below hx | replace O10 := ((O10.setCell (by simp <;> omega) _).setCell (by simp <;> omega) _).below hx
    obtain ⟨c0_O10, c1_O10, f0_O10, f1_O10, z_O10⟩ := O10.two
    try clear c0_O11 c1_O11 f0_O11 f1_O11 z_O11
    first | replace O11 := O11.below hx | replace O11 := (O11.alloc _).below hx | replace O11 := ((O11.alloc _).alloc _).below hx | replace O11 := (((O11.alloc _).alloc _).alloc _).below hx | replace O11 := (O11.set2 _ _).below hx | replace O11 := ((O11.setCell (by simp <;> omega) _).setCell (by simp <;> omega) _).below hx
    obtain ⟨c0_O11, c1_O11, f0_O11, f1_O11, z_O11⟩ := O11.two
    try clear c0_o12 c1_o12 f0_o12 f1_o12 z_o12
    first | have o12 := (Own.new w4 _ _).below hx | have o12 := ((Own.new w4 _ _).alloc _).below hx | have o12 := (((Own.new w4 _ _).alloc _).alloc _).below hx | have o12 := ((((Own.new w4 _ _).alloc _).alloc _).alloc _).below hx | have o12 := ((Own.new w4 _ _).set2 _ _).below hx | have o12 := (((Own.new w4 _ _).setCell (by simp <;> omega) _).setCell (by simp <;> omega) _).below hx
    obtain ⟨c0_o12, c1_o12, f0_o12, f1_o12, z_o12⟩ := o12.two
    replace hb : Below w.heap.size w w5 := Below.trans (by (repeat (first | exact Below.refl _ _ | assumption | refine Below.drew ?_ | refine below_drewN ?_ _ | refine Below.setCell ?_ (by first | omega | (simp <;> omega)) _ | refine Below.alloc ?_ (by have := hb.size; first | omega | (simp <;> omega)) _))) (hx.mono (by have := hb.size; first | omega | (simp <;> omega)))
    clear hx
    go_wp2_with fail
    refine (hC2 _ (by (have hbs := hb.size; repeat (first | exact Below.refl _ _ | assumption | refine Below.drew ?_ | refine below_drewN ?_ _ | refine Below.setCell ?_ (by first | omega | (simp <;> omega)) _ | refine Below.alloc ?_ (by first | omega | (simp <;> omega)) _)))).mono ?_
    rintro e w6 ⟨rfl, hx⟩
    try clear c0_O10 c1_O10 f0_O10 f1_O10 z_O10
    first | replace O10 := O10.below hx | replace O10 := (O10.alloc _).below hx | replace O10 := ((O10.alloc _).alloc _).below hx | replace O10 := (((O10.alloc _).alloc _).alloc _).below hx | replace O10 := (O10.set2 _ _).below hx | replace O10 := ((O10.setCell (by simp <;> omega) _).setCell (by simp <;> omega) _).below hx
    obtain ⟨c0_O10, c1_O10, f0_O10, f1_O10, z_O10⟩ := O10.two
    try clear c0_O11 c1_O11 f0_O11 f1_O11 z_O11
    first | replace O11 := O11.below hx | replace O11 := (O11.alloc _).below hx | replace O11 := ((O11.alloc _).alloc _).below hx | replace O11 := (((O11.alloc _).alloc _).alloc _).below hx | replace O11 := (O11.set2 _ _).below hx | replace O11 := ((O11.setCell (by simp <;> omega) _).setCell (by simp <;> omega) _).below hx
    obtain ⟨c0_O11, c1_O11, f0_O11, f1_O11, z_O11⟩ := O11.two
    try clear c0_o12 c1_o12 f0_o12 f1_o12 z_o12
    first | replace o12 := o12.below hx | replace o12 := (o12.alloc _).below hx | replace o12 := ((o12.alloc _).alloc _).below hx | replace o12 := (((o12.alloc _).alloc _).alloc _).below hx | replace o12 := (o12.set2 _ _).below hx | replace o12 := ((o12.setCell (by simp <;> omega) _).setCell (by simp <;> omega) _).below hx
    obtain ⟨c0_o12, c1_o12, f0_o12, f1_o12, z_o12⟩ := o12.two
    try clear c0_o14 c1_o14 f0_o14 f1_o14 z_o14
    first | have o14 := (Own.new w5 _ _).below hx | have o14 := ((Own.new w5 _ _).alloc _).below hx | have o14 := (((Own.new w5 _ _).alloc _).alloc _).below hx | have o14 := ((((Own.new w5 _ _).alloc _).alloc _).alloc _).below hx | have o14 := ((Own.new w5 _ _).set2 _ _).below hx | have o14 := (((Own.new w5 _ _).setCell (by simp <;> omega) _).setCell (by simp <;> omega) _).below hx
    obtain ⟨c0_o14, c1_o14, f0_o14, f1_o14, z_o14⟩ := o14.two
    replace hb : Below w.heap.size w w6 := Below.trans (by (repeat (first | exact Below.refl _ _ | assumption | refine Below.drew ?_ | refine below_drewN ?_ _ | refine Below.setCell ?_ (by first | omega | (simp <;> omega)) _ | refine Below.alloc ?_ (by have := hb.size; first | omega | (simp <;> omega)) _))) (hx.mono (by have := hb.size; first | omega | (simp <;> omega)))
    clear hx
    clear hC0 hC1 hC2
    go_wp2_with fail
    go_ret
    exact Ret.mk (by first | rfl | simp) (by (have hbs := hb.size; repeat (first | exact Below.refl _ _ | assumption | refine Below.drew ?_ | refine below_drewN ?_ _ | refine Below.setCell ?_ (by first | omega | (simp <;> omega)) _ | refine Below.alloc ?_ (by first | omega | (simp <;> omega)) _)))
  · obtain ⟨⟨hA, hB⟩, hx2⟩ := two_own w1 (.int .i64 c) (.int .i64 k) 24
    have o10 := hB
    have o11 := hA
    clear hA hB c0_oM c1_oM f0_oM f1_oM z_oM
    replace oM := oM.below hx2
    replace hb := hb.trans (hx2.mono hb.size)
    clear hx2
    obtain ⟨b10, hb10⟩ : ∃ b10, b10 = w1.heap.size + 1 := ⟨_, rfl⟩
    obtain ⟨b11, hb11⟩ : ∃ b11, b11 = w1.heap.size := ⟨_, rfl⟩
    have hne : b10 ≠ b11 := by omega
    have hlo : w.heap.size < b10 ∧ w.heap.size < b11 := by have := z0; omega
    rw [← hb10] at o10 ⊢
    rw [← hb11] at o11 ⊢
    generalize ((w1.alloc (.cells #[.int .i64 c, .int .i64 k] 24)).alloc (.cells #[.int .i64 c, .int .i64 k] 24)).drew = w2 at *
    clear hb10 hb11
    obtain ⟨m0, m1, mf0, mf1, mz⟩ := oM.two
    obtain ⟨x0, x1, xf0, xf1, xz⟩ := o10.two
    obtain ⟨y0, y1, yf0, yf1, yz⟩ := o11.two
    have O10 : Own ((w2.setCell ⟨b10, 0, none⟩ (.int .i64 (c + e0))).setCell ⟨b11, 0, none⟩ (.int .i64 (-c))) b10 [.int .i64 (c + e0), .int .i64 k] := (mset2 o10 _).setCell (p := ⟨b11, 0, none⟩) (fun h => hne h.symm) _
    have O11 : Own ((w2.setCell ⟨b10, 0, none⟩ (.int .i64 (c + e0))).setCell ⟨b11, 0, none⟩ (.int .i64 (-c))) b11 [.int .i64 (-c), .int .i64 k] := mset2 (o11.setCell (p := ⟨b10, 0, none⟩) hne _) _
    have OM : Own ((w2.setCell ⟨b10, 0, none⟩ (.int .i64 (c + e0))).setCell ⟨b11, 0, none⟩ (.int .i64 (-c))) w.heap.size [.int .i64 c, .int .i64 k] := (oM.setCell (p := ⟨b10, 0, none⟩) (fun h => by simp at h; omega) _).setCell (p := ⟨b11, 0, none⟩) (fun h => by simp at h; omega) _
    have hb3 : Below w.heap.size w ((w2.setCell ⟨b10, 0, none⟩ (.int .i64 (c + e0))).setCell ⟨b11, 0, none⟩ (.int .i64 (-c))) := (hb.setCell (p := ⟨b10, 0, none⟩) (by simp; omega) _).setCell (p := ⟨b11, 0, none⟩) (by simp; omega) _
    have hne2 : (b11 = b10) = False := by simp; exact fun h => hne h.symm
    go_wp2_with fail
    refine (rAmount_at _ _ HC.out).mono ?_
    rintro e w' ⟨rfl, hw3⟩
    rw [hw3] at O10 O11 OM hb3
    clear hw3 o10 o11 oM hb m0 m1 mf0 mf1 mz x0 x1 xf0 xf1 xz y0 y1 yf0 yf1 yz
    have hb := hb3
    clear hb3
    obtain ⟨m0, m1, mf0, mf1, mz⟩ := OM.two
    go_wp2_with fail
    refine (hC0 _ hb).mono ?_
    rintro e w4 ⟨rfl, hx⟩
    try clear c0_O10 c1_O10 f0_O10 f1_O10 z_O10
    first | replace O10 := O10.below hx | replace O10 := (O10.alloc _).below hx | replace O10 := ((O10.alloc _).alloc _).below hx | replace O10 := (((O10.alloc _).alloc _).alloc _).below hx | replace O10 := (O10.set2 _ _).below hx | replace O10 := ((O10.setCell (by simp <;> omega) _).setCell (by simp <;> omega) _).below hx
    obtain ⟨c0_O10, c1_O10, f0_O10, f1_O10, z_O10⟩ := O10.two
    try clear c0_O11 c1_O11 f0_O11 f1_O11 z_O11
    first | replace O11 := O11.below hx | replace O11 := (O11.alloc _).below hx | replace O11 := ((O11.alloc _).alloc _).below hx | replace O11 := (((O11.alloc _).alloc _).alloc _).below hx | replace O11 := (O11.set2 _ _).below hx | replace O11 := ((O11.setCell (by simp <;> omega) _).setCell (by simp <;> omega) _).below hx
    obtain ⟨c0_O11, c1_O11, f0_O11, f1_O11, z_O11⟩ := O11.two
    replace hb : Below w.heap.size w w4 := Below.trans (by (repeat (first | exact Below.refl _ _ | assumption | refine Below.drew ?_ | refine below_drewN ?_ _ | refine Below.setCell ?_ (by first | omega | (simp <;> omega)) _ | refine Below.alloc ?_ (by have := hb.size; first | omega | (simp <;> omega)) _))) (hx.mono (by have := hb.size; first | omega | (simp <;> omega)))
    clear hx
    clear m0 m1 mf0 mf1 mz
    go_wp2_with fail
    refine (hC1 _ (by (have hbs := hb.size; repeat (first | exact Below.refl _ _ | assumption | refine Below.drew ?_ | refine below_drewN ?_ _ | refine Below.setCell ?_ (by first | omega | (simp <;> omega)) _ | refine Below.alloc ?_ (by first | omega | (simp <;> omega)) _)))).mono ?_
    rintro e w5 ⟨rfl, hx⟩
    try clear c0_O10 c1_O10 f0_O10 f1_O10 z_O10
    first | replace O10 := O10.below hx | replace O10 := (O10.alloc _).below hx | replace O10 := ((O10.alloc _).alloc _).below hx | replace O10 := (((O10.alloc _).alloc _).alloc _).below hx | replace O10 := (O10.set2 _ _).below hx | replace O10 := ((O10.setCell (by simp <;> omega) _).setCell (by simp <;> omega) _).below hx
    obtain ⟨c0_O10, c1_O10, f0_O10, f1_O10, z_O10⟩ := O10.two
    try clear c0_O11 c1_O11 f0_O11 f1_O11 z_O11
    first | replace O11 := O11.below hx | replace O11 := (O11.alloc _).below hx | replace O11 := ((O11.alloc _).alloc _).below hx | replace O11 := (((O11.alloc _).alloc _).alloc _).below hx | replace O11 := (O11.set2 _ _).below hx | replace O11 := ((O11.setCell (by simp <;> omega) _).setCell (by simp <;> omega) _).below hx
    obtain ⟨c0_O11, c1_O11, f0_O11, f1_O11, z_O11⟩ := O11.two
    try clear c0_o12 c1_o12 f0_o12 f1_o12 z_o12
    first | have o12 := (Own.new w4 _ _).below hx | have o12 := ((Own.new w4 _ _).alloc _).below hx | have o12 := (((Own.new w4 _ _).alloc _).alloc _).below hx | have o12 := ((((Own.new w4 _ _).alloc _).alloc _).alloc _).below hx | have o12 := ((Own.new w4 _ _).set2 _ _).below hx | have o12 := (((Own.new w4 _ _).setCell (by simp <;> omega) _).setCell (by simp <;> omega) _).below hx
    obtain ⟨c0_o12, c1_o12, f0_o12, f1_o12, z_o12⟩ := o12.two
    replace hb : Below w.heap.size w w5 := Below.trans (by (repeat (first | exact Below.refl _ _ | assumption | refine Below.drew ?_ | refine below_drewN ?_ _ | refine Below.setCell ?_ (by first | omega | (simp <;> omega)) _ | refine Below.alloc ?_ (by have := hb.size; first | omega | (simp <;> omega)) _))) (hx.mono (by have := hb.size; first | omega | (simp <;> omega)))
    clear hx
    go_wp2_with fail
    refine (hC2 _ (by (have hbs := hb.size; repeat (first | exact Below.refl _ _ | assumption | refine Below.drew ?_ | refine below_drewN ?_ _ | refine Below.setCell ?_ (by first | omega | (simp <;> omega)) _ | refine Below.alloc ?_ (by first | omega | (simp <;> omega)) _)))).mono ?_
    rintro e w6 ⟨rfl, hx⟩
    try clear c0_O10 c1_O10 f0_O10 f1_O10 z_O10
    first | replace O10 := O10.below hx | replace O10 := (O10.alloc _).below hx | replace O10 := ((O10.alloc _).alloc _).below hx | replace O10 := (((O10.alloc _).alloc _).alloc _).below hx | replace O10 := (O10.set2 _ _).below hx | replace O10 := ((O10.setCell (by simp <;> omega) _).setCell (by simp <;> omega) _).below hx
    obtain ⟨c0_O10, c1_O10, f0_O10, f1_O10, z_O10⟩ := O10.two
    try clear c0_O11 c1_O11 f0_O11 f1_O11 z_O11
    first | replace O11 := O11.below hx | replace O11 := (O11.alloc _).below hx | replace O11 := ((O11.alloc _).alloc _).below hx | replace O11 := (((O11.alloc _).alloc _).alloc _).below hx | replace O11 := (O11.set2 _ _).below hx | replace O11 := ((O11.setCell (by simp <;> omega) _).setCell (by simp <;> omega) _).below hx
    obtain ⟨c0_O11, c1_O11, f0_O11, f1_O11, z_O11⟩ := O11.two
    try clear c0_o12 c1_o12 f0_o12 f1_o12 z_o12
    first | replace o12 := o12.below hx | replace o12 := (o12.alloc _).below hx | replace o12 := ((o12.alloc _).alloc _).below hx | replace o12 := (((o12.alloc _).alloc _).alloc _).below hx | replace o12 := (o12.set2 _ _).below hx | replace o12 := ((o12.setCell (by simp <;> omega) _).setCell (by simp <;> omega) _).below hx
    obtain ⟨c0_o12, c1_o12, f0_o12, f1_o12, z_o12⟩ := o12.two
    try clear c0_o14 c1_o14 f0_o14 f1_o14 z_o14
    first | have o14 := (Own.new w5 _ _).below hx | have o14 := ((Own.new w5 _ _).alloc _).below hx | have o14 := (((Own.new w5 _ _).alloc _).alloc _).below hx | have o14 := ((((Own.new w5 _ _).alloc _).alloc _).alloc _).below hx | have o14 := ((Own.new w5 _ _).set2 _ _).below hx | have o14 := (((Own.new w5 _ _).setCell (by simp <;> omega) _).setCell (by simp <;> omega) _).below hx
    obtain ⟨c0_o14, c1_o14, f0_o14, f1_o14, z_o14⟩ := o14.two
    replace hb : Below w.heap.size w w6 := Below.trans (by (repeat (first | exact Below.refl _ _ | assumption | refine Below.drew ?_ | refine below_drewN ?_ _ | refine Below.setCell ?_ (by first | omega | (simp <;> omega)) _ | refine Below.alloc ?_ (by have := hb.size; first | omega | (simp <;> omega)) _))) (hx.mono (by have := hb.size; first | omega | (simp <;> omega)))
    clear hx
    clear hC0 hC1 hC2
    go_wp2_with fail
    go_ret
    exact Ret.mk (by first | rfl | simp) (by (have hbs := hb.size; repeat (first | exact Below.refl _ _ | assumption | refine Below.drew ?_ | refine below_drewN ?_ _ | refine Below.setCell ?_ (by first | omega | (simp <;> omega)) _ | refine Below.alloc ?_ (by first | omega | (simp <;> omega)) _)))

theorem walkMoneyOrder (v : Value) (l : List Ex) (c k e0 to : Int) (w : World) (hL : Lay w) (hX : Exs w v l) (he0 : 0 ≤ e0 ∧ e0 ≤ 4294967295) : Calls Tryd.prog 5 #[v, .agg #[.int .i64 c, .int .i64 k], .int .u32 e0, .int .i64 to] w (Ret (.bool true) w) := by
  by_cases hl : 40 < l.length
  · exact walkO_long v l c k e0 to w hL hX hl
  cases hc : wthB c 1000000000 with
  | false => exact walkO_amt v l c k e0 to w hL hX hl hc
  | true =>
  rcases conv_cases l c k to with ⟨e1, he, hp⟩ | ⟨_, _, hp⟩ | ⟨_, x, _, _, _, _, hp⟩
  · exact walkO_err v l c k e0 to w hL hX he0 hl hc e1 he hp
  · rcases conv_more l c (c + e0) k to (by omega) _ _ hp with ⟨y, hy, hge⟩ | ⟨hw, hy⟩ | hy
    · exact walkO_ok v l c k e0 to w hL hX he0 hl hc _ _ hp y hy hge
    · exact walkO_arg v l c k e0 to w hL hX he0 hl hc _ _ hp hw hy
    · exact walkO_rng v l c k e0 to w hL hX he0 hl hc _ _ hp hy
  · rcases conv_more l c (c + e0) k to (by omega) _ _ hp with ⟨y, hy, hge⟩ | ⟨hw, hy⟩ | hy
    · exact walkO_ok v l c k e0 to w hL hX he0 hl hc _ _ hp y hy hge
    · exact walkO_arg v l c k e0 to w hL hX he0 hl hc _ _ hp hw hy
    · exact walkO_rng v l c k e0 to w hL hX he0 hl hc _ _ hp hy
end Go.Proofs.YtnjaedbekogeaaaDoor
