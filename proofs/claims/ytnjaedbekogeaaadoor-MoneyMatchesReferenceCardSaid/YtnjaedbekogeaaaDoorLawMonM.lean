/-
  The walk of MoneyMatchesReference.
-/
import Derived.Test.YtnjaedbekogeaaaDoorMonHead
namespace Go.Proofs.YtnjaedbekogeaaaDoor
open Go.RowKit Go.Shelf
set_option maxRecDepth 100000

set_option maxHeartbeats 1000000 in
theorem walkM_a (v : Value) (l : List Ex) (c k to n : Int) (u : Value) (ws : List Int) (s : List UInt8) (w : World) (hL : Lay w) (hX : Exs w v l) (hI : Ints w u ws) (hl : 40 < l.length) : Calls Tryd.prog 3 #[v, .agg #[.int .i64 c, .int .i64 k], .int .i64 to, .int .i64 n, u, .string ⟨s.toArray⟩] w (Ret (.bool true) w) := by
  have hsz : (⟨s.toArray⟩ : ByteArray).size = s.length := by simp [ByteArray.size]
  have hxl := hX.short
  obtain ⟨ad, cap, hsl, _⟩ := hX.open
  subst hsl
  obtain ⟨ad2, cap2, hu, hwl, _⟩ := hI.at
  subst hu
  have q0 : decide (40 < (l.length : Int)) = true := by rw [decide_eq_true_iff]; omega
  have hb : Below w.heap.size w w := Below.refl _ _
  go_enter Tryd.func3, Tryd.ntmps3
  go_wp2_with fail
  refine (mhead_any _ (hL.below (by (have hbs := hb.size; repeat (first | exact Below.refl _ _ | assumption | refine Below.drew ?_ | refine below_drewN ?_ _ | refine Below.setCell ?_ (by first | omega | (simp <;> omega)) _ | refine Below.alloc ?_ (by first | omega | (simp <;> omega)) _))))).mono ?_
  rintro e w1 ⟨rfl, hx⟩
  try clear c0_oM c1_oM f0_oM f1_oM z_oM
  first | have oM := (Own.new w _ _).below hx | have oM := ((Own.new w _ _).alloc _).below hx | have oM := (((Own.new w _ _).alloc _).alloc _).below hx | have oM := ((((Own.new w _ _).alloc _).alloc _).alloc _).below hx | have oM := ((Own.new w _ _).set2 _ _).below hx | have oM := (((Own.new w _ _).setCell (by simp <;> omega) _).setCell (by simp <;> omega) _).below hx
  obtain ⟨c0_oM, c1_oM, f0_oM, f1_oM, z_oM⟩ := oM.two
  replace hb : Below w.heap.size w w1 := Below.trans (by (repeat (first | exact Below.refl _ _ | assumption | refine Below.drew ?_ | refine below_drewN ?_ _ | refine Below.setCell ?_ (by first | omega | (simp <;> omega)) _ | refine Below.alloc ?_ (by have := hb.size; first | omega | (simp <;> omega)) _))) (hx.mono (by have := hb.size; first | omega | (simp <;> omega)))
  clear hx
  go_wp2_with fail
  go_ret
  exact Ret.mk rfl hb

set_option maxHeartbeats 1000000 in
theorem walkM_b (v : Value) (l : List Ex) (c k to n : Int) (u : Value) (ws : List Int) (s : List UInt8) (w : World) (hL : Lay w) (hX : Exs w v l) (hI : Ints w u ws) (hl : ¬ 40 < l.length) (h2 : 1100 < ws.length) : Calls Tryd.prog 3 #[v, .agg #[.int .i64 c, .int .i64 k], .int .i64 to, .int .i64 n, u, .string ⟨s.toArray⟩] w (Ret (.bool true) w) := by
  have hsz : (⟨s.toArray⟩ : ByteArray).size = s.length := by simp [ByteArray.size]
  have hxl := hX.short
  obtain ⟨ad, cap, hsl, _⟩ := hX.open
  subst hsl
  obtain ⟨ad2, cap2, hu, hwl, _⟩ := hI.at
  subst hu
  have q0 : decide (40 < (l.length : Int)) = false := by rw [decide_eq_false_iff_not]; omega
  have q1 : decide (1100 < (ws.length : Int)) = true := by rw [decide_eq_true_iff]; omega
  have hb : Below w.heap.size w w := Below.refl _ _
  go_enter Tryd.func3, Tryd.ntmps3
  go_wp2_with fail
  refine (mhead_any _ (hL.below (by (have hbs := hb.size; repeat (first | exact Below.refl _ _ | assumption | refine Below.drew ?_ | refine below_drewN ?_ _ | refine Below.setCell ?_ (by first | omega | (simp <;> omega)) _ | refine Below.alloc ?_ (by first | omega | (simp <;> omega)) _))))).mono ?_
  rintro e w1 ⟨rfl, hx⟩
  try clear c0_oM c1_oM f0_oM f1_oM z_oM
  first | have oM := (Own.new w _ _).below hx | have oM := ((Own.new w _ _).alloc _).below hx | have oM := (((Own.new w _ _).alloc _).alloc _).below hx | have oM := ((((Own.new w _ _).alloc _).alloc _).alloc _).below hx | have oM := ((Own.new w _ _).set2 _ _).below hx | have oM := (((Own.new w _ _).setCell (by simp <;> omega) _).setCell (by simp <;> omega) _).below hx
  obtain ⟨c0_oM, c1_oM, f0_oM, f1_oM, z_oM⟩ := oM.two
  replace hb : Below w.heap.size w w1 := Below.trans (by (repeat (first | exact Below.refl _ _ | assumption | refine Below.drew ?_ | refine below_drewN ?_ _ | refine Below.setCell ?_ (by first | omega | (simp <;> omega)) _ | refine Below.alloc ?_ (by have := hb.size; first | omega | (simp <;> omega)) _))) (hx.mono (by have := hb.size; first | omega | (simp <;> omega)))
  clear hx
  go_wp2_with fail
  go_ret
  exact Ret.mk rfl hb

set_option maxHeartbeats 1000000 in
theorem walkM_c (v : Value) (l : List Ex) (c k to n : Int) (u : Value) (ws : List Int) (s : List UInt8) (w : World) (hL : Lay w) (hX : Exs w v l) (hI : Ints w u ws) (hl : ¬ 40 < l.length) (h2 : ¬ 1100 < ws.length) (h3 : 100 < s.length) : Calls Tryd.prog 3 #[v, .agg #[.int .i64 c, .int .i64 k], .int .i64 to, .int .i64 n, u, .string ⟨s.toArray⟩] w (Ret (.bool true) w) := by
  have hsz : (⟨s.toArray⟩ : ByteArray).size = s.length := by simp [ByteArray.size]
  have hxl := hX.short
  obtain ⟨ad, cap, hsl, _⟩ := hX.open
  subst hsl
  obtain ⟨ad2, cap2, hu, hwl, _⟩ := hI.at
  subst hu
  have q0 : decide (40 < (l.length : Int)) = false := by rw [decide_eq_false_iff_not]; omega
  have q1 : decide (1100 < (ws.length : Int)) = false := by rw [decide_eq_false_iff_not]; omega
  have q2 : decide (100 < (s.length : Int)) = true := by rw [decide_eq_true_iff]; omega
  have hb : Below w.heap.size w w := Below.refl _ _
  go_enter Tryd.func3, Tryd.ntmps3
  go_wp2_with fail
  refine (mhead_any _ (hL.below (by (have hbs := hb.size; repeat (first | exact Below.refl _ _ | assumption | refine Below.drew ?_ | refine below_drewN ?_ _ | refine Below.setCell ?_ (by first | omega | (simp <;> omega)) _ | refine Below.alloc ?_ (by first | omega | (simp <;> omega)) _))))).mono ?_
  rintro e w1 ⟨rfl, hx⟩
  try clear c0_oM c1_oM f0_oM f1_oM z_oM
  first | have oM := (Own.new w _ _).below hx | have oM := ((Own.new w _ _).alloc _).below hx | have oM := (((Own.new w _ _).alloc _).alloc _).below hx | have oM := ((((Own.new w _ _).alloc _).alloc _).alloc _).below hx | have oM := ((Own.new w _ _).set2 _ _).below hx | have oM := (((Own.new w _ _).setCell (by simp <;> omega) _).setCell (by simp <;> omega) _).below hx
  obtain ⟨c0_oM, c1_oM, f0_oM, f1_oM, z_oM⟩ := oM.two
  replace hb : Below w.heap.size w w1 := Below.trans (by (repeat (first | exact Below.refl _ _ | assumption | refine Below.drew ?_ | refine below_drewN ?_ _ | refine Below.setCell ?_ (by first | omega | (simp <;> omega)) _ | refine Below.alloc ?_ (by have := hb.size; first | omega | (simp <;> omega)) _))) (hx.mono (by have := hb.size; first | omega | (simp <;> omega)))
  clear hx
  go_wp2_with fail
  go_ret
  exact Ret.mk rfl hb

set_option maxHeartbeats 4000000 in
theorem walkM_d (v : Value) (l : List Ex) (c k to n : Int) (u : Value) (ws : List Int) (s : List UInt8) (w : World) (hL : Lay w) (hX : Exs w v l) (hI : Ints w u ws) (hl : ¬ 40 < l.length) (h2 : ¬ 1100 < ws.length) (h3 : ¬ 100 < s.length) : Calls Tryd.prog 3 #[v, .agg #[.int .i64 c, .int .i64 k], .int .i64 to, .int .i64 n, u, .string ⟨s.toArray⟩] w (Ret (.bool true) w) := by
  have hsz : (⟨s.toArray⟩ : ByteArray).size = s.length := by simp [ByteArray.size]
  have hxl := hX.short
  obtain ⟨ad, cap, hsl, _⟩ := hX.open
  subst hsl
  obtain ⟨ad2, cap2, hu, hwl, _⟩ := hI.at
  subst hu
  have q0 : decide (40 < (l.length : Int)) = false := by rw [decide_eq_false_iff_not]; omega
  have q1 : decide (1100 < (ws.length : Int)) = false := by rw [decide_eq_false_iff_not]; omega
  have q2 : decide (100 < (s.length : Int)) = false := by rw [decide_eq_false_iff_not]; omega
  have hH : ∀ wk, Below w.heap.size w wk → Calls Tryd.prog 9 #[] wk (Ret (.bool true) wk) := fun wk h => mhead_any wk (hL.below h)
  obtain ⟨⟨⟨p1, p2⟩, p3⟩, hp⟩ : ∃ p, p = convF l c k to := ⟨_, rfl⟩
  have hC1 : ∀ wk, Below w.heap.size w wk → Calls Tryd.prog 10 #[.slice ad l.length cap, .agg #[.int .i64 c, .int .i64 k], .int .i64 to] wk (Ret (.tuple #[.agg #[.int .i64 p1, .int .i64 p2], .int .i64 p3]) wk) := fun wk h => by
    have := convert_any _ l c k to wk (hX.below h); rw [← hp] at this; exact this
  have hC2 : ∀ wk, Below w.heap.size w wk → Calls Tryd.prog 11 #[.slice ad l.length cap, .agg #[.int .i64 c, .int .i64 k], .int .i64 to] wk (Ret (.tuple #[.agg #[.int .i64 p1, .int .i64 p2], .int .i64 p3]) wk) := fun wk h => by
    have := rconvert_any _ l c k to wk (hX.below h); rw [← hp] at this; exact this
  obtain ⟨b, hbv⟩ : ∃ b, b = vldX l := ⟨_, rfl⟩
  have hV1 : ∀ wk, Below w.heap.size w wk → Calls Tryd.prog 12 #[.slice ad l.length cap] wk (Ret (.bool b) wk) := fun wk h => by
    have := mvalid_any _ l wk (hX.below h); rw [← hbv] at this; exact this
  have hV2 : ∀ wk, Below w.heap.size w wk → Calls Tryd.prog 13 #[.slice ad l.length cap] wk (Ret (.bool b) wk) := fun wk h => by
    have := rvalid6_any _ l wk (hX.below h); rw [← hbv] at this; exact this
  obtain ⟨⟨t1, t2⟩, ht⟩ : ∃ p, p = textF n := ⟨_, rfl⟩
  have hT1 : ∀ wk, Below w.heap.size w wk → Calls Tryd.prog 17 #[.int .i64 n] wk (Ret (.tuple #[.string ⟨t1.toArray⟩, .int .i64 t2]) wk) := fun wk h => by
    have := mtext_any n wk (hL.below h).tab; rw [← ht] at this; exact this
  have hT2 : ∀ wk, Below w.heap.size w wk → Calls Tryd.prog 18 #[.int .i64 n] wk (Ret (.tuple #[.string ⟨t1.toArray⟩, .int .i64 t2]) wk) := fun wk h => by
    have := rtext_any n wk; rw [← ht] at this; exact this
  obtain ⟨⟨g1, g2⟩, hg⟩ : ∃ p, p = parseF s := ⟨_, rfl⟩
  have hP1 : ∀ wk, Below w.heap.size w wk → Calls Tryd.prog 19 #[.string ⟨s.toArray⟩] wk (Ret (.tuple #[.int .i64 g1, .int .i64 g2]) wk) := fun wk h => by
    have := mparse_any s (by omega) wk (hL.below h); rw [← hg] at this; exact this
  have hP2 : ∀ wk, Below w.heap.size w wk → Calls Tryd.prog 20 #[.string ⟨s.toArray⟩] wk (Ret (.tuple #[.int .i64 g1, .int .i64 g2]) wk) := fun wk h => by
    have := rparse_any s (by omega) wk; rw [← hg] at this; exact this
  obtain ⟨⟨r1, r2⟩, hr⟩ : ∃ p, p = shareF n ws := ⟨_, rfl⟩
  have hS1 : ∀ wk, Below w.heap.size w wk → Calls Tryd.prog 14 #[.int .i64 n, .slice ad2 ws.length cap2] wk fun e w' => ∃ v, e = .returned (.tuple #[v, .int .i64 r2]) ∧ Ints w' v r1 ∧ Below wk.heap.size wk w' := fun wk h => by
    have := mshare_any n _ ws wk (hI.below h); unfold ShareP at this; rw [← hr] at this; exact this
  have hS2 : ∀ wk, Below w.heap.size w wk → Calls Tryd.prog 15 #[.int .i64 n, .slice ad2 ws.length cap2] wk fun e w' => ∃ v, e = .returned (.tuple #[v, .int .i64 r2]) ∧ Ints w' v r1 ∧ Below wk.heap.size wk w' := fun wk h => by
    have := rshare_any n _ ws wk (hI.below h); unfold ShareP at this; rw [← hr] at this; exact this
  clear hp hbv ht hg hr hX hI hL
  have hb : Below w.heap.size w w := Below.refl _ _
  have hem := eql_money
  go_enter Tryd.func3, Tryd.ntmps3
  go_wp2_with fail
  refine (hH _ (by (have hbs := hb.size; repeat (first | exact Below.refl _ _ | assumption | refine Below.drew ?_ | refine below_drewN ?_ _ | refine Below.setCell ?_ (by first | omega | (simp <;> omega)) _ | refine Below.alloc ?_ (by first | omega | (simp <;> omega)) _)))).mono ?_
  rintro e w1 ⟨rfl, hx⟩
  try clear c0_oM c1_oM f0_oM f1_oM z_oM
  first | have oM := (Own.new w _ _).below hx | have oM := ((Own.new w _ _).alloc _).below hx | have oM := (((Own.new w _ _).alloc _).alloc _).below hx | have oM := ((((Own.new w _ _).alloc _).alloc _).alloc _).below hx | have oM := ((Own.new w _ _).set2 _ _).below hx | have oM := (((Own.new w _ _).setCell (by simp <;> omega) _).setCell (by simp <;> omega) _).below hx
  obtain ⟨c0_oM, c1_oM, f0_oM, f1_oM, z_oM⟩ := oM.two
  replace hb : Below w.heap.size w w1 := Below.trans (by (repeat (first | exact Below.refl _ _ | assumption | refine Below.drew ?_ | refine below_drewN ?_ _ | refine Below.setCell ?_ (by first | omega | (simp <;> omega)) _ | refine Below.alloc ?_ (by have := hb.size; first | omega | (simp <;> omega)) _))) (hx.mono (by have := hb.size; first | omega | (simp <;> omega)))
  clear hx
  clear hH
  go_wp2_with fail
  refine (hC1 _ hb).mono ?_
  rintro e w2 ⟨rfl, hx⟩
  try clear c0_oM c1_oM f0_oM f1_oM z_oM
  first | replace oM := oM.below hx | replace oM := (oM.alloc _).below hx | replace oM := ((oM.alloc _).alloc _).below hx | replace oM := (((oM.alloc _).alloc _).alloc _).below hx | replace oM := (oM.set2 _ _).below hx | replace oM := ((oM.setCell (by simp <;> omega) _).setCell (by simp <;> omega) _).below hx
  obtain ⟨c0_oM, c1_oM, f0_oM, f1_oM, z_oM⟩ := oM.two
  replace hb : Below w.heap.size w w2 := Below.trans (by (repeat (first | exact Below.refl _ _ | assumption | refine Below.drew ?_ | refine below_drewN ?_ _ | refine Below.setCell ?_ (by first | omega | (simp <;> omega)) _ | refine Below.alloc ?_ (by have := hb.size; first | omega | (simp <;> omega)) _))) (hx.mono (by have := hb.size; first | omega | (simp <;> omega)))
  clear hx
  go_wp2_with fail
  refine (hC2 _ (by (have hbs := hb.size; repeat (first | exact Below.refl _ _ | assumption | refine Below.drew ?_ | refine below_drewN ?_ _ | refine Below.setCell ?_ (by first | omega | (simp <;> omega)) _ | refine Below.alloc ?_ (by first | omega | (simp <;> omega)) _)))).mono ?_
  rintro e w3 ⟨rfl, hx⟩
  try clear c0_oM c1_oM f0_oM f1_oM z_oM
  first | replace oM := oM.below hx | replace oM := (oM.alloc _).below hx | replace oM := ((oM.alloc _).alloc _).below hx | replace oM := (((oM.alloc _).alloc _).alloc _).below hx | replace oM := (oM.set2 _ _).below hx | replace oM := ((oM.setCell (by simp <;> omega) _).setCell (by simp <;> omega) _).below hx
  obtain ⟨c0_oM, c1_oM, f0_oM, f1_oM, z_oM⟩ := oM.two
  try clear c0_o2 c1_o2 f0_o2 f1_o2 z_o2
  first | have o2 := (Own.new w2 _ _).below hx | have o2 := ((Own.new w2 _ _).alloc _).below hx | have o2 := (((Own.new w2 _ _).alloc _).alloc _).below hx | have o2 := ((((Own.new w2 _ _).alloc _).alloc _).alloc _).below hx | have o2 := ((Own.new w2 _ _).set2 _ _).below hx | have o2 := (((Own.new w2 _ _).setCell (by simp <;> omega) _).setCell (by simp <;> omega) _).below hx
  obtain ⟨c0_o2, c1_o2, f0_o2, f1_o2, z_o2⟩ := o2.two
  replace hb : Below w.heap.size w w3 := Below.trans (by (repeat (first | exact Below.refl _ _ | assumption | refine Below.drew ?_ | refine below_drewN ?_ _ | refine Below.setCell ?_ (by first | omega | (simp <;> omega)) _ | refine Below.alloc ?_ (by have := hb.size; first | omega | (simp <;> omega)) _))) (hx.mono (by have := hb.size; first | omega | (simp <;> omega)))
  clear hx
  clear hC1 hC2 c0_oM c1_oM f0_oM f1_oM z_oM oM
  go_wp2_with fail
  refine (hV1 _ (by (have hbs := hb.size; repeat (first | exact Below.refl _ _ | assumption | refine Below.drew ?_ | refine below_drewN ?_ _ | refine Below.setCell ?_ (by first | omega | (simp <;> omega)) _ | refine Below.alloc ?_ (by first | omega | (simp <;> omega)) _)))).mono ?_
  rintro e w4 ⟨rfl, hx⟩
  try clear c0_o2 c1_o2 f0_o2 f1_o2 z_o2
  first | replace o2 := o2.below hx | replace o2 := (o2.alloc _).below hx | replace o2 := ((o2.alloc _).alloc _).below hx | replace o2 := (((o2.alloc _).alloc _).alloc _).below hx | replace o2 := (o2.set2 _ _).below hx | replace o2 := ((o2.setCell (by simp <;> omega) _).setCell (by simp <;> omega) _).below hx
  obtain ⟨c0_o2, c1_o2, f0_o2, f1_o2, z_o2⟩ := o2.two
  try clear c0_o3 c1_o3 f0_o3 f1_o3 z_o3
  first | have o3 := (Own.new w3 _ _).below hx | have o3 := ((Own.new w3 _ _).alloc _).below hx | have o3 := (((Own.new w3 _ _).alloc _).alloc _).below hx | have o3 := ((((Own.new w3 _ _).alloc _).alloc _).alloc _).below hx | have o3 := ((Own.new w3 _ _).set2 _ _).below hx | have o3 := (((Own.new w3 _ _).setCell (by simp <;> omega) _).setCell (by simp <;> omega) _).below hx
  obtain ⟨c0_o3, c1_o3, f0_o3, f1_o3, z_o3⟩ := o3.two
  replace hb : Below w.heap.size w w4 := Below.trans (by (repeat (first | exact Below.refl _ _ | assumption | refine Below.drew ?_ | refine below_drewN ?_ _ | refine Below.setCell ?_ (by first | omega | (simp <;> omega)) _ | refine Below.alloc ?_ (by have := hb.size; first | omega | (simp <;> omega)) _))) (hx.mono (by have := hb.size; first | omega | (simp <;> omega)))
  clear hx
  go_wp2_with fail
  refine (hV2 _ hb).mono ?_
  rintro e w5 ⟨rfl, hx⟩
  try clear c0_o2 c1_o2 f0_o2 f1_o2 z_o2
  first | replace o2 := o2.below hx | replace o2 := (o2.alloc _).below hx | replace o2 := ((o2.alloc _).alloc _).below hx | replace o2 := (((o2.alloc _).alloc _).alloc _).below hx | replace o2 := (o2.set2 _ _).below hx | replace o2 := ((o2.setCell (by simp <;> omega) _).setCell (by simp <;> omega) _).below hx
  obtain ⟨c0_o2, c1_o2, f0_o2, f1_o2, z_o2⟩ := o2.two
  try clear c0_o3 c1_o3 f0_o3 f1_o3 z_o3
  first | replace o3 := o3.below hx | replace o3 := (o3.alloc _).below hx | replace o3 := ((o3.alloc _).alloc _).below hx | replace o3 := (((o3.alloc _).alloc _).alloc _).below hx | replace o3 := (o3.set2 _ _).below hx | replace o3 := ((o3.setCell (by simp <;> omega) _).setCell (by simp <;> omega) _).below hx
  obtain ⟨c0_o3, c1_o3, f0_o3, f1_o3, z_o3⟩ := o3.two
  replace hb : Below w.heap.size w w5 := Below.trans (by (repeat (first | exact Below.refl _ _ | assumption | refine Below.drew ?_ | refine below_drewN ?_ _ | refine Below.setCell ?_ (by first | omega | (simp <;> omega)) _ | refine Below.alloc ?_ (by have := hb.size; first | omega | (simp <;> omega)) _))) (hx.mono (by have := hb.size; first | omega | (simp <;> omega)))
  clear hx
  clear hV1 hV2
  go_wp2_with fail
  refine (hS1 _ hb).mono ?_
  rintro e w6 ⟨v6, rfl, i6, hx⟩
  replace hb := hb.trans (hx.mono hb.size)
  clear hx o2 o3 c0_o2 c1_o2 f0_o2 f1_o2 z_o2 c0_o3 c1_o3 f0_o3 f1_o3 z_o3 hS1
  go_wp2_with fail
  refine (hS2 _ hb).mono ?_
  rintro e w7 ⟨v7, rfl, i7, hx⟩
  replace hb := hb.trans (hx.mono hb.size)
  replace i6 := i6.below hx
  clear hx hS2
  have hsm := msame_any _ _ _ _ _ i6 i7
  rw [decide_eq_true rfl] at hsm
  clear i6 i7
  go_wp2_with fail
  refine (hsm).mono ?_
  rintro e w8 ⟨rfl, hx⟩
  replace hb : Below w.heap.size w w8 := Below.trans (by (repeat (first | exact Below.refl _ _ | assumption | refine Below.drew ?_ | refine below_drewN ?_ _ | refine Below.setCell ?_ (by first | omega | (simp <;> omega)) _ | refine Below.alloc ?_ (by have := hb.size; first | omega | (simp <;> omega)) _))) (hx.mono (by have := hb.size; first | omega | (simp <;> omega)))
  clear hx
  clear hsm
  go_wp2_with fail
  refine (hT1 _ hb).mono ?_
  rintro e w9 ⟨rfl, hx⟩
  replace hb : Below w.heap.size w w9 := Below.trans (by (repeat (first | exact Below.refl _ _ | assumption | refine Below.drew ?_ | refine below_drewN ?_ _ | refine Below.setCell ?_ (by first | omega | (simp <;> omega)) _ | refine Below.alloc ?_ (by have := hb.size; first | omega | (simp <;> omega)) _))) (hx.mono (by have := hb.size; first | omega | (simp <;> omega)))
  clear hx
  go_wp2_with fail
  refine (hT2 _ hb).mono ?_
  rintro e w10 ⟨rfl, hx⟩
  replace hb : Below w.heap.size w w10 := Below.trans (by (repeat (first | exact Below.refl _ _ | assumption | refine Below.drew ?_ | refine below_drewN ?_ _ | refine Below.setCell ?_ (by first | omega | (simp <;> omega)) _ | refine Below.alloc ?_ (by have := hb.size; first | omega | (simp <;> omega)) _))) (hx.mono (by have := hb.size; first | omega | (simp <;> omega)))
  clear hx
  clear hT1 hT2
  go_wp2_with fail
  refine (hP1 _ hb).mono ?_
  rintro e w11 ⟨rfl, hx⟩
  replace hb : Below w.heap.size w w11 := Below.trans (by (repeat (first | exact Below.refl _ _ | assumption | refine Below.drew ?_ | refine below_drewN ?_ _ | refine Below.setCell ?_ (by first | omega | (simp <;> omega)) _ | refine Below.alloc ?_ (by have := hb.size; first | omega | (simp <;> omega)) _))) (hx.mono (by have := hb.size; first | omega | (simp <;> omega)))
  clear hx
  go_wp2_with fail
  refine (hP2 _ hb).mono ?_
  rintro e w12 ⟨rfl, hx⟩
  replace hb : Below w.heap.size w w12 := Below.trans (by (repeat (first | exact Below.refl _ _ | assumption | refine Below.drew ?_ | refine below_drewN ?_ _ | refine Below.setCell ?_ (by first | omega | (simp <;> omega)) _ | refine Below.alloc ?_ (by have := hb.size; first | omega | (simp <;> omega)) _))) (hx.mono (by have := hb.size; first | omega | (simp <;> omega)))
  clear hx
  go_wp2_with fail
  go_ret
  exact Ret.mk (by simp) hb

theorem walkMoneyMatchesReference (v : Value) (l : List Ex) (c k to n : Int) (u : Value) (ws : List Int) (s : List UInt8) (w : World) (hL : Lay w) (hX : Exs w v l) (hI : Ints w u ws) : Calls Tryd.prog 3 #[v, .agg #[.int .i64 c, .int .i64 k], .int .i64 to, .int .i64 n, u, .string ⟨s.toArray⟩] w (Ret (.bool true) w) := by
  by_cases hl : 40 < l.length
  · exact walkM_a v l c k to n u ws s w hL hX hI hl
  by_cases h2 : 1100 < ws.length
  · exact walkM_b v l c k to n u ws s w hL hX hI hl h2
  by_cases h3 : 100 < s.length
  · exact walkM_c v l c k to n u ws s w hL hX hI hl h2 h3
  exact walkM_d v l c k to n u ws s w hL hX hI hl h2 h3
end Go.Proofs.YtnjaedbekogeaaaDoor
