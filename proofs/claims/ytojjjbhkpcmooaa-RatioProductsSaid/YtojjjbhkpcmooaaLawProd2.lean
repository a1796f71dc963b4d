/-
  RatioProducts: walks.
-/
import Derived.Test.YtojjjbhkpcmooaaLawPartsB
import Derived.Test.YtojjjbhkpcmooaaTail
namespace Go.Proofs.Ytojjjbhkpcmooaa
open Go.ChangeShapes Go.WideShapes Go.ChangeAt Go.RowKit Go.Joins
set_option linter.unusedVariables false

set_option maxHeartbeats 6400000 in
set_option maxRecDepth 100000 in
theorem prod_ok3 (a1 a2 b1 b2 c1 c2 : Int) (x1 x2 s1 s2 z1 z2 z3 : Int) (VA : Hid (vldB a1 a2 = true)) (VB : Hid (vldB b1 b2 = true)) (VC : Hid (vldB c1 c2 = true)) (M1 : Hid (mulF a1 a2 b1 b2 = (x1, x2, 0))) (M2 : Hid (mulF b1 b2 a1 a2 = (x1, x2, 0))) (O1 : Hid (mulF a1 a2 1 1 = (a1, a2, 0))) (O0 : Hid (mulF a1 a2 0 1 = (0, 1, 0))) (AS : Hid (addF b1 b2 c1 c2 = (s1, s2, 0))) (MZ : Hid (mulF a1 a2 c1 c2 = (z1, z2, z3))) (e1 : (z3 != 0) = true) (w : World) : Calls Try.prog 6 #[.agg #[.int .i64 a1, .int .i64 a2], .agg #[.int .i64 b1, .int .i64 b2], .agg #[.int .i64 c1, .int .i64 c2]] w (Ret (.bool true) w) := by
  have hb : Below w.heap.size w w := Below.refl _ _
  have he := eql_rat
  have hn := neq_rat
  go_enter Try.func6, Try.ntmps6
  go_wp2_with fail
  refine (head_any _).mono ?_
  rintro e w1 ⟨rfl, hx⟩
  try clear c0_oa c1_oa f0_oa f1_oa z_oa
  first | have oa := (Own.new w _ _).below hx | have oa := ((Own.new w _ _).alloc _).below hx | have oa := (((Own.new w _ _).alloc _).alloc _).below hx | have oa := ((((Own.new w _ _).alloc _).alloc _).alloc _).below hx | have oa := ((Own.new w _ _).set2 _ _).below hx | have oa := (((Own.new w _ _).setCell (by simp <;> omega) _).setCell (by simp <;> omega) _).below hx
  obtain ⟨c0_oa, c1_oa, f0_oa, f1_oa, z_oa⟩ := oa.two
  try clear c0_ob c1_ob f0_ob f1_ob z_ob
  first | have ob := (Own.at (w.alloc _) _ _ (w.heap.size + 1) (by simp)).below hx | have ob := ((Own.at (w.alloc _) _ _ (w.heap.size + 1) (by simp)).alloc _).below hx | have ob := (((Own.at (w.alloc _) _ _ (w.heap.size + 1) (by simp)).alloc _).alloc _).below hx | have ob := ((((Own.at (w.alloc _) _ _ (w.heap.size + 1) (by simp)).alloc _).alloc _).alloc _).below hx | have ob := ((Own.at (w.alloc _) _ _ (w.heap.size + 1) (by simp)).set2 _ _).below hx | have ob := (((Own.at (w.alloc _) _ _ (w.heap.size + 1) (by simp)).setCell (by simp <;> omega) _).setCell (by simp <;> omega) _).below hx
  obtain ⟨c0_ob, c1_ob, f0_ob, f1_ob, z_ob⟩ := ob.two
  try clear c0_oc c1_oc f0_oc f1_oc z_oc
  first | have oc := (Own.at ((w.alloc _).alloc _) _ _ (w.heap.size + 1 + 1) (by simp)).below hx | have oc := ((Own.at ((w.alloc _).alloc _) _ _ (w.heap.size + 1 + 1) (by simp)).alloc _).below hx | have oc := (((Own.at ((w.alloc _).alloc _) _ _ (w.heap.size + 1 + 1) (by simp)).alloc _).alloc _).below hx | have oc := ((((Own.at ((w.alloc _).alloc _) _ _ (w.heap.size + 1 + 1) (by simp)).alloc _).alloc _).alloc _).below hx | have oc := ((Own.at ((w.alloc _).alloc _) _ _ (w.heap.size + 1 + 1) (by simp)).set2 _ _).below hx | have oc := (((Own.at ((w.alloc _).alloc _) _ _ (w.heap.size + 1 + 1) (by simp)).setCell (by simp <;> omega) _).setCell (by simp <;> omega) _).below hx
  obtain ⟨c0_oc, c1_oc, f0_oc, f1_oc, z_oc⟩ := oc.two
  replace hb : Below w.heap.size w w1 := Below.trans (by (repeat (first | exact Below.refl _ _ | assumption | refine Below.drew ?_ | refine below_drewN ?_ _ | refine Below.setCell ?_ (by first | omega | (simp <;> omega)) _ | refine Below.alloc ?_ (by have := hb.size; first | omega | (simp <;> omega)) _))) (hx.mono (by have := hb.size; first | omega | (simp <;> omega)))
  clear hx
  go_wp2_with fail
  refine (r_valid_at _ _ _ VA.out).mono ?_
  rintro e w2 ⟨rfl, hx⟩
  try clear c0_oa c1_oa f0_oa f1_oa z_oa
  first | replace oa := oa.below hx | replace oa := (oa.alloc _).below hx | replace oa := ((oa.alloc _).alloc _).below hx | replace oa := (((oa.alloc _).alloc _).alloc _).below hx | replace oa := (oa.set2 _ _).below hx | replace oa := ((oa.setCell (by simp <;> omega) _).setCell (by simp <;> omega) _).below hx
  obtain ⟨c0_oa, c1_oa, f0_oa, f1_oa, z_oa⟩ := oa.two
  try clear c0_ob c1_ob f0_ob f1_ob z_ob
  first | replace ob := ob.below hx | replace ob := (ob.alloc _).below hx | replace ob := ((ob.alloc _).alloc _).below hx | replace ob := (((ob.alloc _).alloc _).alloc _).below hx | replace ob := (ob.set2 _ _).below hx | replace ob := ((ob.setCell (by simp <;> omega) _).setCell (by simp <;> omega) _).below hx
  obtain ⟨c0_ob, c1_ob, f0_ob, f1_ob, z_ob⟩ := ob.two
  try clear c0_oc c1_oc f0_oc f1_oc z_oc
  first | replace oc := oc.below hx | replace oc := (oc.alloc _).below hx | replace oc := ((oc.alloc _).alloc _).below hx | replace oc := (((oc.alloc _).alloc _).alloc _).below hx | replace oc := (oc.set2 _ _).below hx | replace oc := ((oc.setCell (by simp <;> omega) _).setCell (by simp <;> omega) _).below hx
  obtain ⟨c0_oc, c1_oc, f0_oc, f1_oc, z_oc⟩ := oc.two
  replace hb : Below w.heap.size w w2 := Below.trans (by (repeat (first | exact Below.refl _ _ | assumption | refine Below.drew ?_ | refine below_drewN ?_ _ | refine Below.setCell ?_ (by first | omega | (simp <;> omega)) _ | refine Below.alloc ?_ (by have := hb.size; first | omega | (simp <;> omega)) _))) (hx.mono (by have := hb.size; first | omega | (simp <;> omega)))
  clear hx
  go_wp2_with fail
  refine (r_valid_at _ _ _ VB.out).mono ?_
  rintro e w3 ⟨rfl, hx⟩
  try clear c0_oa c1_oa f0_oa f1_oa z_oa
  first | replace oa := oa.below hx | replace oa := (oa.alloc _).below hx | replace oa := ((oa.alloc _).alloc _).below hx | replace oa := (((oa.alloc _).alloc _).alloc _).below hx | replace oa := (oa.set2 _ _).below hx | replace oa := ((oa.setCell (by simp <;> omega) _).setCell (by simp <;> omega) _).below hx
  obtain ⟨c0_oa, c1_oa, f0_oa, f1_oa, z_oa⟩ := oa.two
  try clear c0_ob c1_ob f0_ob f1_ob z_ob
  first | replace ob := ob.below hx | replace ob := (ob.alloc _).below hx | replace ob := ((ob.alloc _).alloc _).below hx | replace ob := (((ob.alloc _).alloc _).alloc _).below hx | replace ob := (ob.set2 _ _).below hx | replace ob := ((ob.setCell (by simp <;> omega) _).setCell (by simp <;> omega) _).below hx
  obtain ⟨c0_ob, c1_ob, f0_ob, f1_ob, z_ob⟩ := ob.two
  try clear c0_oc c1_oc f0_oc f1_oc z_oc
  first | replace oc := oc.below hx | replace oc := (oc.alloc _).below hx | replace oc := ((oc.alloc _).alloc _).below hx | replace oc := (((oc.alloc _).alloc _).alloc _).below hx | replace oc := (oc.set2 _ _).below hx | replace oc := ((oc.setCell (by simp <;> omega) _).setCell (by simp <;> omega) _).below hx
  obtain ⟨c0_oc, c1_oc, f0_oc, f1_oc, z_oc⟩ := oc.two
  replace hb : Below w.heap.size w w3 := Below.trans (by (repeat (first | exact Below.refl _ _ | assumption | refine Below.drew ?_ | refine below_drewN ?_ _ | refine Below.setCell ?_ (by first | omega | (simp <;> omega)) _ | refine Below.alloc ?_ (by have := hb.size; first | omega | (simp <;> omega)) _))) (hx.mono (by have := hb.size; first | omega | (simp <;> omega)))
  clear hx
  go_wp2_with fail
  refine (r_valid_at _ _ _ VC.out).mono ?_
  rintro e w4 ⟨rfl, hx⟩
  try clear c0_oa c1_oa f0_oa f1_oa z_oa
  first | replace oa := oa.below hx | replace oa := (oa.alloc _).below hx | replace oa := ((oa.alloc _).alloc _).below hx | replace oa := (((oa.alloc _).alloc _).alloc _).below hx | replace oa := (oa.set2 _ _).below hx | replace oa := ((oa.setCell (by simp <;> omega) _).setCell (by simp <;> omega) _).below hx
  obtain ⟨c0_oa, c1_oa, f0_oa, f1_oa, z_oa⟩ := oa.two
  try clear c0_ob c1_ob f0_ob f1_ob z_ob
  first | replace ob := ob.below hx | replace ob := (ob.alloc _).below hx | replace ob := ((ob.alloc _).alloc _).below hx | replace ob := (((ob.alloc _).alloc _).alloc _).below hx | replace ob := (ob.set2 _ _).below hx | replace ob := ((ob.setCell (by simp <;> omega) _).setCell (by simp <;> omega) _).below hx
  obtain ⟨c0_ob, c1_ob, f0_ob, f1_ob, z_ob⟩ := ob.two
  try clear c0_oc c1_oc f0_oc f1_oc z_oc
  first | replace oc := oc.below hx | replace oc := (oc.alloc _).below hx | replace oc := ((oc.alloc _).alloc _).below hx | replace oc := (((oc.alloc _).alloc _).alloc _).below hx | replace oc := (oc.set2 _ _).below hx | replace oc := ((oc.setCell (by simp <;> omega) _).setCell (by simp <;> omega) _).below hx
  obtain ⟨c0_oc, c1_oc, f0_oc, f1_oc, z_oc⟩ := oc.two
  replace hb : Below w.heap.size w w4 := Below.trans (by (repeat (first | exact Below.refl _ _ | assumption | refine Below.drew ?_ | refine below_drewN ?_ _ | refine Below.setCell ?_ (by first | omega | (simp <;> omega)) _ | refine Below.alloc ?_ (by have := hb.size; first | omega | (simp <;> omega)) _))) (hx.mono (by have := hb.size; first | omega | (simp <;> omega)))
  clear hx
  go_wp2_with fail
  refine (mul_at M1.out).mono ?_
  rintro e w5 ⟨rfl, hx⟩
  try clear c0_oa c1_oa f0_oa f1_oa z_oa
  first | replace oa := oa.below hx | replace oa := (oa.alloc _).below hx | replace oa := ((oa.alloc _).alloc _).below hx | replace oa := (((oa.alloc _).alloc _).alloc _).below hx | replace oa := (oa.set2 _ _).below hx | replace oa := ((oa.setCell (by simp <;> omega) _).setCell (by simp <;> omega) _).below hx
  obtain ⟨c0_oa, c1_oa, f0_oa, f1_oa, z_oa⟩ := oa.two
  try clear c0_ob c1_ob f0_ob f1_ob z_ob
  first | replace ob := ob.below hx | replace ob := (ob.alloc _).below hx | replace ob := ((ob.alloc _).alloc _).below hx | replace ob := (((ob.alloc _).alloc _).alloc _).below hx | replace ob := (ob.set2 _ _).below hx | replace ob := ((ob.setCell (by simp <;> omega) _).setCell (by simp <;> omega) _).below hx
  obtain ⟨c0_ob, c1_ob, f0_ob, f1_ob, z_ob⟩ := ob.two
  try clear c0_oc c1_oc f0_oc f1_oc z_oc
  first | replace oc := oc.below hx | replace oc := (oc.alloc _).below hx | replace oc := ((oc.alloc _).alloc _).below hx | replace oc := (((oc.alloc _).alloc _).alloc _).below hx | replace oc := (oc.set2 _ _).below hx | replace oc := ((oc.setCell (by simp <;> omega) _).setCell (by simp <;> omega) _).below hx
  obtain ⟨c0_oc, c1_oc, f0_oc, f1_oc, z_oc⟩ := oc.two
  replace hb : Below w.heap.size w w5 := Below.trans (by (repeat (first | exact Below.refl _ _ | assumption | refine Below.drew ?_ | refine below_drewN ?_ _ | refine Below.setCell ?_ (by first | omega | (simp <;> omega)) _ | refine Below.alloc ?_ (by have := hb.size; first | omega | (simp <;> omega)) _))) (hx.mono (by have := hb.size; first | omega | (simp <;> omega)))
  clear hx
  go_wp2_with fail
  refine (mul_at M2.out).mono ?_
  rintro e w6 ⟨rfl, hx⟩
  try clear c0_oa c1_oa f0_oa f1_oa z_oa
  first | replace oa := oa.below hx | replace oa := (oa.alloc _).below hx | replace oa := ((oa.alloc _).alloc _).below hx | replace oa := (((oa.alloc _).alloc _).alloc _).below hx | replace oa := (oa.set2 _ _).below hx | replace oa := ((oa.setCell (by simp <;> omega) _).setCell (by simp <;> omega) _).below hx
  obtain ⟨c0_oa, c1_oa, f0_oa, f1_oa, z_oa⟩ := oa.two
  try clear c0_ob c1_ob f0_ob f1_ob z_ob
  first | replace ob := ob.below hx | replace ob := (ob.alloc _).below hx | replace ob := ((ob.alloc _).alloc _).below hx | replace ob := (((ob.alloc _).alloc _).alloc _).below hx | replace ob := (ob.set2 _ _).below hx | replace ob := ((ob.setCell (by simp <;> omega) _).setCell (by simp <;> omega) _).below hx
  obtain ⟨c0_ob, c1_ob, f0_ob, f1_ob, z_ob⟩ := ob.two
  try clear c0_oc c1_oc f0_oc f1_oc z_oc
  first | replace oc := oc.below hx | replace oc := (oc.alloc _).below hx | replace oc := ((oc.alloc _).alloc _).below hx | replace oc := (((oc.alloc _).alloc _).alloc _).below hx | replace oc := (oc.set2 _ _).below hx | replace oc := ((oc.setCell (by simp <;> omega) _).setCell (by simp <;> omega) _).below hx
  obtain ⟨c0_oc, c1_oc, f0_oc, f1_oc, z_oc⟩ := oc.two
  try clear c0_ox c1_ox f0_ox f1_ox z_ox
  first | have ox := (Own.new w5 _ _).below hx | have ox := ((Own.new w5 _ _).alloc _).below hx | have ox := (((Own.new w5 _ _).alloc _).alloc _).below hx | have ox := ((((Own.new w5 _ _).alloc _).alloc _).alloc _).below hx | have ox := ((Own.new w5 _ _).set2 _ _).below hx | have ox := (((Own.new w5 _ _).setCell (by simp <;> omega) _).setCell (by simp <;> omega) _).below hx
  obtain ⟨c0_ox, c1_ox, f0_ox, f1_ox, z_ox⟩ := ox.two
  replace hb : Below w.heap.size w w6 := Below.trans (by (repeat (first | exact Below.refl _ _ | assumption | refine Below.drew ?_ | refine below_drewN ?_ _ | refine Below.setCell ?_ (by first | omega | (simp <;> omega)) _ | refine Below.alloc ?_ (by have := hb.size; first | omega | (simp <;> omega)) _))) (hx.mono (by have := hb.size; first | omega | (simp <;> omega)))
  clear hx
  have q1 : w.heap.size < w6.heap.size + 1 := by omega
  have q2 : w.heap.size < w6.heap.size + 1 + 1 := by omega
  have q3 : w5.heap.size < w6.heap.size + 1 := by omega
  have KA := Lib.hid (fun (W : World) (o : Obj) (h : W.cell? ⟨w.heap.size, 0, none⟩ = some (.int .i64 a1) ∧ W.cell? ⟨w.heap.size, 1, none⟩ = some (.int .i64 a2)) (hz : w.heap.size < W.heap.size) => (⟨(World.cell?_alloc_past o _ _ hz).trans h.1, (World.cell?_alloc_past o _ _ hz).trans h.2⟩ : (W.alloc o).cell? ⟨w.heap.size, 0, none⟩ = some (.int .i64 a1) ∧ (W.alloc o).cell? ⟨w.heap.size, 1, none⟩ = some (.int .i64 a2)))
  have KB := Lib.hid (fun (W : World) (o o' : Obj) (h : (W.alloc o').cell? ⟨w.heap.size, 0, none⟩ = some (.int .i64 a1) ∧ (W.alloc o').cell? ⟨w.heap.size, 1, none⟩ = some (.int .i64 a2)) (hz : w.heap.size < W.heap.size) => (⟨(World.cell?_alloc_past o _ _ hz).trans ((World.cell?_alloc_past o' _ _ hz).symm.trans h.1), (World.cell?_alloc_past o _ _ hz).trans ((World.cell?_alloc_past o' _ _ hz).symm.trans h.2)⟩ : (W.alloc o).cell? ⟨w.heap.size, 0, none⟩ = some (.int .i64 a1) ∧ (W.alloc o).cell? ⟨w.heap.size, 1, none⟩ = some (.int .i64 a2)))
  have KS := Lib.hid (fun (W : World) (B i j : Nat) (u v : Value) (h : W.cell? ⟨w.heap.size, 0, none⟩ = some (.int .i64 a1) ∧ W.cell? ⟨w.heap.size, 1, none⟩ = some (.int .i64 a2)) (hz : w.heap.size < B) (_ : w.heap.size < B) => (⟨by rw [World.cell?_setCell_other _ _ _ _ (by simp <;> omega), World.cell?_setCell_other _ _ _ _ (by simp <;> omega)]; exact h.1, by rw [World.cell?_setCell_other _ _ _ _ (by simp <;> omega), World.cell?_setCell_other _ _ _ _ (by simp <;> omega)]; exact h.2⟩ : ((W.setCell ⟨B, i, none⟩ u).setCell ⟨B, j, none⟩ v).cell? ⟨w.heap.size, 0, none⟩ = some (.int .i64 a1) ∧ ((W.setCell ⟨B, i, none⟩ u).setCell ⟨B, j, none⟩ v).cell? ⟨w.heap.size, 1, none⟩ = some (.int .i64 a2)))
  go_upto_region 6 with fail
  go_cut [12, 13] (fun s12 s13 wx => ∃ B : Nat, s12 = .pointer (some ⟨B, 0, none⟩) ∧ s13 = .int .i64 0 ∧ Own wx w.heap.size [.int .i64 a1, .int .i64 a2] ∧ Own wx (w.heap.size + 1) [.int .i64 b1, .int .i64 b2] ∧ Own wx (w.heap.size + 1 + 1) [.int .i64 c1, .int .i64 c2] ∧ Own wx w5.heap.size [.int .i64 x1, .int .i64 x2] ∧ Own wx w6.heap.size [.int .i64 x1, .int .i64 x2] ∧ Own wx B [.int .i64 a1, .int .i64 a2] ∧ Below w.heap.size w wx)
  case first =>
    go_region_held3 (fun w' => w'.cell? ⟨w.heap.size, 0, none⟩ = some (.int .i64 a1) ∧ w'.cell? ⟨w.heap.size, 1, none⟩ = some (.int .i64 a2)) (first | go_keep | exact ⟨cell_later hx (by simp [*]), cell_later hx (by simp [*])⟩ | exact KA.out _ _ (by assumption) (by omega) | exact KB.out _ _ _ (by assumption) (by omega) | exact KS.out _ _ _ _ _ _ (by assumption) (by omega) (by omega))
      (first | (go_at_call 27; refine (rat_any _ _ _).mono ?_; rintro e w' ⟨rfl, hx⟩; obtain ⟨hcx, hfx⟩ := bcell hx; have hsx := hx.size; (try simp at hsx); (try have hzx : w6.heap.size + 1 < w'.heap.size := (by omega)); (try have hzx : w6.heap.size < w'.heap.size := (by omega)); have hzy : w.heap.size < w'.heap.size := (by omega)) | (go_at_call 19; refine (mul_at O1.out).mono ?_; rintro e w' ⟨rfl, hx⟩; obtain ⟨hcx, hfx⟩ := bcell hx; have hsx := hx.size; (try simp at hsx); (try have hzx : w6.heap.size + 1 < w'.heap.size := (by omega)); (try have hzx : w6.heap.size < w'.heap.size := (by omega)); have hzy : w.heap.size < w'.heap.size := (by omega)))
    all_goals
      go_wp2_with fail
      go_meet
      refine ⟨_, rfl, rfl, ?_, ?_, ?_, ?_, ?_, ?_, ?_⟩
      · (repeat (first | exact oa | exact ob | exact oc | exact ox | exact oy | exact Own.new _ _ _ | exact Own.at _ _ _ _ (by simp) | refine Own.set2 (x := .int .i64 0) (y := .int .i64 0) ?_ _ _ | refine Own.setCell ?_ (by simp <;> omega) _ | refine Own.alloc ?_ _ | refine Own.drew ?_ | refine Own.below ?_ (by assumption)))
      · (repeat (first | exact oa | exact ob | exact oc | exact ox | exact oy | exact Own.new _ _ _ | exact Own.at _ _ _ _ (by simp) | refine Own.set2 (x := .int .i64 0) (y := .int .i64 0) ?_ _ _ | refine Own.setCell ?_ (by simp <;> omega) _ | refine Own.alloc ?_ _ | refine Own.drew ?_ | refine Own.below ?_ (by assumption)))
      · (repeat (first | exact oa | exact ob | exact oc | exact ox | exact oy | exact Own.new _ _ _ | exact Own.at _ _ _ _ (by simp) | refine Own.set2 (x := .int .i64 0) (y := .int .i64 0) ?_ _ _ | refine Own.setCell ?_ (by simp <;> omega) _ | refine Own.alloc ?_ _ | refine Own.drew ?_ | refine Own.below ?_ (by assumption)))
      · (repeat (first | exact oa | exact ob | exact oc | exact ox | exact oy | exact Own.new _ _ _ | exact Own.at _ _ _ _ (by simp) | refine Own.set2 (x := .int .i64 0) (y := .int .i64 0) ?_ _ _ | refine Own.setCell ?_ (by simp <;> omega) _ | refine Own.alloc ?_ _ | refine Own.drew ?_ | refine Own.below ?_ (by assumption)))
      · (repeat (first | exact oa | exact ob | exact oc | exact ox | exact oy | exact Own.new _ _ _ | exact Own.at _ _ _ _ (by simp) | refine Own.set2 (x := .int .i64 0) (y := .int .i64 0) ?_ _ _ | refine Own.setCell ?_ (by simp <;> omega) _ | refine Own.alloc ?_ _ | refine Own.drew ?_ | refine Own.below ?_ (by assumption)))
      · (repeat (first | exact oa | exact ob | exact oc | exact ox | exact oy | exact Own.new _ _ _ | exact Own.at _ _ _ _ (by simp) | refine Own.set2 (x := .int .i64 0) (y := .int .i64 0) ?_ _ _ | refine Own.setCell ?_ (by simp <;> omega) _ | refine Own.alloc ?_ _ | refine Own.drew ?_ | refine Own.below ?_ (by assumption)))
      · (repeat (first | exact hb | refine Below.drew ?_ | refine Below.setCell ?_ (by first | omega | (simp <;> omega)) _ | refine belowAlloc ?_ _ | refine belowStep ?_ (by assumption)))
  case rest =>
    clear KA KB KS q1 q2 q3 hb
    clear c0_oa c1_oa f0_oa f1_oa z_oa
    clear c0_ob c1_ob f0_ob f1_ob z_ob
    clear c0_oc c1_oc f0_oc f1_oc z_oc
    clear c0_ox c1_ox f0_ox f1_ox z_ox
    clear oa ob oc ox
    obtain ⟨B1, rfl, rfl, oa, ob, oc, ox, oy, oone, hb⟩ := hcut
    obtain ⟨c0_oa, c1_oa, f0_oa, f1_oa, z_oa⟩ := oa.two
    obtain ⟨c0_ob, c1_ob, f0_ob, f1_ob, z_ob⟩ := ob.two
    obtain ⟨c0_oc, c1_oc, f0_oc, f1_oc, z_oc⟩ := oc.two
    obtain ⟨c0_ox, c1_ox, f0_ox, f1_ox, z_ox⟩ := ox.two
    obtain ⟨c0_oy, c1_oy, f0_oy, f1_oy, z_oy⟩ := oy.two
    obtain ⟨c0_oone, c1_oone, f0_oone, f1_oone, z_oone⟩ := oone.two
    obtain ⟨wd, rfl⟩ : ∃ wd : World, wd = wc := ⟨_, rfl⟩
    have q1 : w.heap.size < wd.heap.size + 1 := by omega
    have q2 : w.heap.size < wd.heap.size + 1 + 1 := by omega
    have KA := Lib.hid (fun (W : World) (o : Obj) (h : W.cell? ⟨w.heap.size, 0, none⟩ = some (.int .i64 a1) ∧ W.cell? ⟨w.heap.size, 1, none⟩ = some (.int .i64 a2)) (hz : w.heap.size < W.heap.size) => (⟨(World.cell?_alloc_past o _ _ hz).trans h.1, (World.cell?_alloc_past o _ _ hz).trans h.2⟩ : (W.alloc o).cell? ⟨w.heap.size, 0, none⟩ = some (.int .i64 a1) ∧ (W.alloc o).cell? ⟨w.heap.size, 1, none⟩ = some (.int .i64 a2)))
    have KB := Lib.hid (fun (W : World) (o o' : Obj) (h : (W.alloc o').cell? ⟨w.heap.size, 0, none⟩ = some (.int .i64 a1) ∧ (W.alloc o').cell? ⟨w.heap.size, 1, none⟩ = some (.int .i64 a2)) (hz : w.heap.size < W.heap.size) => (⟨(World.cell?_alloc_past o _ _ hz).trans ((World.cell?_alloc_past o' _ _ hz).symm.trans h.1), (World.cell?_alloc_past o _ _ hz).trans ((World.cell?_alloc_past o' _ _ hz).symm.trans h.2)⟩ : (W.alloc o).cell? ⟨w.heap.size, 0, none⟩ = some (.int .i64 a1) ∧ (W.alloc o).cell? ⟨w.heap.size, 1, none⟩ = some (.int .i64 a2)))
    have KS := Lib.hid (fun (W : World) (B i j : Nat) (u v : Value) (h : W.cell? ⟨w.heap.size, 0, none⟩ = some (.int .i64 a1) ∧ W.cell? ⟨w.heap.size, 1, none⟩ = some (.int .i64 a2)) (hz : w.heap.size < B) (_ : w.heap.size < B) => (⟨by rw [World.cell?_setCell_other _ _ _ _ (by simp <;> omega), World.cell?_setCell_other _ _ _ _ (by simp <;> omega)]; exact h.1, by rw [World.cell?_setCell_other _ _ _ _ (by simp <;> omega), World.cell?_setCell_other _ _ _ _ (by simp <;> omega)]; exact h.2⟩ : ((W.setCell ⟨B, i, none⟩ u).setCell ⟨B, j, none⟩ v).cell? ⟨w.heap.size, 0, none⟩ = some (.int .i64 a1) ∧ ((W.setCell ⟨B, i, none⟩ u).setCell ⟨B, j, none⟩ v).cell? ⟨w.heap.size, 1, none⟩ = some (.int .i64 a2)))
    go_upto_region 7 with fail
    go_cut [14, 15] (fun s14 s15 wx => ∃ B : Nat, s14 = .pointer (some ⟨B, 0, none⟩) ∧ s15 = .int .i64 0 ∧ Own wx w.heap.size [.int .i64 a1, .int .i64 a2] ∧ Own wx (w.heap.size + 1) [.int .i64 b1, .int .i64 b2] ∧ Own wx (w.heap.size + 1 + 1) [.int .i64 c1, .int .i64 c2] ∧ Own wx w5.heap.size [.int .i64 x1, .int .i64 x2] ∧ Own wx w6.heap.size [.int .i64 x1, .int .i64 x2] ∧ Own wx B1 [.int .i64 a1, .int .i64 a2] ∧ Own wx B [.int .i64 0, .int .i64 1] ∧ Below w.heap.size w wx)
    case first =>
      go_region_held3 (fun w' => w'.cell? ⟨w.heap.size, 0, none⟩ = some (.int .i64 a1) ∧ w'.cell? ⟨w.heap.size, 1, none⟩ = some (.int .i64 a2)) (first | go_keep | exact ⟨cell_later hx (by simp [*]), cell_later hx (by simp [*])⟩ | exact KA.out _ _ (by assumption) (by omega) | exact KB.out _ _ _ (by assumption) (by omega) | exact KS.out _ _ _ _ _ _ (by assumption) (by omega) (by omega))
        (first | (go_at_call 27; refine (rat_any _ _ _).mono ?_; rintro e w' ⟨rfl, hx⟩; obtain ⟨hcx, hfx⟩ := bcell hx; have hsx := hx.size; (try simp at hsx); (try have hzx : wd.heap.size + 1 < w'.heap.size := (by omega)); (try have hzx : wd.heap.size < w'.heap.size := (by omega)); have hzy : w.heap.size < w'.heap.size := (by omega)) | (go_at_call 19; refine (mul_at O0.out).mono ?_; rintro e w' ⟨rfl, hx⟩; obtain ⟨hcx, hfx⟩ := bcell hx; have hsx := hx.size; (try simp at hsx); (try have hzx : wd.heap.size + 1 < w'.heap.size := (by omega)); (try have hzx : wd.heap.size < w'.heap.size := (by omega)); have hzy : w.heap.size < w'.heap.size := (by omega)))
      all_goals
        go_wp2_with fail
        go_meet
        refine ⟨_, rfl, rfl, ?_, ?_, ?_, ?_, ?_, ?_, ?_, ?_⟩
        · (repeat (first | exact oa | exact ob | exact oc | exact ox | exact oy | exact oone | exact Own.new _ _ _ | exact Own.at _ _ _ _ (by simp) | refine Own.set2 (x := .int .i64 0) (y := .int .i64 0) ?_ _ _ | refine Own.setCell ?_ (by simp <;> omega) _ | refine Own.alloc ?_ _ | refine Own.drew ?_ | refine Own.below ?_ (by assumption)))
        · (repeat (first | exact oa | exact ob | exact oc | exact ox | exact oy | exact oone | exact Own.new _ _ _ | exact Own.at _ _ _ _ (by simp) | refine Own.set2 (x := .int .i64 0) (y := .int .i64 0) ?_ _ _ | refine Own.setCell ?_ (by simp <;> omega) _ | refine Own.alloc ?_ _ | refine Own.drew ?_ | refine Own.below ?_ (by assumption)))
        · (repeat (first | exact oa | exact ob | exact oc | exact ox | exact oy | exact oone | exact Own.new _ _ _ | exact Own.at _ _ _ _ (by simp) | refine Own.set2 (x := .int .i64 0) (y := .int .i64 0) ?_ _ _ | refine Own.setCell ?_ (by simp <;> omega) _ | refine Own.alloc ?_ _ | refine Own.drew ?_ | refine Own.below ?_ (by assumption)))
        · (repeat (first | exact oa | exact ob | exact oc | exact ox | exact oy | exact oone | exact Own.new _ _ _ | exact Own.at _ _ _ _ (by simp) | refine Own.set2 (x := .int .i64 0) (y := .int .i64 0) ?_ _ _ | refine Own.setCell ?_ (by simp <;> omega) _ | refine Own.alloc ?_ _ | refine Own.drew ?_ | refine Own.below ?_ (by assumption)))
        · (repeat (first | exact oa | exact ob | exact oc | exact ox | exact oy | exact oone | exact Own.new _ _ _ | exact Own.at _ _ _ _ (by simp) | refine Own.set2 (x := .int .i64 0) (y := .int .i64 0) ?_ _ _ | refine Own.setCell ?_ (by simp <;> omega) _ | refine Own.alloc ?_ _ | refine Own.drew ?_ | refine Own.below ?_ (by assumption)))
        · (repeat (first | exact oa | exact ob | exact oc | exact ox | exact oy | exact oone | exact Own.new _ _ _ | exact Own.at _ _ _ _ (by simp) | refine Own.set2 (x := .int .i64 0) (y := .int .i64 0) ?_ _ _ | refine Own.setCell ?_ (by simp <;> omega) _ | refine Own.alloc ?_ _ | refine Own.drew ?_ | refine Own.below ?_ (by assumption)))
        · (repeat (first | exact oa | exact ob | exact oc | exact ox | exact oy | exact oone | exact Own.new _ _ _ | exact Own.at _ _ _ _ (by simp) | refine Own.set2 (x := .int .i64 0) (y := .int .i64 0) ?_ _ _ | refine Own.setCell ?_ (by simp <;> omega) _ | refine Own.alloc ?_ _ | refine Own.drew ?_ | refine Own.below ?_ (by assumption)))
        · (repeat (first | exact hb | refine Below.drew ?_ | refine Below.setCell ?_ (by first | omega | (simp <;> omega)) _ | refine belowAlloc ?_ _ | refine belowStep ?_ (by assumption)))
    case rest =>
      clear KA KB KS q1 q2 hb
      clear c0_oa c1_oa f0_oa f1_oa z_oa
      clear c0_ob c1_ob f0_ob f1_ob z_ob
      clear c0_oc c1_oc f0_oc f1_oc z_oc
      clear c0_ox c1_ox f0_ox f1_ox z_ox
      clear c0_oy c1_oy f0_oy f1_oy z_oy
      clear c0_oone c1_oone f0_oone f1_oone z_oone
      clear oa ob oc ox oy oone
      obtain ⟨B2, rfl, rfl, oa, ob, oc, ox, oy, oone, ozero, hb⟩ := hcut
      obtain ⟨c0_oa, c1_oa, f0_oa, f1_oa, z_oa⟩ := oa.two
      obtain ⟨c0_ob, c1_ob, f0_ob, f1_ob, z_ob⟩ := ob.two
      obtain ⟨c0_oc, c1_oc, f0_oc, f1_oc, z_oc⟩ := oc.two
      obtain ⟨c0_ox, c1_ox, f0_ox, f1_ox, z_ox⟩ := ox.two
      obtain ⟨c0_oy, c1_oy, f0_oy, f1_oy, z_oy⟩ := oy.two
      obtain ⟨c0_oone, c1_oone, f0_oone, f1_oone, z_oone⟩ := oone.two
      obtain ⟨c0_ozero, c1_ozero, f0_ozero, f1_ozero, z_ozero⟩ := ozero.two
      obtain ⟨w8, rfl⟩ : ∃ w8 : World, w8 = wc := ⟨_, rfl⟩
      go_wp2_with fail
      refine wp_region_up (by kernel_rfl) (by kernel_rfl) ?_
      repeat (go_big_quiet_step ((go_at_call 27; exact Ret.up (rat_any _ _ _))))
      refine wpQuiet_nil ?_
      rintro w9 ⟨gU, hU⟩
      have hx := up_below _ gU
      rw [← hU] at hx
      clear hU gU
      try clear c0_oa c1_oa f0_oa f1_oa z_oa
      first | replace oa := oa.below hx | replace oa := (oa.alloc _).below hx | replace oa := ((oa.alloc _).alloc _).below hx | replace oa := (((oa.alloc _).alloc _).alloc _).below hx | replace oa := (oa.set2 _ _).below hx | replace oa := ((oa.setCell (by simp <;> omega) _).setCell (by simp <;> omega) _).below hx
      obtain ⟨c0_oa, c1_oa, f0_oa, f1_oa, z_oa⟩ := oa.two
      try clear c0_ob c1_ob f0_ob f1_ob z_ob
      first | replace ob := ob.below hx | replace ob := (ob.alloc _).below hx | replace ob := ((ob.alloc _).alloc _).below hx | replace ob := (((ob.alloc _).alloc _).alloc _).below hx | replace ob := (ob.set2 _ _).below hx | replace ob := ((ob.setCell (by simp <;> omega) _).setCell (by simp <;> omega) _).below hx
      obtain ⟨c0_ob, c1_ob, f0_ob, f1_ob, z_ob⟩ := ob.two
      try clear c0_oc c1_oc f0_oc f1_oc z_oc
      first | replace oc := oc.below hx | replace oc := (oc.alloc _).below hx | replace oc := ((oc.alloc _).alloc _).below hx | replace oc := (((oc.alloc _).alloc _).alloc _).below hx | replace oc := (oc.set2 _ _).below hx | replace oc := ((oc.setCell (by simp <;> omega) _).setCell (by simp <;> omega) _).below hx
      obtain ⟨c0_oc, c1_oc, f0_oc, f1_oc, z_oc⟩ := oc.two
      try clear c0_ox c1_ox f0_ox f1_ox z_ox
      first | replace ox := ox.below hx | replace ox := (ox.alloc _).below hx | replace ox := ((ox.alloc _).alloc _).below hx | replace ox := (((ox.alloc _).alloc _).alloc _).below hx | replace ox := (ox.set2 _ _).below hx | replace ox := ((ox.setCell (by simp <;> omega) _).setCell (by simp <;> omega) _).below hx
      obtain ⟨c0_ox, c1_ox, f0_ox, f1_ox, z_ox⟩ := ox.two
      replace hb : Below w.heap.size w w9 := Below.trans (by (repeat (first | exact Below.refl _ _ | assumption | refine Below.drew ?_ | refine below_drewN ?_ _ | refine Below.setCell ?_ (by first | omega | (simp <;> omega)) _ | refine Below.alloc ?_ (by have := hb.size; first | omega | (simp <;> omega)) _))) (hx.mono (by have := hb.size; first | omega | (simp <;> omega)))
      clear hx
      go_wp2_with fail
      refine (add_at AS.out).mono ?_
      rintro e w10 ⟨rfl, hx⟩
      try clear c0_oa c1_oa f0_oa f1_oa z_oa
      first | replace oa := oa.below hx | replace oa := (oa.alloc _).below hx | replace oa := ((oa.alloc _).alloc _).below hx | replace oa := (((oa.alloc _).alloc _).alloc _).below hx | replace oa := (oa.set2 _ _).below hx | replace oa := ((oa.setCell (by simp <;> omega) _).setCell (by simp <;> omega) _).below hx
      obtain ⟨c0_oa, c1_oa, f0_oa, f1_oa, z_oa⟩ := oa.two
      try clear c0_ob c1_ob f0_ob f1_ob z_ob
      first | replace ob := ob.below hx | replace ob := (ob.alloc _).below hx | replace ob := ((ob.alloc _).alloc _).below hx | replace ob := (((ob.alloc _).alloc _).alloc _).below hx | replace ob := (ob.set2 _ _).below hx | replace ob := ((ob.setCell (by simp <;> omega) _).setCell (by simp <;> omega) _).below hx
      obtain ⟨c0_ob, c1_ob, f0_ob, f1_ob, z_ob⟩ := ob.two
      try clear c0_oc c1_oc f0_oc f1_oc z_oc
      first | replace oc := oc.below hx | replace oc := (oc.alloc _).below hx | replace oc := ((oc.alloc _).alloc _).below hx | replace oc := (((oc.alloc _).alloc _).alloc _).below hx | replace oc := (oc.set2 _ _).below hx | replace oc := ((oc.setCell (by simp <;> omega) _).setCell (by simp <;> omega) _).below hx
      obtain ⟨c0_oc, c1_oc, f0_oc, f1_oc, z_oc⟩ := oc.two
      try clear c0_ox c1_ox f0_ox f1_ox z_ox
      first | replace ox := ox.below hx | replace ox := (ox.alloc _).below hx | replace ox := ((ox.alloc _).alloc _).below hx | replace ox := (((ox.alloc _).alloc _).alloc _).below hx | replace ox := (ox.set2 _ _).below hx | replace ox := ((ox.setCell (by simp <;> omega) _).setCell (by simp <;> omega) _).below hx
      obtain ⟨c0_ox, c1_ox, f0_ox, f1_ox, z_ox⟩ := ox.two
      replace hb : Below w.heap.size w w10 := Below.trans (by (repeat (first | exact Below.refl _ _ | assumption | refine Below.drew ?_ | refine below_drewN ?_ _ | refine Below.setCell ?_ (by first | omega | (simp <;> omega)) _ | refine Below.alloc ?_ (by have := hb.size; first | omega | (simp <;> omega)) _))) (hx.mono (by have := hb.size; first | omega | (simp <;> omega)))
      clear hx
      go_wp2_with fail
      refine (mul_at MZ.out).mono ?_
      rintro e w11 ⟨rfl, hx⟩
      try clear c0_oa c1_oa f0_oa f1_oa z_oa
      first | replace oa := oa.below hx | replace oa := (oa.alloc _).below hx | replace oa := ((oa.alloc _).alloc _).below hx | replace oa := (((oa.alloc _).alloc _).alloc _).below hx | replace oa := (oa.set2 _ _).below hx | replace oa := ((oa.setCell (by simp <;> omega) _).setCell (by simp <;> omega) _).below hx
      obtain ⟨c0_oa, c1_oa, f0_oa, f1_oa, z_oa⟩ := oa.two
      try clear c0_ob c1_ob f0_ob f1_ob z_ob
      first | replace ob := ob.below hx | replace ob := (ob.alloc _).below hx | replace ob := ((ob.alloc _).alloc _).below hx | replace ob := (((ob.alloc _).alloc _).alloc _).below hx | replace ob := (ob.set2 _ _).below hx | replace ob := ((ob.setCell (by simp <;> omega) _).setCell (by simp <;> omega) _).below hx
      obtain ⟨c0_ob, c1_ob, f0_ob, f1_ob, z_ob⟩ := ob.two
      try clear c0_oc c1_oc f0_oc f1_oc z_oc
      first | replace oc := oc.below hx | replace oc := (oc.alloc _).below hx | replace oc := ((oc.alloc _).alloc _).below hx | replace oc := (((oc.alloc _).alloc _).alloc _).below hx | replace oc := (oc.set2 _ _).below hx | replace oc := ((oc.setCell (by simp <;> omega) _).setCell (by simp <;> omega) _).below hx
      obtain ⟨c0_oc, c1_oc, f0_oc, f1_oc, z_oc⟩ := oc.two
      try clear c0_ox c1_ox f0_ox f1_ox z_ox
      first | replace ox := ox.below hx | replace ox := (ox.alloc _).below hx | replace ox := ((ox.alloc _).alloc _).below hx | replace ox := (((ox.alloc _).alloc _).alloc _).below hx | replace ox := (ox.set2 _ _).below hx | replace ox := ((ox.setCell (by simp <;> omega) _).setCell (by simp <;> omega) _).below hx
      obtain ⟨c0_ox, c1_ox, f0_ox, f1_ox, z_ox⟩ := ox.two
      try clear c0_os c1_os f0_os f1_os z_os
      first | have os := (Own.new w10 _ _).below hx | have os := ((Own.new w10 _ _).alloc _).below hx | have os := (((Own.new w10 _ _).alloc _).alloc _).below hx | have os := ((((Own.new w10 _ _).alloc _).alloc _).alloc _).below hx | have os := ((Own.new w10 _ _).set2 _ _).below hx | have os := (((Own.new w10 _ _).setCell (by simp <;> omega) _).setCell (by simp <;> omega) _).below hx
      obtain ⟨c0_os, c1_os, f0_os, f1_os, z_os⟩ := os.two
      replace hb : Below w.heap.size w w11 := Below.trans (by (repeat (first | exact Below.refl _ _ | assumption | refine Below.drew ?_ | refine below_drewN ?_ _ | refine Below.setCell ?_ (by first | omega | (simp <;> omega)) _ | refine Below.alloc ?_ (by have := hb.size; first | omega | (simp <;> omega)) _))) (hx.mono (by have := hb.size; first | omega | (simp <;> omega)))
      clear hx
      go_wp2_with fail
      go_ret
      exact Ret.mk rfl (by (have hbs := hb.size; repeat (first | exact Below.refl _ _ | assumption | refine Below.drew ?_ | refine below_drewN ?_ _ | refine Below.setCell ?_ (by first | omega | (simp <;> omega)) _ | refine Below.alloc ?_ (by first | omega | (simp <;> omega)) _)))
end Go.Proofs.Ytojjjbhkpcmooaa
