/-
  RatioParts: walks, one a case.
-/
import Derived.Test.YtojjjbhkpcmooaaLawPartsB
namespace Go.Proofs.Ytojjjbhkpcmooaa
open Go.ChangeShapes Go.WideShapes Go.ChangeAt Go.RowKit Go.Joins
set_option linter.unusedVariables false

set_option maxHeartbeats 3200000 in
set_option maxRecDepth 100000 in
theorem parts_far (n m a1 a2 y A k : Int) (n1 : -2147483648 ≤ n) (n2 : n ≤ 2147483647) (m1 : 0 ≤ m) (m2 : m ≤ 65535) (y1 : 0 ≤ y) (y2 : y ≤ 255) (HA : Hid (n.tmod 1000000000 = A)) (HK : Hid (1 + y % 3 = k)) (t1 : -1000000000 < n.tmod 1000000000) (t2 : n.tmod 1000000000 < 1000000000) (A1 : -1000000000 < A) (A2 : A < 1000000000) (k1 : 1 ≤ k) (k2 : k ≤ 3) (VA : Hid (vldB a1 a2 = true)) (b1 : decide (1000000000 < A + m) = true) (w : World) : Calls Try.prog 9 #[.int .i32 n, .int .u16 m, .agg #[.int .i64 a1, .int .i64 a2], .int .u8 y] w (Ret (.bool true) w) := by
  have hb : Below w.heap.size w w := Below.refl _ _
  go_enter Try.func9, Try.ntmps9
  go_wp2_with fail
  refine (head_any _).mono ?_
  rintro e w1 ⟨rfl, hx⟩
  try clear c0_oa c1_oa f0_oa f1_oa z_oa
  first | have oa := (Own.new w _ _).below hx | have oa := ((Own.new w _ _).alloc _).below hx | have oa := (((Own.new w _ _).alloc _).alloc _).below hx | have oa := ((((Own.new w _ _).alloc _).alloc _).alloc _).below hx | have oa := ((Own.new w _ _).set2 _ _).below hx | have oa := (((Own.new w _ _).setCell (by simp <;> omega) _).setCell (by simp <;> omega) _).below hx
  obtain ⟨c0_oa, c1_oa, f0_oa, f1_oa, z_oa⟩ := oa.two
  replace hb : Below w.heap.size w w1 := Below.trans (by (repeat (first | exact Below.refl _ _ | assumption | refine Below.drew ?_ | refine below_drewN ?_ _ | refine Below.setCell ?_ (by first | omega | (simp <;> omega)) _ | refine Below.alloc ?_ (by have := hb.size; first | omega | (simp <;> omega)) _))) (hx.mono (by have := hb.size; first | omega | (simp <;> omega)))
  clear hx
  go_wp2_with fail
  rw [HA.out, HK.out]
  refine (r_valid_at _ _ _ VA.out).mono ?_
  rintro e w2 ⟨rfl, hx⟩
  try clear c0_oa c1_oa f0_oa f1_oa z_oa
  first | replace oa := oa.below hx | replace oa := (oa.alloc _).below hx | replace oa := ((oa.alloc _).alloc _).below hx | replace oa := (((oa.alloc _).alloc _).alloc _).below hx | replace oa := (oa.set2 _ _).below hx | replace oa := ((oa.setCell (by simp <;> omega) _).setCell (by simp <;> omega) _).below hx
  obtain ⟨c0_oa, c1_oa, f0_oa, f1_oa, z_oa⟩ := oa.two
  replace hb : Below w.heap.size w w2 := Below.trans (by (repeat (first | exact Below.refl _ _ | assumption | refine Below.drew ?_ | refine below_drewN ?_ _ | refine Below.setCell ?_ (by first | omega | (simp <;> omega)) _ | refine Below.alloc ?_ (by have := hb.size; first | omega | (simp <;> omega)) _))) (hx.mono (by have := hb.size; first | omega | (simp <;> omega)))
  clear hx
  go_wp2_with fail
  go_ret
  exact Ret.mk rfl (by (have hbs := hb.size; repeat (first | exact Below.refl _ _ | assumption | refine Below.drew ?_ | refine below_drewN ?_ _ | refine Below.setCell ?_ (by first | omega | (simp <;> omega)) _ | refine Below.alloc ?_ (by first | omega | (simp <;> omega)) _)))

set_option maxHeartbeats 3200000 in
set_option maxRecDepth 100000 in
theorem parts_00b (n m a1 a2 y A k : Int) (n1 : -2147483648 ≤ n) (n2 : n ≤ 2147483647) (m1 : 0 ≤ m) (m2 : m ≤ 65535) (y1 : 0 ≤ y) (y2 : y ≤ 255) (HA : Hid (n.tmod 1000000000 = A)) (HK : Hid (1 + y % 3 = k)) (t1 : -1000000000 < n.tmod 1000000000) (t2 : n.tmod 1000000000 < 1000000000) (A1 : -1000000000 < A) (A2 : A < 1000000000) (k1 : 1 ≤ k) (k2 : k ≤ 3) (p q x z : Int) (VA : Hid (vldB a1 a2 = true)) (b1 : decide (1000000000 < A + m) = false) (P1 : Hid (partF A a1 a2 k = (x, 0))) (P2 : Hid (partF (A + m) a1 a2 k = (z, 0))) (MU : Hid (mulF A 1 a1 a2 = (p, q, 0))) (RZ : Hid (roundF p q k = (x, 0))) (f1 : decide (a1 < 0) = true) (w : World) : Calls Try.prog 9 #[.int .i32 n, .int .u16 m, .agg #[.int .i64 a1, .int .i64 a2], .int .u8 y] w (Ret (.bool true) w) := by
  have hb : Below w.heap.size w w := Below.refl _ _
  go_enter Try.func9, Try.ntmps9
  go_wp2_with fail
  refine (head_any _).mono ?_
  rintro e w1 ⟨rfl, hx⟩
  try clear c0_oa c1_oa f0_oa f1_oa z_oa
  first | have oa := (Own.new w _ _).below hx | have oa := ((Own.new w _ _).alloc _).below hx | have oa := (((Own.new w _ _).alloc _).alloc _).below hx | have oa := ((((Own.new w _ _).alloc _).alloc _).alloc _).below hx | have oa := ((Own.new w _ _).set2 _ _).below hx | have oa := (((Own.new w _ _).setCell (by simp <;> omega) _).setCell (by simp <;> omega) _).below hx
  obtain ⟨c0_oa, c1_oa, f0_oa, f1_oa, z_oa⟩ := oa.two
  replace hb : Below w.heap.size w w1 := Below.trans (by (repeat (first | exact Below.refl _ _ | assumption | refine Below.drew ?_ | refine below_drewN ?_ _ | refine Below.setCell ?_ (by first | omega | (simp <;> omega)) _ | refine Below.alloc ?_ (by have := hb.size; first | omega | (simp <;> omega)) _))) (hx.mono (by have := hb.size; first | omega | (simp <;> omega)))
  clear hx
  go_wp2_with fail
  rw [HA.out, HK.out]
  refine (r_valid_at _ _ _ VA.out).mono ?_
  rintro e w2 ⟨rfl, hx⟩
  try clear c0_oa c1_oa f0_oa f1_oa z_oa
  first | replace oa := oa.below hx | replace oa := (oa.alloc _).below hx | replace oa := ((oa.alloc _).alloc _).below hx | replace oa := (((oa.alloc _).alloc _).alloc _).below hx | replace oa := (oa.set2 _ _).below hx | replace oa := ((oa.setCell (by simp <;> omega) _).setCell (by simp <;> omega) _).below hx
  obtain ⟨c0_oa, c1_oa, f0_oa, f1_oa, z_oa⟩ := oa.two
  replace hb : Below w.heap.size w w2 := Below.trans (by (repeat (first | exact Below.refl _ _ | assumption | refine Below.drew ?_ | refine below_drewN ?_ _ | refine Below.setCell ?_ (by first | omega | (simp <;> omega)) _ | refine Below.alloc ?_ (by have := hb.size; first | omega | (simp <;> omega)) _))) (hx.mono (by have := hb.size; first | omega | (simp <;> omega)))
  clear hx
  go_wp2_with fail
  refine (part_at P1.out).mono ?_
  rintro e w3 ⟨rfl, hx⟩
  try clear c0_oa c1_oa f0_oa f1_oa z_oa
  first | replace oa := oa.below hx | replace oa := (oa.alloc _).below hx | replace oa := ((oa.alloc _).alloc _).below hx | replace oa := (((oa.alloc _).alloc _).alloc _).below hx | replace oa := (oa.set2 _ _).below hx | replace oa := ((oa.setCell (by simp <;> omega) _).setCell (by simp <;> omega) _).below hx
  obtain ⟨c0_oa, c1_oa, f0_oa, f1_oa, z_oa⟩ := oa.two
  replace hb : Below w.heap.size w w3 := Below.trans (by (repeat (first | exact Below.refl _ _ | assumption | refine Below.drew ?_ | refine below_drewN ?_ _ | refine Below.setCell ?_ (by first | omega | (simp <;> omega)) _ | refine Below.alloc ?_ (by have := hb.size; first | omega | (simp <;> omega)) _))) (hx.mono (by have := hb.size; first | omega | (simp <;> omega)))
  clear hx
  go_wp2_with fail
  refine (part_at P2.out).mono ?_
  rintro e w4 ⟨rfl, hx⟩
  try clear c0_oa c1_oa f0_oa f1_oa z_oa
  first | replace oa := oa.below hx | replace oa := (oa.alloc _).below hx | replace oa := ((oa.alloc _).alloc _).below hx | replace oa := (((oa.alloc _).alloc _).alloc _).below hx | replace oa := (oa.set2 _ _).below hx | replace oa := ((oa.setCell (by simp <;> omega) _).setCell (by simp <;> omega) _).below hx
  obtain ⟨c0_oa, c1_oa, f0_oa, f1_oa, z_oa⟩ := oa.two
  replace hb : Below w.heap.size w w4 := Below.trans (by (repeat (first | exact Below.refl _ _ | assumption | refine Below.drew ?_ | refine below_drewN ?_ _ | refine Below.setCell ?_ (by first | omega | (simp <;> omega)) _ | refine Below.alloc ?_ (by have := hb.size; first | omega | (simp <;> omega)) _))) (hx.mono (by have := hb.size; first | omega | (simp <;> omega)))
  clear hx
  have q1 : w.heap.size < w4.heap.size + 1 := by omega
  have KA := Lib.hid (fun (W : World) (o : Obj) (h : W.cell? ⟨w.heap.size, 0, none⟩ = some (.int .i64 a1) ∧ W.cell? ⟨w.heap.size, 1, none⟩ = some (.int .i64 a2)) (hz : w.heap.size < W.heap.size) => (⟨(World.cell?_alloc_past o _ _ hz).trans h.1, (World.cell?_alloc_past o _ _ hz).trans h.2⟩ : (W.alloc o).cell? ⟨w.heap.size, 0, none⟩ = some (.int .i64 a1) ∧ (W.alloc o).cell? ⟨w.heap.size, 1, none⟩ = some (.int .i64 a2)))
  have KB := Lib.hid (fun (W : World) (o o' : Obj) (h : (W.alloc o').cell? ⟨w.heap.size, 0, none⟩ = some (.int .i64 a1) ∧ (W.alloc o').cell? ⟨w.heap.size, 1, none⟩ = some (.int .i64 a2)) (hz : w.heap.size < W.heap.size) => (⟨(World.cell?_alloc_past o _ _ hz).trans ((World.cell?_alloc_past o' _ _ hz).symm.trans h.1), (World.cell?_alloc_past o _ _ hz).trans ((World.cell?_alloc_past o' _ _ hz).symm.trans h.2)⟩ : (W.alloc o).cell? ⟨w.heap.size, 0, none⟩ = some (.int .i64 a1) ∧ (W.alloc o).cell? ⟨w.heap.size, 1, none⟩ = some (.int .i64 a2)))
  have KS := Lib.hid (fun (W : World) (B i j : Nat) (u v : Value) (h : W.cell? ⟨w.heap.size, 0, none⟩ = some (.int .i64 a1) ∧ W.cell? ⟨w.heap.size, 1, none⟩ = some (.int .i64 a2)) (hz : w.heap.size < B) (_ : w.heap.size < B) => (⟨by rw [World.cell?_setCell_other _ _ _ _ (by simp <;> omega), World.cell?_setCell_other _ _ _ _ (by simp <;> omega)]; exact h.1, by rw [World.cell?_setCell_other _ _ _ _ (by simp <;> omega), World.cell?_setCell_other _ _ _ _ (by simp <;> omega)]; exact h.2⟩ : ((W.setCell ⟨B, i, none⟩ u).setCell ⟨B, j, none⟩ v).cell? ⟨w.heap.size, 0, none⟩ = some (.int .i64 a1) ∧ ((W.setCell ⟨B, i, none⟩ u).setCell ⟨B, j, none⟩ v).cell? ⟨w.heap.size, 1, none⟩ = some (.int .i64 a2)))
  go_upto_region 8 with fail
  go_cut [17, 18] (fun s17 s18 wx => ∃ B : Nat, s17 = .pointer (some ⟨B, 0, none⟩) ∧ s18 = .int .i64 0 ∧ Own wx w.heap.size [.int .i64 a1, .int .i64 a2] ∧ Own wx B [.int .i64 p, .int .i64 q] ∧ Below w.heap.size w wx)
  case first =>
    go_region_held3 (fun w' => w'.cell? ⟨w.heap.size, 0, none⟩ = some (.int .i64 a1) ∧ w'.cell? ⟨w.heap.size, 1, none⟩ = some (.int .i64 a2)) (first | go_keep | exact ⟨cell_later hx (by simp [*]), cell_later hx (by simp [*])⟩ | exact KA.out _ _ (by assumption) (by omega) | exact KB.out _ _ _ (by assumption) (by omega) | exact KS.out _ _ _ _ _ _ (by assumption) (by omega) (by omega))
      (first | (go_at_call 27; refine (rat_any _ _ _).mono ?_; rintro e w' ⟨rfl, hx⟩; obtain ⟨hcx, hfx⟩ := bcell hx; have hsx := hx.size; (try simp at hsx); (try have hzx : w4.heap.size < w'.heap.size := (by omega)); have hzy : w.heap.size < w'.heap.size := (by omega); clear hsx) | (go_at_call 19; refine (mul_at MU.out).mono ?_; rintro e w' ⟨rfl, hx⟩; obtain ⟨hcx, hfx⟩ := bcell hx; have hsx := hx.size; (try simp at hsx); (try have hzx : w4.heap.size < w'.heap.size := (by omega)); have hzy : w.heap.size < w'.heap.size := (by omega); clear hsx))
    all_goals
      go_wp2_with fail
      go_meet
      refine ⟨_, rfl, rfl, ?_, ?_, ?_⟩
      · (repeat (first | exact oa | exact Own.new _ _ _ | exact Own.at _ _ _ _ (by simp) | refine Own.set2 (x := .int .i64 0) (y := .int .i64 0) ?_ _ _ | refine Own.setCell ?_ (by simp <;> omega) _ | refine Own.alloc ?_ _ | refine Own.drew ?_ | refine Own.below ?_ (by assumption)))
      · (repeat (first | exact oa | exact Own.new _ _ _ | exact Own.at _ _ _ _ (by simp) | refine Own.set2 (x := .int .i64 0) (y := .int .i64 0) ?_ _ _ | refine Own.setCell ?_ (by simp <;> omega) _ | refine Own.alloc ?_ _ | refine Own.drew ?_ | refine Own.below ?_ (by assumption)))
      · (repeat (first | exact hb | refine Below.drew ?_ | refine Below.setCell ?_ (by first | omega | (simp <;> omega)) _ | refine belowAlloc ?_ _ | refine belowStep ?_ (by assumption)))
  case rest =>
    clear KA KB KS q1 c0_oa c1_oa f0_oa f1_oa z_oa oa hb
    obtain ⟨B, rfl, rfl, oa, op, hb⟩ := hcut
    obtain ⟨c0_oa, c1_oa, f0_oa, f1_oa, z_oa⟩ := oa.two
    obtain ⟨c0_op, c1_op, f0_op, f1_op, z_op⟩ := op.two
    go_wp2_with fail
    refine (round_at RZ.out).mono ?_
    rintro e' w5 ⟨rfl, hx⟩
    obtain ⟨c0_oa, c1_oa, f0_oa, f1_oa, z_oa⟩ := (oa.below hx).two
    have hb2 := belowStep hb hx
    go_wp2_with fail
    go_ret
    exact Ret.mk rfl (by first | exact hb2 | exact hb)

set_option maxHeartbeats 3200000 in
set_option maxRecDepth 100000 in
theorem parts_30c (n m a1 a2 y A k : Int) (n1 : -2147483648 ≤ n) (n2 : n ≤ 2147483647) (m1 : 0 ≤ m) (m2 : m ≤ 65535) (y1 : 0 ≤ y) (y2 : y ≤ 255) (HA : Hid (n.tmod 1000000000 = A)) (HK : Hid (1 + y % 3 = k)) (t1 : -1000000000 < n.tmod 1000000000) (t2 : n.tmod 1000000000 < 1000000000) (A1 : -1000000000 < A) (A2 : A < 1000000000) (k1 : 1 ≤ k) (k2 : k ≤ 3) (p q x z : Int) (VA : Hid (vldB a1 a2 = true)) (b1 : decide (1000000000 < A + m) = false) (P1 : Hid (partF A a1 a2 k = (x, 0))) (P2 : Hid (partF (A + m) a1 a2 k = (z, 0))) (MU : Hid (mulF A 1 a1 a2 = (p, q, 3))) (f1 : decide (a1 < 0) = false) (f2 : decide (x ≤ z) = true) (w : World) : Calls Try.prog 9 #[.int .i32 n, .int .u16 m, .agg #[.int .i64 a1, .int .i64 a2], .int .u8 y] w (Ret (.bool true) w) := by
  have hb : Below w.heap.size w w := Below.refl _ _
  go_enter Try.func9, Try.ntmps9
  go_wp2_with fail
  refine (head_any _).mono ?_
  rintro e w1 ⟨rfl, hx⟩
  try clear c0_oa c1_oa f0_oa f1_oa z_oa
  first | have oa := (Own.new w _ _).below hx | have oa := ((Own.new w _ _).alloc _).below hx | have oa := (((Own.new w _ _).alloc _).alloc _).below hx | have oa := ((((Own.new w _ _).alloc _).alloc _).alloc _).below hx | have oa := ((Own.new w _ _).set2 _ _).below hx | have oa := (((Own.new w _ _).setCell (by simp <;> omega) _).setCell (by simp <;> omega) _).below hx
  obtain ⟨c0_oa, c1_oa, f0_oa, f1_oa, z_oa⟩ := oa.two
  replace hb : Below w.heap.size w w1 := Below.trans (by (repeat (first | exact Below.refl _ _ | assumption | refine Below.drew ?_ | refine below_drewN ?_ _ | refine Below.setCell ?_ (by first | omega | (simp <;> omega)) _ | refine Below.alloc ?_ (by have := hb.size; first | omega | (simp <;> omega)) _))) (hx.mono (by have := hb.size; first | omega | (simp <;> omega)))
  clear hx
  go_wp2_with fail
  rw [HA.out, HK.out]
  refine (r_valid_at _ _ _ VA.out).mono ?_
  rintro e w2 ⟨rfl, hx⟩
  try clear c0_oa c1_oa f0_oa f1_oa z_oa
  first | replace oa := oa.below hx | replace oa := (oa.alloc _).below hx | replace oa := ((oa.alloc _).alloc _).below hx | replace oa := (((oa.alloc _).alloc _).alloc _).below hx | replace oa := (oa.set2 _ _).below hx | replace oa := ((oa.setCell (by simp <;> omega) _).setCell (by simp <;> omega) _).below hx
  obtain ⟨c0_oa, c1_oa, f0_oa, f1_oa, z_oa⟩ := oa.two
  replace hb : Below w.heap.size w w2 := Below.trans (by (repeat (first | exact Below.refl _ _ | assumption | refine Below.drew ?_ | refine below_drewN ?_ _ | refine Below.setCell ?_ (by first | omega | (simp <;> omega)) _ | refine Below.alloc ?_ (by have := hb.size; first | omega | (simp <;> omega)) _))) (hx.mono (by have := hb.size; first | omega | (simp <;> omega)))
  clear hx
  go_wp2_with fail
  refine (part_at P1.out).mono ?_
  rintro e w3 ⟨rfl, hx⟩
  try clear c0_oa c1_oa f0_oa f1_oa z_oa
  first | replace oa := oa.below hx | replace oa := (oa.alloc _).below hx | replace oa := ((oa.alloc _).alloc _).below hx | replace oa := (((oa.alloc _).alloc _).alloc _).below hx | replace oa := (oa.set2 _ _).below hx | replace oa := ((oa.setCell (by simp <;> omega) _).setCell (by simp <;> omega) _).below hx
  obtain ⟨c0_oa, c1_oa, f0_oa, f1_oa, z_oa⟩ := oa.two
  replace hb : Below w.heap.size w w3 := Below.trans (by (repeat (first | exact Below.refl _ _ | assumption | refine Below.drew ?_ | refine below_drewN ?_ _ | refine Below.setCell ?_ (by first | omega | (simp <;> omega)) _ | refine Below.alloc ?_ (by have := hb.size; first | omega | (simp <;> omega)) _))) (hx.mono (by have := hb.size; first | omega | (simp <;> omega)))
  clear hx
  go_wp2_with fail
  refine (part_at P2.out).mono ?_
  rintro e w4 ⟨rfl, hx⟩
  try clear c0_oa c1_oa f0_oa f1_oa z_oa
  first | replace oa := oa.below hx | replace oa := (oa.alloc _).below hx | replace oa := ((oa.alloc _).alloc _).below hx | replace oa := (((oa.alloc _).alloc _).alloc _).below hx | replace oa := (oa.set2 _ _).below hx | replace oa := ((oa.setCell (by simp <;> omega) _).setCell (by simp <;> omega) _).below hx
  obtain ⟨c0_oa, c1_oa, f0_oa, f1_oa, z_oa⟩ := oa.two
  replace hb : Below w.heap.size w w4 := Below.trans (by (repeat (first | exact Below.refl _ _ | assumption | refine Below.drew ?_ | refine below_drewN ?_ _ | refine Below.setCell ?_ (by first | omega | (simp <;> omega)) _ | refine Below.alloc ?_ (by have := hb.size; first | omega | (simp <;> omega)) _))) (hx.mono (by have := hb.size; first | omega | (simp <;> omega)))
  clear hx
  have q1 : w.heap.size < w4.heap.size + 1 := by omega
  have KA := Lib.hid (fun (W : World) (o : Obj) (h : W.cell? ⟨w.heap.size, 0, none⟩ = some (.int .i64 a1) ∧ W.cell? ⟨w.heap.size, 1, none⟩ = some (.int .i64 a2)) (hz : w.heap.size < W.heap.size) => (⟨(World.cell?_alloc_past o _ _ hz).trans h.1, (World.cell?_alloc_past o _ _ hz).trans h.2⟩ : (W.alloc o).cell? ⟨w.heap.size, 0, none⟩ = some (.int .i64 a1) ∧ (W.alloc o).cell? ⟨w.heap.size, 1, none⟩ = some (.int .i64 a2)))
  have KB := Lib.hid (fun (W : World) (o o' : Obj) (h : (W.alloc o').cell? ⟨w.heap.size, 0, none⟩ = some (.int .i64 a1) ∧ (W.alloc o').cell? ⟨w.heap.size, 1, none⟩ = some (.int .i64 a2)) (hz : w.heap.size < W.heap.size) => (⟨(World.cell?_alloc_past o _ _ hz).trans ((World.cell?_alloc_past o' _ _ hz).symm.trans h.1), (World.cell?_alloc_past o _ _ hz).trans ((World.cell?_alloc_past o' _ _ hz).symm.trans h.2)⟩ : (W.alloc o).cell? ⟨w.heap.size, 0, none⟩ = some (.int .i64 a1) ∧ (W.alloc o).cell? ⟨w.heap.size, 1, none⟩ = some (.int .i64 a2)))
  have KS := Lib.hid (fun (W : World) (B i j : Nat) (u v : Value) (h : W.cell? ⟨w.heap.size, 0, none⟩ = some (.int .i64 a1) ∧ W.cell? ⟨w.heap.size, 1, none⟩ = some (.int .i64 a2)) (hz : w.heap.size < B) (_ : w.heap.size < B) => (⟨by rw [World.cell?_setCell_other _ _ _ _ (by simp <;> omega), World.cell?_setCell_other _ _ _ _ (by simp <;> omega)]; exact h.1, by rw [World.cell?_setCell_other _ _ _ _ (by simp <;> omega), World.cell?_setCell_other _ _ _ _ (by simp <;> omega)]; exact h.2⟩ : ((W.setCell ⟨B, i, none⟩ u).setCell ⟨B, j, none⟩ v).cell? ⟨w.heap.size, 0, none⟩ = some (.int .i64 a1) ∧ ((W.setCell ⟨B, i, none⟩ u).setCell ⟨B, j, none⟩ v).cell? ⟨w.heap.size, 1, none⟩ = some (.int .i64 a2)))
  go_upto_region 8 with fail
  go_cut [17, 18] (fun s17 s18 wx => ∃ B : Nat, s17 = .pointer (some ⟨B, 0, none⟩) ∧ s18 = .int .i64 3 ∧ Own wx w.heap.size [.int .i64 a1, .int .i64 a2] ∧ Own wx B [.int .i64 p, .int .i64 q] ∧ Below w.heap.size w wx)
  case first =>
    go_region_held3 (fun w' => w'.cell? ⟨w.heap.size, 0, none⟩ = some (.int .i64 a1) ∧ w'.cell? ⟨w.heap.size, 1, none⟩ = some (.int .i64 a2)) (first | go_keep | exact ⟨cell_later hx (by simp [*]), cell_later hx (by simp [*])⟩ | exact KA.out _ _ (by assumption) (by omega) | exact KB.out _ _ _ (by assumption) (by omega) | exact KS.out _ _ _ _ _ _ (by assumption) (by omega) (by omega))
      (first | (go_at_call 27; refine (rat_any _ _ _).mono ?_; rintro e w' ⟨rfl, hx⟩; obtain ⟨hcx, hfx⟩ := bcell hx; have hsx := hx.size; (try simp at hsx); (try have hzx : w4.heap.size < w'.heap.size := (by omega)); have hzy : w.heap.size < w'.heap.size := (by omega); clear hsx) | (go_at_call 19; refine (mul_at MU.out).mono ?_; rintro e w' ⟨rfl, hx⟩; obtain ⟨hcx, hfx⟩ := bcell hx; have hsx := hx.size; (try simp at hsx); (try have hzx : w4.heap.size < w'.heap.size := (by omega)); have hzy : w.heap.size < w'.heap.size := (by omega); clear hsx))
    all_goals
      go_wp2_with fail
      go_meet
      refine ⟨_, rfl, rfl, ?_, ?_, ?_⟩
      · (repeat (first | exact oa | exact Own.new _ _ _ | exact Own.at _ _ _ _ (by simp) | refine Own.set2 (x := .int .i64 0) (y := .int .i64 0) ?_ _ _ | refine Own.setCell ?_ (by simp <;> omega) _ | refine Own.alloc ?_ _ | refine Own.drew ?_ | refine Own.below ?_ (by assumption)))
      · (repeat (first | exact oa | exact Own.new _ _ _ | exact Own.at _ _ _ _ (by simp) | refine Own.set2 (x := .int .i64 0) (y := .int .i64 0) ?_ _ _ | refine Own.setCell ?_ (by simp <;> omega) _ | refine Own.alloc ?_ _ | refine Own.drew ?_ | refine Own.below ?_ (by assumption)))
      · (repeat (first | exact hb | refine Below.drew ?_ | refine Below.setCell ?_ (by first | omega | (simp <;> omega)) _ | refine belowAlloc ?_ _ | refine belowStep ?_ (by assumption)))
  case rest =>
    clear KA KB KS q1 c0_oa c1_oa f0_oa f1_oa z_oa oa hb
    obtain ⟨B, rfl, rfl, oa, op, hb⟩ := hcut
    obtain ⟨c0_oa, c1_oa, f0_oa, f1_oa, z_oa⟩ := oa.two
    obtain ⟨c0_op, c1_op, f0_op, f1_op, z_op⟩ := op.two
    go_wp2_with fail
    go_ret
    exact Ret.mk rfl (by first | exact hb2 | exact hb)

set_option maxHeartbeats 3200000 in
set_option maxRecDepth 100000 in
theorem parts_33 (n m a1 a2 y A k : Int) (n1 : -2147483648 ≤ n) (n2 : n ≤ 2147483647) (m1 : 0 ≤ m) (m2 : m ≤ 65535) (y1 : 0 ≤ y) (y2 : y ≤ 255) (HA : Hid (n.tmod 1000000000 = A)) (HK : Hid (1 + y % 3 = k)) (t1 : -1000000000 < n.tmod 1000000000) (t2 : n.tmod 1000000000 < 1000000000) (A1 : -1000000000 < A) (A2 : A < 1000000000) (k1 : 1 ≤ k) (k2 : k ≤ 3) (p q x z f : Int) (VA : Hid (vldB a1 a2 = true)) (b1 : decide (1000000000 < A + m) = false) (P1 : Hid (partF A a1 a2 k = (x, 3))) (P2 : Hid (partF (A + m) a1 a2 k = (z, f))) (MU : Hid (mulF A 1 a1 a2 = (p, q, 3))) (w : World) : Calls Try.prog 9 #[.int .i32 n, .int .u16 m, .agg #[.int .i64 a1, .int .i64 a2], .int .u8 y] w (Ret (.bool true) w) := by
  have hb : Below w.heap.size w w := Below.refl _ _
  go_enter Try.func9, Try.ntmps9
  go_wp2_with fail
  refine (head_any _).mono ?_
  rintro e w1 ⟨rfl, hx⟩
  try clear c0_oa c1_oa f0_oa f1_oa z_oa
  first | have oa := (Own.new w _ _).below hx | have oa := ((Own.new w _ _).alloc _).below hx | have oa := (((Own.new w _ _).alloc _).alloc _).below hx | have oa := ((((Own.new w _ _).alloc _).alloc _).alloc _).below hx | have oa := ((Own.new w _ _).set2 _ _).below hx | have oa := (((Own.new w _ _).setCell (by simp <;> omega) _).setCell (by simp <;> omega) _).below hx
  obtain ⟨c0_oa, c1_oa, f0_oa, f1_oa, z_oa⟩ := oa.two
  replace hb : Below w.heap.size w w1 := Below.trans (by (repeat (first | exact Below.refl _ _ | assumption | refine Below.drew ?_ | refine below_drewN ?_ _ | refine Below.setCell ?_ (by first | omega | (simp <;> omega)) _ | refine Below.alloc ?_ (by have := hb.size; first | omega | (simp <;> omega)) _))) (hx.mono (by have := hb.size; first | omega | (simp <;> omega)))
  clear hx
  go_wp2_with fail
  rw [HA.out, HK.out]
  refine (r_valid_at _ _ _ VA.out).mono ?_
  rintro e w2 ⟨rfl, hx⟩
  try clear c0_oa c1_oa f0_oa f1_oa z_oa
  first | replace oa := oa.below hx | replace oa := (oa.alloc _).below hx | replace oa := ((oa.alloc _).alloc _).below hx | replace oa := (((oa.alloc _).alloc _).alloc _).below hx | replace oa := (oa.set2 _ _).below hx | replace oa := ((oa.setCell (by simp <;> omega) _).setCell (by simp <;> omega) _).below hx
  obtain ⟨c0_oa, c1_oa, f0_oa, f1_oa, z_oa⟩ := oa.two
  replace hb : Below w.heap.size w w2 := Below.trans (by (repeat (first | exact Below.refl _ _ | assumption | refine Below.drew ?_ | refine below_drewN ?_ _ | refine Below.setCell ?_ (by first | omega | (simp <;> omega)) _ | refine Below.alloc ?_ (by have := hb.size; first | omega | (simp <;> omega)) _))) (hx.mono (by have := hb.size; first | omega | (simp <;> omega)))
  clear hx
  go_wp2_with fail
  refine (part_at P1.out).mono ?_
  rintro e w3 ⟨rfl, hx⟩
  try clear c0_oa c1_oa f0_oa f1_oa z_oa
  first | replace oa := oa.below hx | replace oa := (oa.alloc _).below hx | replace oa := ((oa.alloc _).alloc _).below hx | replace oa := (((oa.alloc _).alloc _).alloc _).below hx | replace oa := (oa.set2 _ _).below hx | replace oa := ((oa.setCell (by simp <;> omega) _).setCell (by simp <;> omega) _).below hx
  obtain ⟨c0_oa, c1_oa, f0_oa, f1_oa, z_oa⟩ := oa.two
  replace hb : Below w.heap.size w w3 := Below.trans (by (repeat (first | exact Below.refl _ _ | assumption | refine Below.drew ?_ | refine below_drewN ?_ _ | refine Below.setCell ?_ (by first | omega | (simp <;> omega)) _ | refine Below.alloc ?_ (by have := hb.size; first | omega | (simp <;> omega)) _))) (hx.mono (by have := hb.size; first | omega | (simp <;> omega)))
  clear hx
  go_wp2_with fail
  refine (part_at P2.out).mono ?_
  rintro e w4 ⟨rfl, hx⟩
  try clear c0_oa c1_oa f0_oa f1_oa z_oa
  first | replace oa := oa.below hx | replace oa := (oa.alloc _).below hx | replace oa := ((oa.alloc _).alloc _).below hx | replace oa := (((oa.alloc _).alloc _).alloc _).below hx | replace oa := (oa.set2 _ _).below hx | replace oa := ((oa.setCell (by simp <;> omega) _).setCell (by simp <;> omega) _).below hx
  obtain ⟨c0_oa, c1_oa, f0_oa, f1_oa, z_oa⟩ := oa.two
  replace hb : Below w.heap.size w w4 := Below.trans (by (repeat (first | exact Below.refl _ _ | assumption | refine Below.drew ?_ | refine below_drewN ?_ _ | refine Below.setCell ?_ (by first | omega | (simp <;> omega)) _ | refine Below.alloc ?_ (by have := hb.size; first | omega | (simp <;> omega)) _))) (hx.mono (by have := hb.size; first | omega | (simp <;> omega)))
  clear hx
  have q1 : w.heap.size < w4.heap.size + 1 := by omega
  have KA := Lib.hid (fun (W : World) (o : Obj) (h : W.cell? ⟨w.heap.size, 0, none⟩ = some (.int .i64 a1) ∧ W.cell? ⟨w.heap.size, 1, none⟩ = some (.int .i64 a2)) (hz : w.heap.size < W.heap.size) => (⟨(World.cell?_alloc_past o _ _ hz).trans h.1, (World.cell?_alloc_past o _ _ hz).trans h.2⟩ : (W.alloc o).cell? ⟨w.heap.size, 0, none⟩ = some (.int .i64 a1) ∧ (W.alloc o).cell? ⟨w.heap.size, 1, none⟩ = some (.int .i64 a2)))
  have KB := Lib.hid (fun (W : World) (o o' : Obj) (h : (W.alloc o').cell? ⟨w.heap.size, 0, none⟩ = some (.int .i64 a1) ∧ (W.alloc o').cell? ⟨w.heap.size, 1, none⟩ = some (.int .i64 a2)) (hz : w.heap.size < W.heap.size) => (⟨(World.cell?_alloc_past o _ _ hz).trans ((World.cell?_alloc_past o' _ _ hz).symm.trans h.1), (World.cell?_alloc_past o _ _ hz).trans ((World.cell?_alloc_past o' _ _ hz).symm.trans h.2)⟩ : (W.alloc o).cell? ⟨w.heap.size, 0, none⟩ = some (.int .i64 a1) ∧ (W.alloc o).cell? ⟨w.heap.size, 1, none⟩ = some (.int .i64 a2)))
  have KS := Lib.hid (fun (W : World) (B i j : Nat) (u v : Value) (h : W.cell? ⟨w.heap.size, 0, none⟩ = some (.int .i64 a1) ∧ W.cell? ⟨w.heap.size, 1, none⟩ = some (.int .i64 a2)) (hz : w.heap.size < B) (_ : w.heap.size < B) => (⟨by rw [World.cell?_setCell_other _ _ _ _ (by simp <;> omega), World.cell?_setCell_other _ _ _ _ (by simp <;> omega)]; exact h.1, by rw [World.cell?_setCell_other _ _ _ _ (by simp <;> omega), World.cell?_setCell_other _ _ _ _ (by simp <;> omega)]; exact h.2⟩ : ((W.setCell ⟨B, i, none⟩ u).setCell ⟨B, j, none⟩ v).cell? ⟨w.heap.size, 0, none⟩ = some (.int .i64 a1) ∧ ((W.setCell ⟨B, i, none⟩ u).setCell ⟨B, j, none⟩ v).cell? ⟨w.heap.size, 1, none⟩ = some (.int .i64 a2)))
  go_upto_region 8 with fail
  go_cut [17, 18] (fun s17 s18 wx => ∃ B : Nat, s17 = .pointer (some ⟨B, 0, none⟩) ∧ s18 = .int .i64 3 ∧ Own wx w.heap.size [.int .i64 a1, .int .i64 a2] ∧ Own wx B [.int .i64 p, .int .i64 q] ∧ Below w.heap.size w wx)
  case first =>
    go_region_held3 (fun w' => w'.cell? ⟨w.heap.size, 0, none⟩ = some (.int .i64 a1) ∧ w'.cell? ⟨w.heap.size, 1, none⟩ = some (.int .i64 a2)) (first | go_keep | exact ⟨cell_later hx (by simp [*]), cell_later hx (by simp [*])⟩ | exact KA.out _ _ (by assumption) (by omega) | exact KB.out _ _ _ (by assumption) (by omega) | exact KS.out _ _ _ _ _ _ (by assumption) (by omega) (by omega))
      (first | (go_at_call 27; refine (rat_any _ _ _).mono ?_; rintro e w' ⟨rfl, hx⟩; obtain ⟨hcx, hfx⟩ := bcell hx; have hsx := hx.size; (try simp at hsx); (try have hzx : w4.heap.size < w'.heap.size := (by omega)); have hzy : w.heap.size < w'.heap.size := (by omega); clear hsx) | (go_at_call 19; refine (mul_at MU.out).mono ?_; rintro e w' ⟨rfl, hx⟩; obtain ⟨hcx, hfx⟩ := bcell hx; have hsx := hx.size; (try simp at hsx); (try have hzx : w4.heap.size < w'.heap.size := (by omega)); have hzy : w.heap.size < w'.heap.size := (by omega); clear hsx))
    all_goals
      go_wp2_with fail
      go_meet
      refine ⟨_, rfl, rfl, ?_, ?_, ?_⟩
      · (repeat (first | exact oa | exact Own.new _ _ _ | exact Own.at _ _ _ _ (by simp) | refine Own.set2 (x := .int .i64 0) (y := .int .i64 0) ?_ _ _ | refine Own.setCell ?_ (by simp <;> omega) _ | refine Own.alloc ?_ _ | refine Own.drew ?_ | refine Own.below ?_ (by assumption)))
      · (repeat (first | exact oa | exact Own.new _ _ _ | exact Own.at _ _ _ _ (by simp) | refine Own.set2 (x := .int .i64 0) (y := .int .i64 0) ?_ _ _ | refine Own.setCell ?_ (by simp <;> omega) _ | refine Own.alloc ?_ _ | refine Own.drew ?_ | refine Own.below ?_ (by assumption)))
      · (repeat (first | exact hb | refine Below.drew ?_ | refine Below.setCell ?_ (by first | omega | (simp <;> omega)) _ | refine belowAlloc ?_ _ | refine belowStep ?_ (by assumption)))
  case rest =>
    clear KA KB KS q1 c0_oa c1_oa f0_oa f1_oa z_oa oa hb
    obtain ⟨B, rfl, rfl, oa, op, hb⟩ := hcut
    obtain ⟨c0_oa, c1_oa, f0_oa, f1_oa, z_oa⟩ := oa.two
    obtain ⟨c0_op, c1_op, f0_op, f1_op, z_op⟩ := op.two
    go_wp2_with fail
    go_ret
    exact Ret.mk rfl (by first | exact hb2 | exact hb)

end Go.Proofs.Ytojjjbhkpcmooaa
