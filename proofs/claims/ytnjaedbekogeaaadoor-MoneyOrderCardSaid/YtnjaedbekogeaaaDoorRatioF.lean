/-
  The walks of the ratio package: Round and Part.
-/
import Derived.Test.YtnjaedbekogeaaaDoorRatioE
namespace Go.Proofs.YtnjaedbekogeaaaDoor
open Go.RowKit
set_option maxRecDepth 100000

/-- The ways, looked up in a world that ends with their map. -/
theorem look_ways (i : Nat) (way : Int) (fn : Nat) (w0 : World) (h : Instr.findNow (.int .i64) (.int .i64 way) ways.toList 0 = some (some (i, fnV fn))) :
    (Instr.lookup 78 (.map (some w0.heap.size)) (.int .i64 way) true).run Tryd.prog (w0.alloc (.map ways 3)) = .ok (.tuple #[.agg #[.func (.func fn) #[] #[]], .bool true]) (w0.alloc (.map ways 3)) :=
  run_lookup_in Tryd.underlying78 Tryd.underlying3 _ _ ways 3 i way _ (MapKept.heap_alloc w0 _).1 h
theorem look_other (way : Int) (w0 : World) (h1 : way ≠ 1) (h2 : way ≠ 2) (h3 : way ≠ 3) :
    (Instr.lookup 78 (.map (some w0.heap.size)) (.int .i64 way) true).run Tryd.prog (w0.alloc (.map ways 3)) = .ok (.tuple #[.agg #[.nilFunc], .bool false]) (w0.alloc (.map ways 3)) :=
  run_lookup_out Tryd.underlying78 Tryd.underlying3 _ _ ways 3 way _ (by kernel_rfl) (MapKept.heap_alloc w0 _).1 (by
    have e1 : (way == 1) = false := by simpa using h1
    have e2 : (way == 2) = false := by simpa using h2
    have e3 : (way == 3) = false := by simpa using h3
    simp [ways, Instr.findNow, Instr.sameNow, e1, e2, e3])
theorem look1 (w0 : World) : (Instr.lookup 78 (.map (some w0.heap.size)) (.int .i64 1) true).run Tryd.prog (w0.alloc (.map ways 3)) = .ok (.tuple #[.agg #[.func (.func 56) #[] #[]], .bool true]) (w0.alloc (.map ways 3)) := look_ways 0 1 _ w0 rfl
theorem look2 (w0 : World) : (Instr.lookup 78 (.map (some w0.heap.size)) (.int .i64 2) true).run Tryd.prog (w0.alloc (.map ways 3)) = .ok (.tuple #[.agg #[.func (.func 57) #[] #[]], .bool true]) (w0.alloc (.map ways 3)) := look_ways 1 2 _ w0 rfl
theorem look3 (w0 : World) : (Instr.lookup 78 (.map (some w0.heap.size)) (.int .i64 3) true).run Tryd.prog (w0.alloc (.map ways 3)) = .ok (.tuple #[.agg #[.func (.func 58) #[] #[]], .bool true]) (w0.alloc (.map ways 3)) := look_ways 2 3 _ w0 rfl

set_option maxHeartbeats 400000 in
theorem part_far3 (n a b : Int) (w : World) (hn : wthB n 1000000000 = false) : Calls Tryd.prog 27 #[.int .i64 n, .agg #[.int .i64 a, .int .i64 b], .int .i64 3] w (Ret (.tuple #[.int .i64 0, .int .i64 1]) w) := by
  have Hn := Lib.hid hn
  clear hn
  have hk := look3 (w.alloc (.cells #[.int .i64 a, .int .i64 b] 40))
  simp only [World.size_alloc] at hk
  go_enter Tryd.func27, Tryd.ntmps27
  go_wp2_with fail
  refine (roundings_any _).mono ?_
  rintro e w' ⟨rfl, rfl⟩
  go_wp2_with fail
  refine (within_at _ _ _ (by omega) (by omega) Hn.out).mono ?_
  rintro e w' ⟨rfl, rfl⟩
  go_wp2_with fail
  go_ret2
  exact Ret.mk rfl (by (repeat (first | exact Below.refl _ _ | assumption | refine Below.drew ?_ | refine below_drewN ?_ _ | refine Below.setCell ?_ (by first | omega | (simp <;> omega)) _ | refine Below.alloc ?_ (by first | omega | (simp <;> omega)) _)))

set_option maxHeartbeats 400000 in
theorem part_bad3 (n a b : Int) (w : World) (hn : wthB n 1000000000 = true) (hv : vldB a b = false) : Calls Tryd.prog 27 #[.int .i64 n, .agg #[.int .i64 a, .int .i64 b], .int .i64 3] w (Ret (.tuple #[.int .i64 0, .int .i64 1]) w) := by
  have Hn := Lib.hid hn
  have Hv := Lib.hid hv
  clear hn hv
  have hb : Below w.heap.size w w := Below.refl _ _
  have hk := look3 (w.alloc (.cells #[.int .i64 a, .int .i64 b] 40))
  simp only [World.size_alloc] at hk
  go_enter Tryd.func27, Tryd.ntmps27
  go_wp2_with fail
  refine (roundings_any _).mono ?_
  rintro e w' ⟨rfl, rfl⟩
  go_wp2_with fail
  refine (within_at _ _ _ (by omega) (by omega) Hn.out).mono ?_
  rintro e w' ⟨rfl, rfl⟩
  go_wp2_with fail
  refine (valid_at _ _ _ Hv.out).mono ?_
  rintro e w1 ⟨rfl, hx⟩
  replace hb : Below w.heap.size w w1 := Below.trans (by (repeat (first | exact Below.refl _ _ | assumption | refine Below.drew ?_ | refine below_drewN ?_ _ | refine Below.setCell ?_ (by first | omega | (simp <;> omega)) _ | refine Below.alloc ?_ (by have := hb.size; first | omega | (simp <;> omega)) _))) (hx.mono (by have := hb.size; first | omega | (simp <;> omega)))
  clear hx
  go_wp2_with fail
  go_ret2
  exact Ret.mk rfl (by (have hbs := hb.size; repeat (first | exact Below.refl _ _ | assumption | refine Below.drew ?_ | refine below_drewN ?_ _ | refine Below.setCell ?_ (by first | omega | (simp <;> omega)) _ | refine Below.alloc ?_ (by first | omega | (simp <;> omega)) _)))

set_option maxHeartbeats 400000 in
theorem part_good3 (n a b : Int) (w : World) (hn : wthB n 1000000000 = true) (hv : vldB a b = true) : Calls Tryd.prog 27 #[.int .i64 n, .agg #[.int .i64 a, .int .i64 b], .int .i64 3] w
    (Ret (.tuple #[.int .i64 (if wthB (rndF (n * a) b 3) 1000000000 then rndF (n * a) b 3 else 0), .int .i64 (if wthB (rndF (n * a) b 3) 1000000000 then 0 else 3)]) w) := by
  have ⟨hu1, hu2, hu3, hu4⟩ := vld_bd hv
  have ⟨hn1, hn2⟩ : -1000000000 ≤ n ∧ n ≤ 1000000000 := by simpa [wthB] using hn
  have ⟨m1, m2⟩ := mul_bd (X := 1000000000) (Y := 1000000000) hn1 hn2 hu1 hu2
  have Hn := Lib.hid hn
  have Hv := Lib.hid hv
  clear hn hv
  have hb : Below w.heap.size w w := Below.refl _ _
  cases hr : wthB (rndF (n * a) b 3) 1000000000 with
  | true =>
    have Hr := Lib.hid hr
    clear hr
    have hk := look3 (w.alloc (.cells #[.int .i64 a, .int .i64 b] 40))
    simp only [World.size_alloc] at hk
    go_enter Tryd.func27, Tryd.ntmps27
    go_wp2_with fail
    refine (roundings_any _).mono ?_
    rintro e w' ⟨rfl, rfl⟩
    go_wp2_with fail
    refine (within_at _ _ _ (by omega) (by omega) Hn.out).mono ?_
    rintro e w' ⟨rfl, rfl⟩
    go_wp2_with fail
    refine (valid_at _ _ _ Hv.out).mono ?_
    rintro e w1 ⟨rfl, hx⟩
    try clear c0_o1 c1_o1 f0_o1 f1_o1 z_o1
    first | have o1 := (Own.new w _ _).below hx | have o1 := ((Own.new w _ _).alloc _).below hx | have o1 := (((Own.new w _ _).alloc _).alloc _).below hx | have o1 := ((((Own.new w _ _).alloc _).alloc _).alloc _).below hx | have o1 := ((Own.new w _ _).set2 _ _).below hx | have o1 := (((Own.new w _ _).setCell (by simp <;> omega) _).setCell (by simp <;> omega) _).below hx
    obtain ⟨c0_o1, c1_o1, f0_o1, f1_o1, z_o1⟩ := o1.two
    try clear c0_o3 f0_o3 z_o3
    first | have o3 := (Own.at ((w.alloc _).alloc _) _ _ (w.heap.size + 1 + 1) (by simp)).below hx | have o3 := ((Own.at ((w.alloc _).alloc _) _ _ (w.heap.size + 1 + 1) (by simp)).alloc _).below hx | have o3 := (((Own.at ((w.alloc _).alloc _) _ _ (w.heap.size + 1 + 1) (by simp)).alloc _).alloc _).below hx | have o3 := ((((Own.at ((w.alloc _).alloc _) _ _ (w.heap.size + 1 + 1) (by simp)).alloc _).alloc _).alloc _).below hx | have o3 := ((Own.at ((w.alloc _).alloc _) _ _ (w.heap.size + 1 + 1) (by simp)).set2 _ _).below hx | have o3 := (((Own.at ((w.alloc _).alloc _) _ _ (w.heap.size + 1 + 1) (by simp)).setCell (by simp <;> omega) _).setCell (by simp <;> omega) _).below hx
    obtain ⟨c0_o3, f0_o3, z_o3⟩ := o3.one
    replace hb : Below w.heap.size w w1 := Below.trans (by (repeat (first | exact Below.refl _ _ | assumption | refine Below.drew ?_ | refine below_drewN ?_ _ | refine Below.setCell ?_ (by first | omega | (simp <;> omega)) _ | refine Below.alloc ?_ (by have := hb.size; first | omega | (simp <;> omega)) _))) (hx.mono (by have := hb.size; first | omega | (simp <;> omega)))
    clear hx
    go_wp2_with fail
    refine (even_any (n * a) b _ (by omega) (by omega) (by omega) (by omega)).mono ?_
    rintro e w' ⟨rfl, rfl⟩
    go_wp2_with fail
    refine (within_at _ _ _ (by omega) (by omega) Hr.out).mono ?_
    rintro e w' ⟨rfl, rfl⟩
    go_wp2_with fail
    go_ret2
    exact Ret.mk (by simp) (by (have hbs := hb.size; repeat (first | exact Below.refl _ _ | assumption | refine Below.drew ?_ | refine below_drewN ?_ _ | refine Below.setCell ?_ (by first | omega | (simp <;> omega)) _ | refine Below.alloc ?_ (by first | omega | (simp <;> omega)) _)))
  | false =>
    have Hr := Lib.hid hr
    clear hr
    have hk := look3 (w.alloc (.cells #[.int .i64 a, .int .i64 b] 40))
    simp only [World.size_alloc] at hk
    go_enter Tryd.func27, Tryd.ntmps27
    go_wp2_with fail
    refine (roundings_any _).mono ?_
    rintro e w' ⟨rfl, rfl⟩
    go_wp2_with fail
    refine (within_at _ _ _ (by omega) (by omega) Hn.out).mono ?_
    rintro e w' ⟨rfl, rfl⟩
    go_wp2_with fail
    refine (valid_at _ _ _ Hv.out).mono ?_
    rintro e w1 ⟨rfl, hx⟩
    try clear c0_o1 c1_o1 f0_o1 f1_o1 z_o1
    first | have o1 := (Own.new w _ _).below hx | have o1 := ((Own.new w _ _).alloc _).below hx | have o1 := (((Own.new w _ _).alloc _).alloc _).below hx | have o1 := ((((Own.new w _ _).alloc _).alloc _).alloc _).below hx | have o1 := ((Own.new w _ _).set2 _ _).below hx | have o1 := (((Own.new w _ _).setCell (by simp <;> omega) _).setCell (by simp <;> omega) _).below hx
    obtain ⟨c0_o1, c1_o1, f0_o1, f1_o1, z_o1⟩ := o1.two
    try clear c0_o3 f0_o3 z_o3
    first | have o3 := (Own.at ((w.alloc _).alloc _) _ _ (w.heap.size + 1 + 1) (by simp)).below hx | have o3 := ((Own.at ((w.alloc _).alloc _) _ _ (w.heap.size + 1 + 1) (by simp)).alloc _).below hx | have o3 := (((Own.at ((w.alloc _).alloc _) _ _ (w.heap.size + 1 + 1) (by simp)).alloc _).alloc _).below hx | have o3 := ((((Own.at ((w.alloc _).alloc _) _ _ (w.heap.size + 1 + 1) (by simp)).alloc _).alloc _).alloc _).below hx | have o3 := ((Own.at ((w.alloc _).alloc _) _ _ (w.heap.size + 1 + 1) (by simp)).set2 _ _).below hx | have o3 := (((Own.at ((w.alloc _).alloc _) _ _ (w.heap.size + 1 + 1) (by simp)).setCell (by simp <;> omega) _).setCell (by simp <;> omega) _).below hx
    obtain ⟨c0_o3, f0_o3, z_o3⟩ := o3.one
    replace hb : Below w.heap.size w w1 := Below.trans (by (repeat (first | exact Below.refl _ _ | assumption | refine Below.drew ?_ | refine below_drewN ?_ _ | refine Below.setCell ?_ (by first | omega | (simp <;> omega)) _ | refine Below.alloc ?_ (by have := hb.size; first | omega | (simp <;> omega)) _))) (hx.mono (by have := hb.size; first | omega | (simp <;> omega)))
    clear hx
    go_wp2_with fail
    refine (even_any (n * a) b _ (by omega) (by omega) (by omega) (by omega)).mono ?_
    rintro e w' ⟨rfl, rfl⟩
    go_wp2_with fail
    refine (within_at _ _ _ (by omega) (by omega) Hr.out).mono ?_
    rintro e w' ⟨rfl, rfl⟩
    go_wp2_with fail
    go_ret2
    exact Ret.mk (by simp) (by (have hbs := hb.size; repeat (first | exact Below.refl _ _ | assumption | refine Below.drew ?_ | refine below_drewN ?_ _ | refine Below.setCell ?_ (by first | omega | (simp <;> omega)) _ | refine Below.alloc ?_ (by first | omega | (simp <;> omega)) _)))

theorem part_way3 (n a b : Int) (w : World) : Calls Tryd.prog 27 #[.int .i64 n, .agg #[.int .i64 a, .int .i64 b], .int .i64 3] w (Ret (.tuple #[.int .i64 (partF n a b 3).1, .int .i64 (partF n a b 3).2]) w) := by
  cases hn : wthB n 1000000000 with
  | false => simpa [partF, hn] using part_far3 n a b w hn
  | true =>
    cases hv : vldB a b with
    | false => simpa [partF, hv] using part_bad3 n a b w hn hv
    | true =>
      have h := part_good3 n a b w hn hv
      cases hr : wthB (rndF (n * a) b 3) 1000000000 with
      | true => simpa [partF, hn, hv, hr] using h
      | false => simpa [partF, hn, hv, hr] using h

end Go.Proofs.YtnjaedbekogeaaaDoor
