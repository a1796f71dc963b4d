/-
  The walks of the ratio package: Make, the three operations, Compare.
-/
import Derived.Test.YtlkefcbkpohpgaaDoorRatioB
namespace Go.Proofs.YtlkefcbkpohpgaaDoor
open Go.RowKit

theorem within_at {b : Bool} (n m : Int) (w : World) (h1 : 0 ≤ m) (h2 : m ≤ 1000000000000000) (h : wthB n m = b) : Calls Tryd.prog 84 #[.int .i64 n, .int .i64 m] w (Same (.bool b) w) := by subst h; exact within_any n m w h1 h2
theorem valid_at {b : Bool} (n d : Int) (w : World) (h : vldB n d = b) : Calls Tryd.prog 63 #[.agg #[.int .i64 n, .int .i64 d]] w (Ret (.bool b) w) := by subst h; exact valid_any n d w

theorem settle_at (n d : Int) (w : World) (h1 : -4000000000000000000 ≤ n) (h2 : n ≤ 4000000000000000000) (h3 : -4000000000000000000 ≤ d) (h4 : d ≤ 4000000000000000000) (hd : d ≠ 0) :
    Calls Tryd.prog 64 #[.int .i64 n, .int .i64 d] w (Ret (.tuple #[.agg #[.int .i64 (setl n d).1, .int .i64 (setl n d).2.1], .int .i64 (setl n d).2.2]) w) := settle_any n d w h1 h2 h3 h4 hd

set_option maxHeartbeats 400000 in
theorem mul_any (a b c d : Int) (w : World) : Calls Tryd.prog 49 #[ratV a b, ratV c d] w (Ret (resV (mulF a b c d)) w) := by
  unfold ratV
  cases hu : vldB a b with
  | false =>
    have Hu := Lib.hid hu
    clear hu
    have hb : Below w.heap.size w w := Below.refl _ _
    go_enter Tryd.func49, Tryd.ntmps49
    go_wp2_with fail
    refine (valid_at _ _ _ Hu.out).mono ?_
    rintro e w1 ⟨rfl, hx⟩
    try clear c0_o3 c1_o3 f0_o3 f1_o3 z_o3
    first | have o3 := (Own.at ((w.alloc _).alloc _) _ _ (w.heap.size + 1 + 1) (by simp)).below hx | have o3 := ((Own.at ((w.alloc _).alloc _) _ _ (w.heap.size + 1 + 1) (by simp)).alloc _).below hx | have o3 := (((Own.at ((w.alloc _).alloc _) _ _ (w.heap.size + 1 + 1) (by simp)).alloc _).alloc _).below hx | have o3 := ((((Own.at ((w.alloc _).alloc _) _ _ (w.heap.size + 1 + 1) (by simp)).alloc _).alloc _).alloc _).below hx | have o3 := ((Own.at ((w.alloc _).alloc _) _ _ (w.heap.size + 1 + 1) (by simp)).set2 _ _).below hx | have o3 := (((Own.at ((w.alloc _).alloc _) _ _ (w.heap.size + 1 + 1) (by simp)).setCell (by simp <;> omega) _).setCell (by simp <;> omega) _).below hx
    obtain ⟨c0_o3, c1_o3, f0_o3, f1_o3, z_o3⟩ := o3.two
    replace hb : Below w.heap.size w w1 := Below.trans (by (repeat (first | exact Below.refl _ _ | assumption | refine Below.drew ?_ | refine below_drewN ?_ _ | refine Below.setCell ?_ (by first | omega | (simp <;> omega)) _ | refine Below.alloc ?_ (by have := hb.size; first | omega | (simp <;> omega)) _))) (hx.mono (by have := hb.size; first | omega | (simp <;> omega)))
    clear hx
    go_wp2_with fail
    refine bodyPost_ret (v := .tuple #[.agg #[.int .i64 0, .int .i64 0], .int .i64 1]) (by simp [results, Tryd.results49, go_sem, c0_o3, c1_o3]) rfl (Ret.mk (by simp [resV, mulF, opF, Hu.out]) (by (have hbs := hb.size; repeat (first | exact Below.refl _ _ | assumption | refine Below.drew ?_ | refine below_drewN ?_ _ | refine Below.setCell ?_ (by first | omega | (simp <;> omega)) _ | refine Below.alloc ?_ (by first | omega | (simp <;> omega)) _))))
  | true =>
    have Hu := Lib.hid hu
    clear hu
    cases hv : vldB c d with
    | false =>
      have Hv := Lib.hid hv
      clear hv
      have hb : Below w.heap.size w w := Below.refl _ _
      go_enter Tryd.func49, Tryd.ntmps49
      go_wp2_with fail
      refine (valid_at _ _ _ Hu.out).mono ?_
      rintro e w1 ⟨rfl, hx⟩
      try clear c0_o2 c1_o2 f0_o2 f1_o2 z_o2
      first | have o2 := (Own.at (w.alloc _) _ _ (w.heap.size + 1) (by simp)).below hx | have o2 := ((Own.at (w.alloc _) _ _ (w.heap.size + 1) (by simp)).alloc _).below hx | have o2 := (((Own.at (w.alloc _) _ _ (w.heap.size + 1) (by simp)).alloc _).alloc _).below hx | have o2 := ((((Own.at (w.alloc _) _ _ (w.heap.size + 1) (by simp)).alloc _).alloc _).alloc _).below hx | have o2 := ((Own.at (w.alloc _) _ _ (w.heap.size + 1) (by simp)).set2 _ _).below hx | have o2 := (((Own.at (w.alloc _) _ _ (w.heap.size + 1) (by simp)).setCell (by simp <;> omega) _).setCell (by simp <;> omega) _).below hx
      obtain ⟨c0_o2, c1_o2, f0_o2, f1_o2, z_o2⟩ := o2.two
      try clear c0_o3 c1_o3 f0_o3 f1_o3 z_o3
      first | have o3 := (Own.at ((w.alloc _).alloc _) _ _ (w.heap.size + 1 + 1) (by simp)).below hx | have o3 := ((Own.at ((w.alloc _).alloc _) _ _ (w.heap.size + 1 + 1) (by simp)).alloc _).below hx | have o3 := (((Own.at ((w.alloc _).alloc _) _ _ (w.heap.size + 1 + 1) (by simp)).alloc _).alloc _).below hx | have o3 := ((((Own.at ((w.alloc _).alloc _) _ _ (w.heap.size + 1 + 1) (by simp)).alloc _).alloc _).alloc _).below hx | have o3 := ((Own.at ((w.alloc _).alloc _) _ _ (w.heap.size + 1 + 1) (by simp)).set2 _ _).below hx | have o3 := (((Own.at ((w.alloc _).alloc _) _ _ (w.heap.size + 1 + 1) (by simp)).setCell (by simp <;> omega) _).setCell (by simp <;> omega) _).below hx
      obtain ⟨c0_o3, c1_o3, f0_o3, f1_o3, z_o3⟩ := o3.two
      replace hb : Below w.heap.size w w1 := Below.trans (by (repeat (first | exact Below.refl _ _ | assumption | refine Below.drew ?_ | refine below_drewN ?_ _ | refine Below.setCell ?_ (by first | omega | (simp <;> omega)) _ | refine Below.alloc ?_ (by have := hb.size; first | omega | (simp <;> omega)) _))) (hx.mono (by have := hb.size; first | omega | (simp <;> omega)))
      clear hx
      go_wp2_with fail
      refine (valid_at _ _ _ Hv.out).mono ?_
      rintro e w2 ⟨rfl, hx⟩
      try clear c0_o3 c1_o3 f0_o3 f1_o3 z_o3
      first | replace o3 := o3.below hx | replace o3 := (o3.alloc _).below hx | replace o3 := ((o3.alloc _).alloc _).below hx | replace o3 := (((o3.alloc _).alloc _).alloc _).below hx | replace o3 := (o3.set2 _ _).below hx | replace o3 := ((o3.setCell (by simp <;> omega) _).setCell (by simp <;> omega) _).below hx
      obtain ⟨c0_o3, c1_o3, f0_o3, f1_o3, z_o3⟩ := o3.two
      replace hb : Below w.heap.size w w2 := Below.trans (by (repeat (first | exact Below.refl _ _ | assumption | refine Below.drew ?_ | refine below_drewN ?_ _ | refine Below.setCell ?_ (by first | omega | (simp <;> omega)) _ | refine Below.alloc ?_ (by have := hb.size; first | omega | (simp <;> omega)) _))) (hx.mono (by have := hb.size; first | omega | (simp <;> omega)))
      clear hx
      go_wp2_with fail
      refine bodyPost_ret (v := .tuple #[.agg #[.int .i64 0, .int .i64 0], .int .i64 1]) (by simp [results, Tryd.results49, go_sem, c0_o3, c1_o3]) rfl (Ret.mk (by simp [resV, mulF, opF, Hv.out]) (by (have hbs := hb.size; repeat (first | exact Below.refl _ _ | assumption | refine Below.drew ?_ | refine below_drewN ?_ _ | refine Below.setCell ?_ (by first | omega | (simp <;> omega)) _ | refine Below.alloc ?_ (by first | omega | (simp <;> omega)) _))))
    | true =>
      have Hv := Lib.hid hv
      clear hv
      have ⟨hu1, hu2, hu3, hu4⟩ := vld_bd Hu.out
      have ⟨hv1, hv2, hv3, hv4⟩ := vld_bd Hv.out
      have ⟨m1, m2⟩ := mul_bd (X := 1000000000) (Y := 1000000) hu1 hu2 (by omega : -1000000 ≤ d) hv4
      have ⟨m3, m4⟩ := mul_bd (X := 1000000000) (Y := 1000000) hv1 hv2 (by omega : -1000000 ≤ b) hu4
      have ⟨m5, m6⟩ := mul_bd (X := 1000000) (Y := 1000000) (by omega : -1000000 ≤ b) hu4 (by omega : -1000000 ≤ d) hv4
      have ⟨m7, m8⟩ := mul_bd (X := 1000000000) (Y := 1000000000) hu1 hu2 hv1 hv2
      have m9 : b * d ≠ 0 := Int.mul_ne_zero (by omega) (by omega)
      have hb : Below w.heap.size w w := Below.refl _ _
      go_enter Tryd.func49, Tryd.ntmps49
      go_wp2_with fail
      refine (valid_at _ _ _ Hu.out).mono ?_
      rintro e w1 ⟨rfl, hx⟩
      try clear c0_o1 c1_o1 f0_o1 f1_o1 z_o1
      first | have o1 := (Own.new w _ _).below hx | have o1 := ((Own.new w _ _).alloc _).below hx | have o1 := (((Own.new w _ _).alloc _).alloc _).below hx | have o1 := ((((Own.new w _ _).alloc _).alloc _).alloc _).below hx | have o1 := ((Own.new w _ _).set2 _ _).below hx | have o1 := (((Own.new w _ _).setCell (by simp <;> omega) _).setCell (by simp <;> omega) _).below hx
      obtain ⟨c0_o1, c1_o1, f0_o1, f1_o1, z_o1⟩ := o1.two
      try clear c0_o2 c1_o2 f0_o2 f1_o2 z_o2
      first | have o2 := (Own.at (w.alloc _) _ _ (w.heap.size + 1) (by simp)).below hx | have o2 := ((Own.at (w.alloc _) _ _ (w.heap.size + 1) (by simp)).alloc _).below hx | have o2 := (((Own.at (w.alloc _) _ _ (w.heap.size + 1) (by simp)).alloc _).alloc _).below hx | have o2 := ((((Own.at (w.alloc _) _ _ (w.heap.size + 1) (by simp)).alloc _).alloc _).alloc _).below hx | have o2 := ((Own.at (w.alloc _) _ _ (w.heap.size + 1) (by simp)).set2 _ _).below hx | have o2 := (((Own.at (w.alloc _) _ _ (w.heap.size + 1) (by simp)).setCell (by simp <;> omega) _).setCell (by simp <;> omega) _).below hx
      obtain ⟨c0_o2, c1_o2, f0_o2, f1_o2, z_o2⟩ := o2.two
      try clear c0_o3 c1_o3 f0_o3 f1_o3 z_o3
      first | have o3 := (Own.at ((w.alloc _).alloc _) _ _ (w.heap.size + 1 + 1) (by simp)).below hx | have o3 := ((Own.at ((w.alloc _).alloc _) _ _ (w.heap.size + 1 + 1) (by simp)).alloc _).below hx | have o3 := (((Own.at ((w.alloc _).alloc _) _ _ (w.heap.size + 1 + 1) (by simp)).alloc _).alloc _).below hx | have o3 := ((((Own.at ((w.alloc _).alloc _) _ _ (w.heap.size + 1 + 1) (by simp)).alloc _).alloc _).alloc _).below hx | have o3 := ((Own.at ((w.alloc _).alloc _) _ _ (w.heap.size + 1 + 1) (by simp)).set2 _ _).below hx | have o3 := (((Own.at ((w.alloc _).alloc _) _ _ (w.heap.size + 1 + 1) (by simp)).setCell (by simp <;> omega) _).setCell (by simp <;> omega) _).below hx
      obtain ⟨c0_o3, c1_o3, f0_o3, f1_o3, z_o3⟩ := o3.two
      replace hb : Below w.heap.size w w1 := Below.trans (by (repeat (first | exact Below.refl _ _ | assumption | refine Below.drew ?_ | refine below_drewN ?_ _ | refine Below.setCell ?_ (by first | omega | (simp <;> omega)) _ | refine Below.alloc ?_ (by have := hb.size; first | omega | (simp <;> omega)) _))) (hx.mono (by have := hb.size; first | omega | (simp <;> omega)))
      clear hx
      go_wp2_with fail
      refine (valid_at _ _ _ Hv.out).mono ?_
      rintro e w2 ⟨rfl, hx⟩
      try clear c0_o1 c1_o1 f0_o1 f1_o1 z_o1
      first | replace o1 := o1.below hx | replace o1 := (o1.alloc _).below hx | replace o1 := ((o1.alloc _).alloc _).below hx | replace o1 := (((o1.alloc _).alloc _).alloc _).below hx | replace o1 := (o1.set2 _ _).below hx | replace o1 := ((o1.setCell (by simp <;> omega) _).setCell (by simp <;> omega) _).below hx
      obtain ⟨c0_o1, c1_o1, f0_o1, f1_o1, z_o1⟩ := o1.two
      try clear c0_o2 c1_o2 f0_o2 f1_o2 z_o2
      first | replace o2 := o2.below hx | replace o2 := (o2.alloc _).below hx | replace o2 := ((o2.alloc _).alloc _).below hx | replace o2 := (((o2.alloc _).alloc _).alloc _).below hx | replace o2 := (o2.set2 _ _).below hx | replace o2 := ((o2.setCell (by simp <;> omega) _).setCell (by simp <;> omega) _).below hx
      obtain ⟨c0_o2, c1_o2, f0_o2, f1_o2, z_o2⟩ := o2.two
      try clear c0_o3 c1_o3 f0_o3 f1_o3 z_o3
      first | replace o3 := o3.below hx | replace o3 := (o3.alloc _).below hx | replace o3 := ((o3.alloc _).alloc _).below hx | replace o3 := (((o3.alloc _).alloc _).alloc _).below hx | replace o3 := (o3.set2 _ _).below hx | replace o3 := ((o3.setCell (by simp <;> omega) _).setCell (by simp <;> omega) _).below hx
      obtain ⟨c0_o3, c1_o3, f0_o3, f1_o3, z_o3⟩ := o3.two
      replace hb : Below w.heap.size w w2 := Below.trans (by (repeat (first | exact Below.refl _ _ | assumption | refine Below.drew ?_ | refine below_drewN ?_ _ | refine Below.setCell ?_ (by first | omega | (simp <;> omega)) _ | refine Below.alloc ?_ (by have := hb.size; first | omega | (simp <;> omega)) _))) (hx.mono (by have := hb.size; first | omega | (simp <;> omega)))
      clear hx
      go_wp2_with fail
      refine (settle_at (a * c) (b * d) _ (by omega) (by omega) (by omega) (by omega) m9).mono ?_
      rintro e w3 ⟨rfl, hx⟩
      try clear c0_o3 c1_o3 f0_o3 f1_o3 z_o3
      first | replace o3 := o3.below hx | replace o3 := (o3.alloc _).below hx | replace o3 := ((o3.alloc _).alloc _).below hx | replace o3 := (((o3.alloc _).alloc _).alloc _).below hx | replace o3 := (o3.set2 _ _).below hx | replace o3 := ((o3.setCell (by simp <;> omega) _).setCell (by simp <;> omega) _).below hx
      obtain ⟨c0_o3, c1_o3, f0_o3, f1_o3, z_o3⟩ := o3.two
      replace hb : Below w.heap.size w w3 := Below.trans (by (repeat (first | exact Below.refl _ _ | assumption | refine Below.drew ?_ | refine below_drewN ?_ _ | refine Below.setCell ?_ (by first | omega | (simp <;> omega)) _ | refine Below.alloc ?_ (by have := hb.size; first | omega | (simp <;> omega)) _))) (hx.mono (by have := hb.size; first | omega | (simp <;> omega)))
      clear hx
      go_wp2_with fail
      refine bodyPost_ret (v := .tuple #[.agg #[.int .i64 (setl (a * c) (b * d)).1, .int .i64 (setl (a * c) (b * d)).2.1], .int .i64 (setl (a * c) (b * d)).2.2]) (by simp [results, Tryd.results49, go_sem, c0_o3, c1_o3]) rfl (Ret.mk (by simp [resV, mulF, opF, Hu.out, Hv.out]) (by (have hbs := hb.size; repeat (first | exact Below.refl _ _ | assumption | refine Below.drew ?_ | refine below_drewN ?_ _ | refine Below.setCell ?_ (by first | omega | (simp <;> omega)) _ | refine Below.alloc ?_ (by first | omega | (simp <;> omega)) _))))

theorem Ret2.eq {x y : Int} {p : Int × Int} (h : p = (x, y)) : Value.tuple #[.int .i64 x, .int .i64 y] = .tuple #[.int .i64 p.1, .int .i64 p.2] := by rw [h]

end Go.Proofs.YtlkefcbkpohpgaaDoor
