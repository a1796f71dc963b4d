/-
  The walks of the ratio package: Make, the three operations, Compare.
-/
import Derived.Test.YtojjjbhkpcmooaaRatioB
namespace Go.Proofs.Ytojjjbhkpcmooaa
open Go.RowKit

theorem within_at {b : Bool} (n m : Int) (w : World) (h1 : 0 ≤ m) (h2 : m ≤ 1000000000000000) (h : wthB n m = b) : Calls Try.prog 28 #[.int .i64 n, .int .i64 m] w (Same (.bool b) w) := by subst h; exact within_any n m w h1 h2
theorem valid_at {b : Bool} (n d : Int) (w : World) (h : vldB n d = b) : Calls Try.prog 13 #[.agg #[.int .i64 n, .int .i64 d]] w (Ret (.bool b) w) := by subst h; exact valid_any n d w

theorem settle_at (n d : Int) (w : World) (h1 : -4000000000000000000 ≤ n) (h2 : n ≤ 4000000000000000000) (h3 : -4000000000000000000 ≤ d) (h4 : d ≤ 4000000000000000000) (hd : d ≠ 0) :
    Calls Try.prog 29 #[.int .i64 n, .int .i64 d] w (Ret (.tuple #[.agg #[.int .i64 (setl n d).1, .int .i64 (setl n d).2.1], .int .i64 (setl n d).2.2]) w) := settle_any n d w h1 h2 h3 h4 hd

set_option maxHeartbeats 400000 in
theorem make_any (n d : Int) (w : World) : Calls Try.prog 11 #[.int .i64 n, .int .i64 d] w (Ret (resV (mkF n d)) w) := by
  by_cases h0 : d = 0
  · subst h0
    go_enter Try.func11, Try.ntmps11
    go_wp2_with fail
    refine bodyPost_ret (v := .tuple #[.agg #[.int .i64 0, .int .i64 0], .int .i64 1]) (by simp [results, Try.results11, go_sem]) rfl (Ret.mk (by simp [resV, mkF]) (by (repeat (first | exact Below.refl _ _ | assumption | refine Below.drew ?_ | refine below_drewN ?_ _ | refine Below.setCell ?_ (by simp) _ | refine Below.alloc ?_ (by simp) _))))
  · have h0' : (d == 0) = false := by simpa using h0
    cases hn : wthB n 1000000000000000 with
    | false =>
      have Hn := Lib.hid hn
      clear hn
      go_enter Try.func11, Try.ntmps11
      go_wp2_with fail
      refine (within_at _ _ _ (by omega) (by omega) Hn.out).mono ?_
      rintro e w' ⟨rfl, rfl⟩
      go_wp2_with fail
      refine bodyPost_ret (v := .tuple #[.agg #[.int .i64 0, .int .i64 0], .int .i64 1]) (by simp [results, Try.results11, go_sem]) rfl (Ret.mk (by simp [resV, mkF, Hn.out]) (by (repeat (first | exact Below.refl _ _ | assumption | refine Below.drew ?_ | refine below_drewN ?_ _ | refine Below.setCell ?_ (by simp) _ | refine Below.alloc ?_ (by simp) _))))
    | true =>
      have Hn := Lib.hid hn
      clear hn
      cases hd : wthB d 1000000000000000 with
      | false =>
        have Hd := Lib.hid hd
        clear hd
        go_enter Try.func11, Try.ntmps11
        go_wp2_with fail
        refine (within_at _ _ _ (by omega) (by omega) Hn.out).mono ?_
        rintro e w' ⟨rfl, rfl⟩
        go_wp2_with fail
        refine (within_at _ _ _ (by omega) (by omega) Hd.out).mono ?_
        rintro e w' ⟨rfl, rfl⟩
        go_wp2_with fail
        refine bodyPost_ret (v := .tuple #[.agg #[.int .i64 0, .int .i64 0], .int .i64 1]) (by simp [results, Try.results11, go_sem]) rfl (Ret.mk (by simp [resV, mkF, Hd.out]) (by (repeat (first | exact Below.refl _ _ | assumption | refine Below.drew ?_ | refine below_drewN ?_ _ | refine Below.setCell ?_ (by simp) _ | refine Below.alloc ?_ (by simp) _))))
      | true =>
        have Hd := Lib.hid hd
        clear hd
        have bn := Hn.out
        have bd := Hd.out
        simp [wthB] at bn bd
        have hb : Below w.heap.size w w := Below.refl _ _
        go_enter Try.func11, Try.ntmps11
        go_wp2_with fail
        refine (within_at _ _ _ (by omega) (by omega) Hn.out).mono ?_
        rintro e w' ⟨rfl, rfl⟩
        go_wp2_with fail
        refine (within_at _ _ _ (by omega) (by omega) Hd.out).mono ?_
        rintro e w' ⟨rfl, rfl⟩
        go_wp2_with fail
        refine (settle_at n d _ (by omega) (by omega) (by omega) (by omega) h0).mono ?_
        rintro e w1 ⟨rfl, hx⟩
        try clear c0_o1 c1_o1 f0_o1 f1_o1 z_o1
        first | have o1 := (Own.new w _ _).below hx | have o1 := ((Own.new w _ _).alloc _).below hx | have o1 := (((Own.new w _ _).alloc _).alloc _).below hx | have o1 := ((((Own.new w _ _).alloc _).alloc _).alloc _).below hx
        obtain ⟨c0_o1, c1_o1, f0_o1, f1_o1, z_o1⟩ := o1.two
        replace hb : Below w.heap.size w w1 := Below.trans (by (repeat (first | exact Below.refl _ _ | assumption | refine Below.drew ?_ | refine below_drewN ?_ _ | refine Below.setCell ?_ (by simp <;> omega) _ | refine Below.alloc ?_ (by have := hb.size; simp <;> omega) _))) (hx.mono (by have := hb.size; simp <;> omega))
        clear hx
        go_wp2_with fail
        refine bodyPost_ret (v := .tuple #[.agg #[.int .i64 (setl n d).1, .int .i64 (setl n d).2.1], .int .i64 (setl n d).2.2]) (by simp [results, Try.results11, go_sem, c0_o1, c1_o1]) rfl (Ret.mk (by simp [resV, mkF, Hn.out, Hd.out, h0]) (by (have hbs := hb.size; repeat (first | exact Below.refl _ _ | assumption | refine Below.drew ?_ | refine below_drewN ?_ _ | refine Below.setCell ?_ (by simp <;> omega) _ | refine Below.alloc ?_ (by simp <;> omega) _))))

set_option maxHeartbeats 400000 in
theorem add_any (a b c d : Int) (w : World) : Calls Try.prog 15 #[ratV a b, ratV c d] w (Ret (resV (addF a b c d)) w) := by
  unfold ratV
  cases hu : vldB a b with
  | false =>
    have Hu := Lib.hid hu
    clear hu
    have hb : Below w.heap.size w w := Below.refl _ _
    go_enter Try.func15, Try.ntmps15
    go_wp2_with fail
    refine (valid_at _ _ _ Hu.out).mono ?_
    rintro e w1 ⟨rfl, hx⟩
    try clear c0_o3 c1_o3 f0_o3 f1_o3 z_o3
    first | have o3 := (Own.at ((w.alloc _).alloc _) _ _ (w.heap.size + 1 + 1) (by simp)).below hx | have o3 := ((Own.at ((w.alloc _).alloc _) _ _ (w.heap.size + 1 + 1) (by simp)).alloc _).below hx | have o3 := (((Own.at ((w.alloc _).alloc _) _ _ (w.heap.size + 1 + 1) (by simp)).alloc _).alloc _).below hx | have o3 := ((((Own.at ((w.alloc _).alloc _) _ _ (w.heap.size + 1 + 1) (by simp)).alloc _).alloc _).alloc _).below hx
    obtain ⟨c0_o3, c1_o3, f0_o3, f1_o3, z_o3⟩ := o3.two
    replace hb : Below w.heap.size w w1 := Below.trans (by (repeat (first | exact Below.refl _ _ | assumption | refine Below.drew ?_ | refine below_drewN ?_ _ | refine Below.setCell ?_ (by simp <;> omega) _ | refine Below.alloc ?_ (by have := hb.size; simp <;> omega) _))) (hx.mono (by have := hb.size; simp <;> omega))
    clear hx
    go_wp2_with fail
    refine bodyPost_ret (v := .tuple #[.agg #[.int .i64 0, .int .i64 0], .int .i64 1]) (by simp [results, Try.results15, go_sem, c0_o3, c1_o3]) rfl (Ret.mk (by simp [resV, addF, opF, Hu.out]) (by (have hbs := hb.size; repeat (first | exact Below.refl _ _ | assumption | refine Below.drew ?_ | refine below_drewN ?_ _ | refine Below.setCell ?_ (by simp <;> omega) _ | refine Below.alloc ?_ (by simp <;> omega) _))))
  | true =>
    have Hu := Lib.hid hu
    clear hu
    cases hv : vldB c d with
    | false =>
      have Hv := Lib.hid hv
      clear hv
      have hb : Below w.heap.size w w := Below.refl _ _
      go_enter Try.func15, Try.ntmps15
      go_wp2_with fail
      refine (valid_at _ _ _ Hu.out).mono ?_
      rintro e w1 ⟨rfl, hx⟩
      try clear c0_o2 c1_o2 f0_o2 f1_o2 z_o2
      first | have o2 := (Own.at (w.alloc _) _ _ (w.heap.size + 1) (by simp)).below hx | have o2 := ((Own.at (w.alloc _) _ _ (w.heap.size + 1) (by simp)).alloc _).below hx | have o2 := (((Own.at (w.alloc _) _ _ (w.heap.size + 1) (by simp)).alloc _).alloc _).below hx | have o2 := ((((Own.at (w.alloc _) _ _ (w.heap.size + 1) (by simp)).alloc _).alloc _).alloc _).below hx
      obtain ⟨c0_o2, c1_o2, f0_o2, f1_o2, z_o2⟩ := o2.two
      try clear c0_o3 c1_o3 f0_o3 f1_o3 z_o3
      first | have o3 := (Own.at ((w.alloc _).alloc _) _ _ (w.heap.size + 1 + 1) (by simp)).below hx | have o3 := ((Own.at ((w.alloc _).alloc _) _ _ (w.heap.size + 1 + 1) (by simp)).alloc _).below hx | have o3 := (((Own.at ((w.alloc _).alloc _) _ _ (w.heap.size + 1 + 1) (by simp)).alloc _).alloc _).below hx | have o3 := ((((Own.at ((w.alloc _).alloc _) _ _ (w.heap.size + 1 + 1) (by simp)).alloc _).alloc _).alloc _).below hx
      obtain ⟨c0_o3, c1_o3, f0_o3, f1_o3, z_o3⟩ := o3.two
      replace hb : Below w.heap.size w w1 := Below.trans (by (repeat (first | exact Below.refl _ _ | assumption | refine Below.drew ?_ | refine below_drewN ?_ _ | refine Below.setCell ?_ (by simp <;> omega) _ | refine Below.alloc ?_ (by have := hb.size; simp <;> omega) _))) (hx.mono (by have := hb.size; simp <;> omega))
      clear hx
      go_wp2_with fail
      refine (valid_at _ _ _ Hv.out).mono ?_
      rintro e w2 ⟨rfl, hx⟩
      try clear c0_o3 c1_o3 f0_o3 f1_o3 z_o3
      first | replace o3 := o3.below hx | replace o3 := (o3.alloc _).below hx | replace o3 := ((o3.alloc _).alloc _).below hx | replace o3 := (((o3.alloc _).alloc _).alloc _).below hx
      obtain ⟨c0_o3, c1_o3, f0_o3, f1_o3, z_o3⟩ := o3.two
      replace hb : Below w.heap.size w w2 := Below.trans (by (repeat (first | exact Below.refl _ _ | assumption | refine Below.drew ?_ | refine below_drewN ?_ _ | refine Below.setCell ?_ (by simp <;> omega) _ | refine Below.alloc ?_ (by have := hb.size; simp <;> omega) _))) (hx.mono (by have := hb.size; simp <;> omega))
      clear hx
      go_wp2_with fail
      refine bodyPost_ret (v := .tuple #[.agg #[.int .i64 0, .int .i64 0], .int .i64 1]) (by simp [results, Try.results15, go_sem, c0_o3, c1_o3]) rfl (Ret.mk (by simp [resV, addF, opF, Hv.out]) (by (have hbs := hb.size; repeat (first | exact Below.refl _ _ | assumption | refine Below.drew ?_ | refine below_drewN ?_ _ | refine Below.setCell ?_ (by simp <;> omega) _ | refine Below.alloc ?_ (by simp <;> omega) _))))
    | true =>
      have Hv := Lib.hid hv
      clear hv
      have ⟨hu1, hu2, hu3, hu4⟩ := vld_bd Hu.out
      have ⟨hv1, hv2, hv3, hv4⟩ := vld_bd Hv.out
      have ⟨m1, m2⟩ := mul_bd (X := 1000000000) (Y := 1000000) hu1 hu2 (by omega : -1000000 ≤ d) hv4
      have ⟨m3, m4⟩ := mul_bd (X := 1000000000) (Y := 1000000) hv1 hv2 (by omega : -1000000 ≤ b) hu4
      have ⟨m5, m6⟩ := mul_bd (X := 1000000) (Y := 1000000) (by omega : -1000000 ≤ b) hu4 (by omega : -1000000 ≤ d) hv4
      have ⟨m7, m8⟩ := mul_bd (X := 1000000000) (Y := 1000000000) hu1 hu2 hv1 hv2
      have m9 : b * d ≠ 0 := Int.mul_ne_zero (by omega) (by omega)
      have hb : Below w.heap.size w w := Below.refl _ _
      go_enter Try.func15, Try.ntmps15
      go_wp2_with fail
      refine (valid_at _ _ _ Hu.out).mono ?_
      rintro e w1 ⟨rfl, hx⟩
      try clear c0_o1 c1_o1 f0_o1 f1_o1 z_o1
      first | have o1 := (Own.new w _ _).below hx | have o1 := ((Own.new w _ _).alloc _).below hx | have o1 := (((Own.new w _ _).alloc _).alloc _).below hx | have o1 := ((((Own.new w _ _).alloc _).alloc _).alloc _).below hx
      obtain ⟨c0_o1, c1_o1, f0_o1, f1_o1, z_o1⟩ := o1.two
      try clear c0_o2 c1_o2 f0_o2 f1_o2 z_o2
      first | have o2 := (Own.at (w.alloc _) _ _ (w.heap.size + 1) (by simp)).below hx | have o2 := ((Own.at (w.alloc _) _ _ (w.heap.size + 1) (by simp)).alloc _).below hx | have o2 := (((Own.at (w.alloc _) _ _ (w.heap.size + 1) (by simp)).alloc _).alloc _).below hx | have o2 := ((((Own.at (w.alloc _) _ _ (w.heap.size + 1) (by simp)).alloc _).alloc _).alloc _).below hx
      obtain ⟨c0_o2, c1_o2, f0_o2, f1_o2, z_o2⟩ := o2.two
      try clear c0_o3 c1_o3 f0_o3 f1_o3 z_o3
      first | have o3 := (Own.at ((w.alloc _).alloc _) _ _ (w.heap.size + 1 + 1) (by simp)).below hx | have o3 := ((Own.at ((w.alloc _).alloc _) _ _ (w.heap.size + 1 + 1) (by simp)).alloc _).below hx | have o3 := (((Own.at ((w.alloc _).alloc _) _ _ (w.heap.size + 1 + 1) (by simp)).alloc _).alloc _).below hx | have o3 := ((((Own.at ((w.alloc _).alloc _) _ _ (w.heap.size + 1 + 1) (by simp)).alloc _).alloc _).alloc _).below hx
      obtain ⟨c0_o3, c1_o3, f0_o3, f1_o3, z_o3⟩ := o3.two
      replace hb : Below w.heap.size w w1 := Below.trans (by (repeat (first | exact Below.refl _ _ | assumption | refine Below.drew ?_ | refine below_drewN ?_ _ | refine Below.setCell ?_ (by simp <;> omega) _ | refine Below.alloc ?_ (by have := hb.size; simp <;> omega) _))) (hx.mono (by have := hb.size; simp <;> omega))
      clear hx
      go_wp2_with fail
      refine (valid_at _ _ _ Hv.out).mono ?_
      rintro e w2 ⟨rfl, hx⟩
      try clear c0_o1 c1_o1 f0_o1 f1_o1 z_o1
      first | replace o1 := o1.below hx | replace o1 := (o1.alloc _).below hx | replace o1 := ((o1.alloc _).alloc _).below hx | replace o1 := (((o1.alloc _).alloc _).alloc _).below hx
      obtain ⟨c0_o1, c1_o1, f0_o1, f1_o1, z_o1⟩ := o1.two
      try clear c0_o2 c1_o2 f0_o2 f1_o2 z_o2
      first | replace o2 := o2.below hx | replace o2 := (o2.alloc _).below hx | replace o2 := ((o2.alloc _).alloc _).below hx | replace o2 := (((o2.alloc _).alloc _).alloc _).below hx
      obtain ⟨c0_o2, c1_o2, f0_o2, f1_o2, z_o2⟩ := o2.two
      try clear c0_o3 c1_o3 f0_o3 f1_o3 z_o3
      first | replace o3 := o3.below hx | replace o3 := (o3.alloc _).below hx | replace o3 := ((o3.alloc _).alloc _).below hx | replace o3 := (((o3.alloc _).alloc _).alloc _).below hx
      obtain ⟨c0_o3, c1_o3, f0_o3, f1_o3, z_o3⟩ := o3.two
      replace hb : Below w.heap.size w w2 := Below.trans (by (repeat (first | exact Below.refl _ _ | assumption | refine Below.drew ?_ | refine below_drewN ?_ _ | refine Below.setCell ?_ (by simp <;> omega) _ | refine Below.alloc ?_ (by have := hb.size; simp <;> omega) _))) (hx.mono (by have := hb.size; simp <;> omega))
      clear hx
      go_wp2_with fail
      refine (settle_at (a * d + c * b) (b * d) _ (by omega) (by omega) (by omega) (by omega) m9).mono ?_
      rintro e w3 ⟨rfl, hx⟩
      try clear c0_o3 c1_o3 f0_o3 f1_o3 z_o3
      first | replace o3 := o3.below hx | replace o3 := (o3.alloc _).below hx | replace o3 := ((o3.alloc _).alloc _).below hx | replace o3 := (((o3.alloc _).alloc _).alloc _).below hx
      obtain ⟨c0_o3, c1_o3, f0_o3, f1_o3, z_o3⟩ := o3.two
      replace hb : Below w.heap.size w w3 := Below.trans (by (repeat (first | exact Below.refl _ _ | assumption | refine Below.drew ?_ | refine below_drewN ?_ _ | refine Below.setCell ?_ (by simp <;> omega) _ | refine Below.alloc ?_ (by have := hb.size; simp <;> omega) _))) (hx.mono (by have := hb.size; simp <;> omega))
      clear hx
      go_wp2_with fail
      refine bodyPost_ret (v := .tuple #[.agg #[.int .i64 (setl (a * d + c * b) (b * d)).1, .int .i64 (setl (a * d + c * b) (b * d)).2.1], .int .i64 (setl (a * d + c * b) (b * d)).2.2]) (by simp [results, Try.results15, go_sem, c0_o3, c1_o3]) rfl (Ret.mk (by simp [resV, addF, opF, Hu.out, Hv.out]) (by (have hbs := hb.size; repeat (first | exact Below.refl _ _ | assumption | refine Below.drew ?_ | refine below_drewN ?_ _ | refine Below.setCell ?_ (by simp <;> omega) _ | refine Below.alloc ?_ (by simp <;> omega) _))))

set_option maxHeartbeats 400000 in
theorem sub_any (a b c d : Int) (w : World) : Calls Try.prog 17 #[ratV a b, ratV c d] w (Ret (resV (subF a b c d)) w) := by
  unfold ratV
  cases hu : vldB a b with
  | false =>
    have Hu := Lib.hid hu
    clear hu
    have hb : Below w.heap.size w w := Below.refl _ _
    go_enter Try.func17, Try.ntmps17
    go_wp2_with fail
    refine (valid_at _ _ _ Hu.out).mono ?_
    rintro e w1 ⟨rfl, hx⟩
    try clear c0_o3 c1_o3 f0_o3 f1_o3 z_o3
    first | have o3 := (Own.at ((w.alloc _).alloc _) _ _ (w.heap.size + 1 + 1) (by simp)).below hx | have o3 := ((Own.at ((w.alloc _).alloc _) _ _ (w.heap.size + 1 + 1) (by simp)).alloc _).below hx | have o3 := (((Own.at ((w.alloc _).alloc _) _ _ (w.heap.size + 1 + 1) (by simp)).alloc _).alloc _).below hx | have o3 := ((((Own.at ((w.alloc _).alloc _) _ _ (w.heap.size + 1 + 1) (by simp)).alloc _).alloc _).alloc _).below hx
    obtain ⟨c0_o3, c1_o3, f0_o3, f1_o3, z_o3⟩ := o3.two
    replace hb : Below w.heap.size w w1 := Below.trans (by (repeat (first | exact Below.refl _ _ | assumption | refine Below.drew ?_ | refine below_drewN ?_ _ | refine Below.setCell ?_ (by simp <;> omega) _ | refine Below.alloc ?_ (by have := hb.size; simp <;> omega) _))) (hx.mono (by have := hb.size; simp <;> omega))
    clear hx
    go_wp2_with fail
    refine bodyPost_ret (v := .tuple #[.agg #[.int .i64 0, .int .i64 0], .int .i64 1]) (by simp [results, Try.results17, go_sem, c0_o3, c1_o3]) rfl (Ret.mk (by simp [resV, subF, opF, Hu.out]) (by (have hbs := hb.size; repeat (first | exact Below.refl _ _ | assumption | refine Below.drew ?_ | refine below_drewN ?_ _ | refine Below.setCell ?_ (by simp <;> omega) _ | refine Below.alloc ?_ (by simp <;> omega) _))))
  | true =>
    have Hu := Lib.hid hu
    clear hu
    cases hv : vldB c d with
    | false =>
      have Hv := Lib.hid hv
      clear hv
      have hb : Below w.heap.size w w := Below.refl _ _
      go_enter Try.func17, Try.ntmps17
      go_wp2_with fail
      refine (valid_at _ _ _ Hu.out).mono ?_
      rintro e w1 ⟨rfl, hx⟩
      try clear c0_o2 c1_o2 f0_o2 f1_o2 z_o2
      first | have o2 := (Own.at (w.alloc _) _ _ (w.heap.size + 1) (by simp)).below hx | have o2 := ((Own.at (w.alloc _) _ _ (w.heap.size + 1) (by simp)).alloc _).below hx | have o2 := (((Own.at (w.alloc _) _ _ (w.heap.size + 1) (by simp)).alloc _).alloc _).below hx | have o2 := ((((Own.at (w.alloc _) _ _ (w.heap.size + 1) (by simp)).alloc _).alloc _).alloc _).below hx
      obtain ⟨c0_o2, c1_o2, f0_o2, f1_o2, z_o2⟩ := o2.two
      try clear c0_o3 c1_o3 f0_o3 f1_o3 z_o3
      first | have o3 := (Own.at ((w.alloc _).alloc _) _ _ (w.heap.size + 1 + 1) (by simp)).below hx | have o3 := ((Own.at ((w.alloc _).alloc _) _ _ (w.heap.size + 1 + 1) (by simp)).alloc _).below hx | have o3 := (((Own.at ((w.alloc _).alloc _) _ _ (w.heap.size + 1 + 1) (by simp)).alloc _).alloc _).below hx | have o3 := ((((Own.at ((w.alloc _).alloc _) _ _ (w.heap.size + 1 + 1) (by simp)).alloc _).alloc _).alloc _).below hx
      obtain ⟨c0_o3, c1_o3, f0_o3, f1_o3, z_o3⟩ := o3.two
      replace hb : Below w.heap.size w w1 := Below.trans (by (repeat (first | exact Below.refl _ _ | assumption | refine Below.drew ?_ | refine below_drewN ?_ _ | refine Below.setCell ?_ (by simp <;> omega) _ | refine Below.alloc ?_ (by have := hb.size; simp <;> omega) _))) (hx.mono (by have := hb.size; simp <;> omega))
      clear hx
      go_wp2_with fail
      refine (valid_at _ _ _ Hv.out).mono ?_
      rintro e w2 ⟨rfl, hx⟩
      try clear c0_o3 c1_o3 f0_o3 f1_o3 z_o3
      first | replace o3 := o3.below hx | replace o3 := (o3.alloc _).below hx | replace o3 := ((o3.alloc _).alloc _).below hx | replace o3 := (((o3.alloc _).alloc _).alloc _).below hx
      obtain ⟨c0_o3, c1_o3, f0_o3, f1_o3, z_o3⟩ := o3.two
      replace hb : Below w.heap.size w w2 := Below.trans (by (repeat (first | exact Below.refl _ _ | assumption | refine Below.drew ?_ | refine below_drewN ?_ _ | refine Below.setCell ?_ (by simp <;> omega) _ | refine Below.alloc ?_ (by have := hb.size; simp <;> omega) _))) (hx.mono (by have := hb.size; simp <;> omega))
      clear hx
      go_wp2_with fail
      refine bodyPost_ret (v := .tuple #[.agg #[.int .i64 0, .int .i64 0], .int .i64 1]) (by simp [results, Try.results17, go_sem, c0_o3, c1_o3]) rfl (Ret.mk (by simp [resV, subF, opF, Hv.out]) (by (have hbs := hb.size; repeat (first | exact Below.refl _ _ | assumption | refine Below.drew ?_ | refine below_drewN ?_ _ | refine Below.setCell ?_ (by simp <;> omega) _ | refine Below.alloc ?_ (by simp <;> omega) _))))
    | true =>
      have Hv := Lib.hid hv
      clear hv
      have ⟨hu1, hu2, hu3, hu4⟩ := vld_bd Hu.out
      have ⟨hv1, hv2, hv3, hv4⟩ := vld_bd Hv.out
      have ⟨m1, m2⟩ := mul_bd (X := 1000000000) (Y := 1000000) hu1 hu2 (by omega : -1000000 ≤ d) hv4
      have ⟨m3, m4⟩ := mul_bd (X := 1000000000) (Y := 1000000) hv1 hv2 (by omega : -1000000 ≤ b) hu4
      have ⟨m5, m6⟩ := mul_bd (X := 1000000) (Y := 1000000) (by omega : -1000000 ≤ b) hu4 (by omega : -1000000 ≤ d) hv4
      have ⟨m7, m8⟩ := mul_bd (X := 1000000000) (Y := 1000000000) hu1 hu2 hv1 hv2
      have m9 : b * d ≠ 0 := Int.mul_ne_zero (by omega) (by omega)
      have hb : Below w.heap.size w w := Below.refl _ _
      go_enter Try.func17, Try.ntmps17
      go_wp2_with fail
      refine (valid_at _ _ _ Hu.out).mono ?_
      rintro e w1 ⟨rfl, hx⟩
      try clear c0_o1 c1_o1 f0_o1 f1_o1 z_o1
      first | have o1 := (Own.new w _ _).below hx | have o1 := ((Own.new w _ _).alloc _).below hx | have o1 := (((Own.new w _ _).alloc _).alloc _).below hx | have o1 := ((((Own.new w _ _).alloc _).alloc _).alloc _).below hx
      obtain ⟨c0_o1, c1_o1, f0_o1, f1_o1, z_o1⟩ := o1.two
      try clear c0_o2 c1_o2 f0_o2 f1_o2 z_o2
      first | have o2 := (Own.at (w.alloc _) _ _ (w.heap.size + 1) (by simp)).below hx | have o2 := ((Own.at (w.alloc _) _ _ (w.heap.size + 1) (by simp)).alloc _).below hx | have o2 := (((Own.at (w.alloc _) _ _ (w.heap.size + 1) (by simp)).alloc _).alloc _).below hx | have o2 := ((((Own.at (w.alloc _) _ _ (w.heap.size + 1) (by simp)).alloc _).alloc _).alloc _).below hx
      obtain ⟨c0_o2, c1_o2, f0_o2, f1_o2, z_o2⟩ := o2.two
      try clear c0_o3 c1_o3 f0_o3 f1_o3 z_o3
      first | have o3 := (Own.at ((w.alloc _).alloc _) _ _ (w.heap.size + 1 + 1) (by simp)).below hx | have o3 := ((Own.at ((w.alloc _).alloc _) _ _ (w.heap.size + 1 + 1) (by simp)).alloc _).below hx | have o3 := (((Own.at ((w.alloc _).alloc _) _ _ (w.heap.size + 1 + 1) (by simp)).alloc _).alloc _).below hx | have o3 := ((((Own.at ((w.alloc _).alloc _) _ _ (w.heap.size + 1 + 1) (by simp)).alloc _).alloc _).alloc _).below hx
      obtain ⟨c0_o3, c1_o3, f0_o3, f1_o3, z_o3⟩ := o3.two
      replace hb : Below w.heap.size w w1 := Below.trans (by (repeat (first | exact Below.refl _ _ | assumption | refine Below.drew ?_ | refine below_drewN ?_ _ | refine Below.setCell ?_ (by simp <;> omega) _ | refine Below.alloc ?_ (by have := hb.size; simp <;> omega) _))) (hx.mono (by have := hb.size; simp <;> omega))
      clear hx
      go_wp2_with fail
      refine (valid_at _ _ _ Hv.out).mono ?_
      rintro e w2 ⟨rfl, hx⟩
      try clear c0_o1 c1_o1 f0_o1 f1_o1 z_o1
      first | replace o1 := o1.below hx | replace o1 := (o1.alloc _).below hx | replace o1 := ((o1.alloc _).alloc _).below hx | replace o1 := (((o1.alloc _).alloc _).alloc _).below hx
      obtain ⟨c0_o1, c1_o1, f0_o1, f1_o1, z_o1⟩ := o1.two
      try clear c0_o2 c1_o2 f0_o2 f1_o2 z_o2
      first | replace o2 := o2.below hx | replace o2 := (o2.alloc _).below hx | replace o2 := ((o2.alloc _).alloc _).below hx | replace o2 := (((o2.alloc _).alloc _).alloc _).below hx
      obtain ⟨c0_o2, c1_o2, f0_o2, f1_o2, z_o2⟩ := o2.two
      try clear c0_o3 c1_o3 f0_o3 f1_o3 z_o3
      first | replace o3 := o3.below hx | replace o3 := (o3.alloc _).below hx | replace o3 := ((o3.alloc _).alloc _).below hx | replace o3 := (((o3.alloc _).alloc _).alloc _).below hx
      obtain ⟨c0_o3, c1_o3, f0_o3, f1_o3, z_o3⟩ := o3.two
      replace hb : Below w.heap.size w w2 := Below.trans (by (repeat (first | exact Below.refl _ _ | assumption | refine Below.drew ?_ | refine below_drewN ?_ _ | refine Below.setCell ?_ (by simp <;> omega) _ | refine Below.alloc ?_ (by have := hb.size; simp <;> omega) _))) (hx.mono (by have := hb.size; simp <;> omega))
      clear hx
      go_wp2_with fail
      refine (settle_at (a * d - c * b) (b * d) _ (by omega) (by omega) (by omega) (by omega) m9).mono ?_
      rintro e w3 ⟨rfl, hx⟩
      try clear c0_o3 c1_o3 f0_o3 f1_o3 z_o3
      first | replace o3 := o3.below hx | replace o3 := (o3.alloc _).below hx | replace o3 := ((o3.alloc _).alloc _).below hx | replace o3 := (((o3.alloc _).alloc _).alloc _).below hx
      obtain ⟨c0_o3, c1_o3, f0_o3, f1_o3, z_o3⟩ := o3.two
      replace hb : Below w.heap.size w w3 := Below.trans (by (repeat (first | exact Below.refl _ _ | assumption | refine Below.drew ?_ | refine below_drewN ?_ _ | refine Below.setCell ?_ (by simp <;> omega) _ | refine Below.alloc ?_ (by have := hb.size; simp <;> omega) _))) (hx.mono (by have := hb.size; simp <;> omega))
      clear hx
      go_wp2_with fail
      refine bodyPost_ret (v := .tuple #[.agg #[.int .i64 (setl (a * d - c * b) (b * d)).1, .int .i64 (setl (a * d - c * b) (b * d)).2.1], .int .i64 (setl (a * d - c * b) (b * d)).2.2]) (by simp [results, Try.results17, go_sem, c0_o3, c1_o3]) rfl (Ret.mk (by simp [resV, subF, opF, Hu.out, Hv.out]) (by (have hbs := hb.size; repeat (first | exact Below.refl _ _ | assumption | refine Below.drew ?_ | refine below_drewN ?_ _ | refine Below.setCell ?_ (by simp <;> omega) _ | refine Below.alloc ?_ (by simp <;> omega) _))))

set_option maxHeartbeats 400000 in
theorem mul_any (a b c d : Int) (w : World) : Calls Try.prog 19 #[ratV a b, ratV c d] w (Ret (resV (mulF a b c d)) w) := by
  unfold ratV
  cases hu : vldB a b with
  | false =>
    have Hu := Lib.hid hu
    clear hu
    have hb : Below w.heap.size w w := Below.refl _ _
    go_enter Try.func19, Try.ntmps19
    go_wp2_with fail
    refine (valid_at _ _ _ Hu.out).mono ?_
    rintro e w1 ⟨rfl, hx⟩
    try clear c0_o3 c1_o3 f0_o3 f1_o3 z_o3
    first | have o3 := (Own.at ((w.alloc _).alloc _) _ _ (w.heap.size + 1 + 1) (by simp)).below hx | have o3 := ((Own.at ((w.alloc _).alloc _) _ _ (w.heap.size + 1 + 1) (by simp)).alloc _).below hx | have o3 := (((Own.at ((w.alloc _).alloc _) _ _ (w.heap.size + 1 + 1) (by simp)).alloc _).alloc _).below hx | have o3 := ((((Own.at ((w.alloc _).alloc _) _ _ (w.heap.size + 1 + 1) (by simp)).alloc _).alloc _).alloc _).below hx
    obtain ⟨c0_o3, c1_o3, f0_o3, f1_o3, z_o3⟩ := o3.two
    replace hb : Below w.heap.size w w1 := Below.trans (by (repeat (first | exact Below.refl _ _ | assumption | refine Below.drew ?_ | refine below_drewN ?_ _ | refine Below.setCell ?_ (by simp <;> omega) _ | refine Below.alloc ?_ (by have := hb.size; simp <;> omega) _))) (hx.mono (by have := hb.size; simp <;> omega))
    clear hx
    go_wp2_with fail
    refine bodyPost_ret (v := .tuple #[.agg #[.int .i64 0, .int .i64 0], .int .i64 1]) (by simp [results, Try.results19, go_sem, c0_o3, c1_o3]) rfl (Ret.mk (by simp [resV, mulF, opF, Hu.out]) (by (have hbs := hb.size; repeat (first | exact Below.refl _ _ | assumption | refine Below.drew ?_ | refine below_drewN ?_ _ | refine Below.setCell ?_ (by simp <;> omega) _ | refine Below.alloc ?_ (by simp <;> omega) _))))
  | true =>
    have Hu := Lib.hid hu
    clear hu
    cases hv : vldB c d with
    | false =>
      have Hv := Lib.hid hv
      clear hv
      have hb : Below w.heap.size w w := Below.refl _ _
      go_enter Try.func19, Try.ntmps19
      go_wp2_with fail
      refine (valid_at _ _ _ Hu.out).mono ?_
      rintro e w1 ⟨rfl, hx⟩
      try clear c0_o2 c1_o2 f0_o2 f1_o2 z_o2
      first | have o2 := (Own.at (w.alloc _) _ _ (w.heap.size + 1) (by simp)).below hx | have o2 := ((Own.at (w.alloc _) _ _ (w.heap.size + 1) (by simp)).alloc _).below hx | have o2 := (((Own.at (w.alloc _) _ _ (w.heap.size + 1) (by simp)).alloc _).alloc _).below hx | have o2 := ((((Own.at (w.alloc _) _ _ (w.heap.size + 1) (by simp)).alloc _).alloc _).alloc _).below hx
      obtain ⟨c0_o2, c1_o2, f0_o2, f1_o2, z_o2⟩ := o2.two
      try clear c0_o3 c1_o3 f0_o3 f1_o3 z_o3
      first | have o3 := (Own.at ((w.alloc _).alloc _) _ _ (w.heap.size + 1 + 1) (by simp)).below hx | have o3 := ((Own.at ((w.alloc _).alloc _) _ _ (w.heap.size + 1 + 1) (by simp)).alloc _).below hx | have o3 := (((Own.at ((w.alloc _).alloc _) _ _ (w.heap.size + 1 + 1) (by simp)).alloc _).alloc _).below hx | have o3 := ((((Own.at ((w.alloc _).alloc _) _ _ (w.heap.size + 1 + 1) (by simp)).alloc _).alloc _).alloc _).below hx
      obtain ⟨c0_o3, c1_o3, f0_o3, f1_o3, z_o3⟩ := o3.two
      replace hb : Below w.heap.size w w1 := Below.trans (by (repeat (first | exact Below.refl _ _ | assumption | refine Below.drew ?_ | refine below_drewN ?_ _ | refine Below.setCell ?_ (by simp <;> omega) _ | refine Below.alloc ?_ (by have := hb.size; simp <;> omega) _))) (hx.mono (by have := hb.size; simp <;> omega))
      clear hx
      go_wp2_with fail
      refine (valid_at _ _ _ Hv.out).mono ?_
      rintro e w2 ⟨rfl, hx⟩
      try clear c0_o3 c1_o3 f0_o3 f1_o3 z_o3
      first | replace o3 := o3.below hx | replace o3 := (o3.alloc _).below hx | replace o3 := ((o3.alloc _).alloc _).below hx | replace o3 := (((o3.alloc _).alloc _).alloc _).below hx
      obtain ⟨c0_o3, c1_o3, f0_o3, f1_o3, z_o3⟩ := o3.two
      replace hb : Below w.heap.size w w2 := Below.trans (by (repeat (first | exact Below.refl _ _ | assumption | refine Below.drew ?_ | refine below_drewN ?_ _ | refine Below.setCell ?_ (by simp <;> omega) _ | refine Below.alloc ?_ (by have := hb.size; simp <;> omega) _))) (hx.mono (by have := hb.size; simp <;> omega))
      clear hx
      go_wp2_with fail
      refine bodyPost_ret (v := .tuple #[.agg #[.int .i64 0, .int .i64 0], .int .i64 1]) (by simp [results, Try.results19, go_sem, c0_o3, c1_o3]) rfl (Ret.mk (by simp [resV, mulF, opF, Hv.out]) (by (have hbs := hb.size; repeat (first | exact Below.refl _ _ | assumption | refine Below.drew ?_ | refine below_drewN ?_ _ | refine Below.setCell ?_ (by simp <;> omega) _ | refine Below.alloc ?_ (by simp <;> omega) _))))
    | true =>
      have Hv := Lib.hid hv
      clear hv
      have ⟨hu1, hu2, hu3, hu4⟩ := vld_bd Hu.out
      have ⟨hv1, hv2, hv3, hv4⟩ := vld_bd Hv.out
      have ⟨m1, m2⟩ := mul_bd (X := 1000000000) (Y := 1000000) hu1 hu2 (by omega : -1000000 ≤ d) hv4
      have ⟨m3, m4⟩ := mul_bd (X := 1000000000) (Y := 1000000) hv1 hv2 (by omega : -1000000 ≤ b) hu4
      have ⟨m5, m6⟩ := mul_bd (X := 1000000) (Y := 1000000) (by omega : -1000000 ≤ b) hu4 (by omega : -1000000 ≤ d) hv4
      have ⟨m7, m8⟩ := mul_bd (X := 1000000000) (Y := 1000000000) hu1 hu2 hv1 hv2
      have m9 : b * d ≠ 0 := Int.mul_ne_zero (by omega) (by omega)
      have hb : Below w.heap.size w w := Below.refl _ _
      go_enter Try.func19, Try.ntmps19
      go_wp2_with fail
      refine (valid_at _ _ _ Hu.out).mono ?_
      rintro e w1 ⟨rfl, hx⟩
      try clear c0_o1 c1_o1 f0_o1 f1_o1 z_o1
      first | have o1 := (Own.new w _ _).below hx | have o1 := ((Own.new w _ _).alloc _).below hx | have o1 := (((Own.new w _ _).alloc _).alloc _).below hx | have o1 := ((((Own.new w _ _).alloc _).alloc _).alloc _).below hx
      obtain ⟨c0_o1, c1_o1, f0_o1, f1_o1, z_o1⟩ := o1.two
      try clear c0_o2 c1_o2 f0_o2 f1_o2 z_o2
      first | have o2 := (Own.at (w.alloc _) _ _ (w.heap.size + 1) (by simp)).below hx | have o2 := ((Own.at (w.alloc _) _ _ (w.heap.size + 1) (by simp)).alloc _).below hx | have o2 := (((Own.at (w.alloc _) _ _ (w.heap.size + 1) (by simp)).alloc _).alloc _).below hx | have o2 := ((((Own.at (w.alloc _) _ _ (w.heap.size + 1) (by simp)).alloc _).alloc _).alloc _).below hx
      obtain ⟨c0_o2, c1_o2, f0_o2, f1_o2, z_o2⟩ := o2.two
      try clear c0_o3 c1_o3 f0_o3 f1_o3 z_o3
      first | have o3 := (Own.at ((w.alloc _).alloc _) _ _ (w.heap.size + 1 + 1) (by simp)).below hx | have o3 := ((Own.at ((w.alloc _).alloc _) _ _ (w.heap.size + 1 + 1) (by simp)).alloc _).below hx | have o3 := (((Own.at ((w.alloc _).alloc _) _ _ (w.heap.size + 1 + 1) (by simp)).alloc _).alloc _).below hx | have o3 := ((((Own.at ((w.alloc _).alloc _) _ _ (w.heap.size + 1 + 1) (by simp)).alloc _).alloc _).alloc _).below hx
      obtain ⟨c0_o3, c1_o3, f0_o3, f1_o3, z_o3⟩ := o3.two
      replace hb : Below w.heap.size w w1 := Below.trans (by (repeat (first | exact Below.refl _ _ | assumption | refine Below.drew ?_ | refine below_drewN ?_ _ | refine Below.setCell ?_ (by simp <;> omega) _ | refine Below.alloc ?_ (by have := hb.size; simp <;> omega) _))) (hx.mono (by have := hb.size; simp <;> omega))
      clear hx
      go_wp2_with fail
      refine (valid_at _ _ _ Hv.out).mono ?_
      rintro e w2 ⟨rfl, hx⟩
      try clear c0_o1 c1_o1 f0_o1 f1_o1 z_o1
      first | replace o1 := o1.below hx | replace o1 := (o1.alloc _).below hx | replace o1 := ((o1.alloc _).alloc _).below hx | replace o1 := (((o1.alloc _).alloc _).alloc _).below hx
      obtain ⟨c0_o1, c1_o1, f0_o1, f1_o1, z_o1⟩ := o1.two
      try clear c0_o2 c1_o2 f0_o2 f1_o2 z_o2
      first | replace o2 := o2.below hx | replace o2 := (o2.alloc _).below hx | replace o2 := ((o2.alloc _).alloc _).below hx | replace o2 := (((o2.alloc _).alloc _).alloc _).below hx
      obtain ⟨c0_o2, c1_o2, f0_o2, f1_o2, z_o2⟩ := o2.two
      try clear c0_o3 c1_o3 f0_o3 f1_o3 z_o3
      first | replace o3 := o3.below hx | replace o3 := (o3.alloc _).below hx | replace o3 := ((o3.alloc _).alloc _).below hx | replace o3 := (((o3.alloc _).alloc _).alloc _).below hx
      obtain ⟨c0_o3, c1_o3, f0_o3, f1_o3, z_o3⟩ := o3.two
      replace hb : Below w.heap.size w w2 := Below.trans (by (repeat (first | exact Below.refl _ _ | assumption | refine Below.drew ?_ | refine below_drewN ?_ _ | refine Below.setCell ?_ (by simp <;> omega) _ | refine Below.alloc ?_ (by have := hb.size; simp <;> omega) _))) (hx.mono (by have := hb.size; simp <;> omega))
      clear hx
      go_wp2_with fail
      refine (settle_at (a * c) (b * d) _ (by omega) (by omega) (by omega) (by omega) m9).mono ?_
      rintro e w3 ⟨rfl, hx⟩
      try clear c0_o3 c1_o3 f0_o3 f1_o3 z_o3
      first | replace o3 := o3.below hx | replace o3 := (o3.alloc _).below hx | replace o3 := ((o3.alloc _).alloc _).below hx | replace o3 := (((o3.alloc _).alloc _).alloc _).below hx
      obtain ⟨c0_o3, c1_o3, f0_o3, f1_o3, z_o3⟩ := o3.two
      replace hb : Below w.heap.size w w3 := Below.trans (by (repeat (first | exact Below.refl _ _ | assumption | refine Below.drew ?_ | refine below_drewN ?_ _ | refine Below.setCell ?_ (by simp <;> omega) _ | refine Below.alloc ?_ (by have := hb.size; simp <;> omega) _))) (hx.mono (by have := hb.size; simp <;> omega))
      clear hx
      go_wp2_with fail
      refine bodyPost_ret (v := .tuple #[.agg #[.int .i64 (setl (a * c) (b * d)).1, .int .i64 (setl (a * c) (b * d)).2.1], .int .i64 (setl (a * c) (b * d)).2.2]) (by simp [results, Try.results19, go_sem, c0_o3, c1_o3]) rfl (Ret.mk (by simp [resV, mulF, opF, Hu.out, Hv.out]) (by (have hbs := hb.size; repeat (first | exact Below.refl _ _ | assumption | refine Below.drew ?_ | refine below_drewN ?_ _ | refine Below.setCell ?_ (by simp <;> omega) _ | refine Below.alloc ?_ (by simp <;> omega) _))))

theorem Ret2.eq {x y : Int} {p : Int × Int} (h : p = (x, y)) : Value.tuple #[.int .i64 x, .int .i64 y] = .tuple #[.int .i64 p.1, .int .i64 p.2] := by rw [h]

set_option maxHeartbeats 400000 in
theorem compare_any (a b c d : Int) (w : World) : Calls Try.prog 21 #[ratV a b, ratV c d] w (Ret (.tuple #[.int .i64 (cmpF a b c d).1, .int .i64 (cmpF a b c d).2]) w) := by
  unfold ratV
  cases hu : vldB a b with
  | false =>
    have Hu := Lib.hid hu
    clear hu
    have hb : Below w.heap.size w w := Below.refl _ _
    go_enter Try.func21, Try.ntmps21
    go_wp2_with fail
    refine (valid_at _ _ _ Hu.out).mono ?_
    rintro e w1 ⟨rfl, hx⟩
    replace hb : Below w.heap.size w w1 := Below.trans (by (repeat (first | exact Below.refl _ _ | assumption | refine Below.drew ?_ | refine below_drewN ?_ _ | refine Below.setCell ?_ (by simp <;> omega) _ | refine Below.alloc ?_ (by have := hb.size; simp <;> omega) _))) (hx.mono (by have := hb.size; simp <;> omega))
    clear hx
    go_wp2_with fail
    go_ret2
    exact Ret.mk (Ret2.eq (by simp [cmpF, Hu.out])) (by (have hbs := hb.size; repeat (first | exact Below.refl _ _ | assumption | refine Below.drew ?_ | refine below_drewN ?_ _ | refine Below.setCell ?_ (by simp <;> omega) _ | refine Below.alloc ?_ (by simp <;> omega) _)))
  | true =>
    have Hu := Lib.hid hu
    clear hu
    cases hv : vldB c d with
    | false =>
      have Hv := Lib.hid hv
      clear hv
      have hb : Below w.heap.size w w := Below.refl _ _
      go_enter Try.func21, Try.ntmps21
      go_wp2_with fail
      refine (valid_at _ _ _ Hu.out).mono ?_
      rintro e w1 ⟨rfl, hx⟩
      try clear c0_o2 c1_o2 f0_o2 f1_o2 z_o2
      first | have o2 := (Own.at (w.alloc _) _ _ (w.heap.size + 1) (by simp)).below hx | have o2 := ((Own.at (w.alloc _) _ _ (w.heap.size + 1) (by simp)).alloc _).below hx | have o2 := (((Own.at (w.alloc _) _ _ (w.heap.size + 1) (by simp)).alloc _).alloc _).below hx | have o2 := ((((Own.at (w.alloc _) _ _ (w.heap.size + 1) (by simp)).alloc _).alloc _).alloc _).below hx
      obtain ⟨c0_o2, c1_o2, f0_o2, f1_o2, z_o2⟩ := o2.two
      replace hb : Below w.heap.size w w1 := Below.trans (by (repeat (first | exact Below.refl _ _ | assumption | refine Below.drew ?_ | refine below_drewN ?_ _ | refine Below.setCell ?_ (by simp <;> omega) _ | refine Below.alloc ?_ (by have := hb.size; simp <;> omega) _))) (hx.mono (by have := hb.size; simp <;> omega))
      clear hx
      go_wp2_with fail
      refine (valid_at _ _ _ Hv.out).mono ?_
      rintro e w2 ⟨rfl, hx⟩
      replace hb : Below w.heap.size w w2 := Below.trans (by (repeat (first | exact Below.refl _ _ | assumption | refine Below.drew ?_ | refine below_drewN ?_ _ | refine Below.setCell ?_ (by simp <;> omega) _ | refine Below.alloc ?_ (by have := hb.size; simp <;> omega) _))) (hx.mono (by have := hb.size; simp <;> omega))
      clear hx
      go_wp2_with fail
      go_ret2
      exact Ret.mk (Ret2.eq (by simp [cmpF, Hv.out])) (by (have hbs := hb.size; repeat (first | exact Below.refl _ _ | assumption | refine Below.drew ?_ | refine below_drewN ?_ _ | refine Below.setCell ?_ (by simp <;> omega) _ | refine Below.alloc ?_ (by simp <;> omega) _)))
    | true =>
      have Hv := Lib.hid hv
      clear hv
      have ⟨hu1, hu2, hu3, hu4⟩ := vld_bd Hu.out
      have ⟨hv1, hv2, hv3, hv4⟩ := vld_bd Hv.out
      have ⟨m1, m2⟩ := mul_bd (X := 1000000000) (Y := 1000000) hu1 hu2 (by omega : -1000000 ≤ d) hv4
      have ⟨m3, m4⟩ := mul_bd (X := 1000000000) (Y := 1000000) hv1 hv2 (by omega : -1000000 ≤ b) hu4
      have hb : Below w.heap.size w w := Below.refl _ _
      have he := eql_rat
      cases hs : (a == c && b == d) with
      | true =>
        have Hs := Lib.hid hs
        have hs1 : a = c := by simp at hs; exact hs.1
        have hs2 : b = d := by simp at hs; exact hs.2
        clear hs
        subst hs1 hs2
        go_enter Try.func21, Try.ntmps21
        go_wp2_with fail
        refine (valid_at _ _ _ Hu.out).mono ?_
        rintro e w1 ⟨rfl, hx⟩
        try clear c0_o1 c1_o1 f0_o1 f1_o1 z_o1
        first | have o1 := (Own.new w _ _).below hx | have o1 := ((Own.new w _ _).alloc _).below hx | have o1 := (((Own.new w _ _).alloc _).alloc _).below hx | have o1 := ((((Own.new w _ _).alloc _).alloc _).alloc _).below hx
        obtain ⟨c0_o1, c1_o1, f0_o1, f1_o1, z_o1⟩ := o1.two
        try clear c0_o2 c1_o2 f0_o2 f1_o2 z_o2
        first | have o2 := (Own.at (w.alloc _) _ _ (w.heap.size + 1) (by simp)).below hx | have o2 := ((Own.at (w.alloc _) _ _ (w.heap.size + 1) (by simp)).alloc _).below hx | have o2 := (((Own.at (w.alloc _) _ _ (w.heap.size + 1) (by simp)).alloc _).alloc _).below hx | have o2 := ((((Own.at (w.alloc _) _ _ (w.heap.size + 1) (by simp)).alloc _).alloc _).alloc _).below hx
        obtain ⟨c0_o2, c1_o2, f0_o2, f1_o2, z_o2⟩ := o2.two
        replace hb : Below w.heap.size w w1 := Below.trans (by (repeat (first | exact Below.refl _ _ | assumption | refine Below.drew ?_ | refine below_drewN ?_ _ | refine Below.setCell ?_ (by simp <;> omega) _ | refine Below.alloc ?_ (by have := hb.size; simp <;> omega) _))) (hx.mono (by have := hb.size; simp <;> omega))
        clear hx
        go_wp2_with fail
        refine (valid_at _ _ _ Hv.out).mono ?_
        rintro e w2 ⟨rfl, hx⟩
        try clear c0_o1 c1_o1 f0_o1 f1_o1 z_o1
        first | replace o1 := o1.below hx | replace o1 := (o1.alloc _).below hx | replace o1 := ((o1.alloc _).alloc _).below hx | replace o1 := (((o1.alloc _).alloc _).alloc _).below hx
        obtain ⟨c0_o1, c1_o1, f0_o1, f1_o1, z_o1⟩ := o1.two
        try clear c0_o2 c1_o2 f0_o2 f1_o2 z_o2
        first | replace o2 := o2.below hx | replace o2 := (o2.alloc _).below hx | replace o2 := ((o2.alloc _).alloc _).below hx | replace o2 := (((o2.alloc _).alloc _).alloc _).below hx
        obtain ⟨c0_o2, c1_o2, f0_o2, f1_o2, z_o2⟩ := o2.two
        replace hb : Below w.heap.size w w2 := Below.trans (by (repeat (first | exact Below.refl _ _ | assumption | refine Below.drew ?_ | refine below_drewN ?_ _ | refine Below.setCell ?_ (by simp <;> omega) _ | refine Below.alloc ?_ (by have := hb.size; simp <;> omega) _))) (hx.mono (by have := hb.size; simp <;> omega))
        clear hx
        go_wp2_with fail
        go_ret2
        exact Ret.mk (Ret2.eq (by simp [cmpF, Hv.out])) (by (have hbs := hb.size; repeat (first | exact Below.refl _ _ | assumption | refine Below.drew ?_ | refine below_drewN ?_ _ | refine Below.setCell ?_ (by simp <;> omega) _ | refine Below.alloc ?_ (by simp <;> omega) _)))
      | false =>
        have Hs := Lib.hid hs
        have hne : a * d ≠ c * b := fun h => by have := vld_eq Hu.out Hv.out h; simp [this.1, this.2] at hs
        clear hs
        by_cases hl : a * d < c * b
        · have hs := Hs.out
          go_enter Try.func21, Try.ntmps21
          go_wp2_with fail
          refine (valid_at _ _ _ Hu.out).mono ?_
          rintro e w1 ⟨rfl, hx⟩
          try clear c0_o1 c1_o1 f0_o1 f1_o1 z_o1
          first | have o1 := (Own.new w _ _).below hx | have o1 := ((Own.new w _ _).alloc _).below hx | have o1 := (((Own.new w _ _).alloc _).alloc _).below hx | have o1 := ((((Own.new w _ _).alloc _).alloc _).alloc _).below hx
          obtain ⟨c0_o1, c1_o1, f0_o1, f1_o1, z_o1⟩ := o1.two
          try clear c0_o2 c1_o2 f0_o2 f1_o2 z_o2
          first | have o2 := (Own.at (w.alloc _) _ _ (w.heap.size + 1) (by simp)).below hx | have o2 := ((Own.at (w.alloc _) _ _ (w.heap.size + 1) (by simp)).alloc _).below hx | have o2 := (((Own.at (w.alloc _) _ _ (w.heap.size + 1) (by simp)).alloc _).alloc _).below hx | have o2 := ((((Own.at (w.alloc _) _ _ (w.heap.size + 1) (by simp)).alloc _).alloc _).alloc _).below hx
          obtain ⟨c0_o2, c1_o2, f0_o2, f1_o2, z_o2⟩ := o2.two
          replace hb : Below w.heap.size w w1 := Below.trans (by (repeat (first | exact Below.refl _ _ | assumption | refine Below.drew ?_ | refine below_drewN ?_ _ | refine Below.setCell ?_ (by simp <;> omega) _ | refine Below.alloc ?_ (by have := hb.size; simp <;> omega) _))) (hx.mono (by have := hb.size; simp <;> omega))
          clear hx
          go_wp2_with fail
          refine (valid_at _ _ _ Hv.out).mono ?_
          rintro e w2 ⟨rfl, hx⟩
          try clear c0_o1 c1_o1 f0_o1 f1_o1 z_o1
          first | replace o1 := o1.below hx | replace o1 := (o1.alloc _).below hx | replace o1 := ((o1.alloc _).alloc _).below hx | replace o1 := (((o1.alloc _).alloc _).alloc _).below hx
          obtain ⟨c0_o1, c1_o1, f0_o1, f1_o1, z_o1⟩ := o1.two
          try clear c0_o2 c1_o2 f0_o2 f1_o2 z_o2
          first | replace o2 := o2.below hx | replace o2 := (o2.alloc _).below hx | replace o2 := ((o2.alloc _).alloc _).below hx | replace o2 := (((o2.alloc _).alloc _).alloc _).below hx
          obtain ⟨c0_o2, c1_o2, f0_o2, f1_o2, z_o2⟩ := o2.two
          replace hb : Below w.heap.size w w2 := Below.trans (by (repeat (first | exact Below.refl _ _ | assumption | refine Below.drew ?_ | refine below_drewN ?_ _ | refine Below.setCell ?_ (by simp <;> omega) _ | refine Below.alloc ?_ (by have := hb.size; simp <;> omega) _))) (hx.mono (by have := hb.size; simp <;> omega))
          clear hx
          go_wp2_with fail
          go_ret2
          exact Ret.mk (Ret2.eq (by simp [cmpF, Hu.out, Hv.out]; omega)) (by (have hbs := hb.size; repeat (first | exact Below.refl _ _ | assumption | refine Below.drew ?_ | refine below_drewN ?_ _ | refine Below.setCell ?_ (by simp <;> omega) _ | refine Below.alloc ?_ (by simp <;> omega) _)))
        · have hl' : decide (a * d < c * b) = false := by simpa using hl
          have hs := Hs.out
          go_enter Try.func21, Try.ntmps21
          go_wp2_with fail
          refine (valid_at _ _ _ Hu.out).mono ?_
          rintro e w1 ⟨rfl, hx⟩
          try clear c0_o1 c1_o1 f0_o1 f1_o1 z_o1
          first | have o1 := (Own.new w _ _).below hx | have o1 := ((Own.new w _ _).alloc _).below hx | have o1 := (((Own.new w _ _).alloc _).alloc _).below hx | have o1 := ((((Own.new w _ _).alloc _).alloc _).alloc _).below hx
          obtain ⟨c0_o1, c1_o1, f0_o1, f1_o1, z_o1⟩ := o1.two
          try clear c0_o2 c1_o2 f0_o2 f1_o2 z_o2
          first | have o2 := (Own.at (w.alloc _) _ _ (w.heap.size + 1) (by simp)).below hx | have o2 := ((Own.at (w.alloc _) _ _ (w.heap.size + 1) (by simp)).alloc _).below hx | have o2 := (((Own.at (w.alloc _) _ _ (w.heap.size + 1) (by simp)).alloc _).alloc _).below hx | have o2 := ((((Own.at (w.alloc _) _ _ (w.heap.size + 1) (by simp)).alloc _).alloc _).alloc _).below hx
          obtain ⟨c0_o2, c1_o2, f0_o2, f1_o2, z_o2⟩ := o2.two
          replace hb : Below w.heap.size w w1 := Below.trans (by (repeat (first | exact Below.refl _ _ | assumption | refine Below.drew ?_ | refine below_drewN ?_ _ | refine Below.setCell ?_ (by simp <;> omega) _ | refine Below.alloc ?_ (by have := hb.size; simp <;> omega) _))) (hx.mono (by have := hb.size; simp <;> omega))
          clear hx
          go_wp2_with fail
          refine (valid_at _ _ _ Hv.out).mono ?_
          rintro e w2 ⟨rfl, hx⟩
          try clear c0_o1 c1_o1 f0_o1 f1_o1 z_o1
          first | replace o1 := o1.below hx | replace o1 := (o1.alloc _).below hx | replace o1 := ((o1.alloc _).alloc _).below hx | replace o1 := (((o1.alloc _).alloc _).alloc _).below hx
          obtain ⟨c0_o1, c1_o1, f0_o1, f1_o1, z_o1⟩ := o1.two
          try clear c0_o2 c1_o2 f0_o2 f1_o2 z_o2
          first | replace o2 := o2.below hx | replace o2 := (o2.alloc _).below hx | replace o2 := ((o2.alloc _).alloc _).below hx | replace o2 := (((o2.alloc _).alloc _).alloc _).below hx
          obtain ⟨c0_o2, c1_o2, f0_o2, f1_o2, z_o2⟩ := o2.two
          replace hb : Below w.heap.size w w2 := Below.trans (by (repeat (first | exact Below.refl _ _ | assumption | refine Below.drew ?_ | refine below_drewN ?_ _ | refine Below.setCell ?_ (by simp <;> omega) _ | refine Below.alloc ?_ (by have := hb.size; simp <;> omega) _))) (hx.mono (by have := hb.size; simp <;> omega))
          clear hx
          go_wp2_with fail
          go_ret2
          exact Ret.mk (Ret2.eq (by simp [cmpF, Hu.out, Hv.out]; omega)) (by (have hbs := hb.size; repeat (first | exact Below.refl _ _ | assumption | refine Below.drew ?_ | refine below_drewN ?_ _ | refine Below.setCell ?_ (by simp <;> omega) _ | refine Below.alloc ?_ (by simp <;> omega) _)))
end Go.Proofs.Ytojjjbhkpcmooaa
