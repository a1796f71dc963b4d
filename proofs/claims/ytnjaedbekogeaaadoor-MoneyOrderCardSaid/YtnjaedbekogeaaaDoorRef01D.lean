/-
  The walks of the reference of layer 1: Floor, Rounded, Round, Part.
-/
import Derived.Test.YtnjaedbekogeaaaDoorRef01C
namespace Go.Proofs.YtnjaedbekogeaaaDoor
open Go.RowKit

set_option maxHeartbeats 400000 in
theorem r_floor (n d : Int) (w : World) (h1 : -4000000000000000000 ≤ n) (h2 : n ≤ 4000000000000000000) (hd : 1 ≤ d) (hd2 : d ≤ 4000000000000000000) : Calls Tryd.prog 61 #[.int .i64 n, .int .i64 d] w (Same (.int .i64 (rndF n d 1)) w) := by
  have hl := tdiv_natAbs_le n d
  have HR := Lib.hid (rnd_down n d hd)
  by_cases hm : n.tmod d < 0
  · go_enter Tryd.func61, Tryd.ntmps61
    go_wp2_with fail
    go_ret
    exact Same.mk (by rw [HR.out, if_pos hm]; rfl) rfl
  · have hm' : decide (n.tmod d < 0) = false := by simpa using hm
    go_enter Tryd.func61, Tryd.ntmps61
    go_wp2_with fail
    go_ret
    exact Same.mk (by rw [HR.out, if_neg (by omega)]; rfl) rfl

set_option maxHeartbeats 400000 in
theorem r_rounded (n d way : Int) (w : World) (h1 : -2000000000000000000 ≤ n) (h2 : n ≤ 2000000000000000000) (hd : 1 ≤ d) (hd2 : d ≤ 1000000) : Calls Tryd.prog 42 #[.int .i64 n, .int .i64 d, .int .i64 way] w (Same (.int .i64 (rndF n d way)) w) := by
  obtain ⟨hl1, hl2⟩ := div_le n d hd 4000000000000000000 (by omega) (by omega) (by omega)
  obtain ⟨hb1, hb2⟩ := div_bd n d hd
  have HR : Hid (rndF n d way = if way = 2 ∧ n - n / d * d > 0 ∨ way = 3 ∧ (n - n / d * d > d - (n - n / d * d) ∨ n - n / d * d = d - (n - n / d * d) ∧ n / d % 2 ≠ 0) then n / d + 1 else n / d) := Lib.hid rfl
  have hx : rndF n d 1 = n / d := by simp [rndF]
  generalize n / d = q at *
  have HX := Lib.hid hx
  clear hx
  by_cases hw2 : way = 2
  · subst hw2
    by_cases hr : 0 < n - q * d
    · go_enter Tryd.func42, Tryd.ntmps42
      go_wp2_with fail
      refine (r_floor n d _ (by omega) (by omega) hd (by omega)).mono ?_
      rintro e w' ⟨rfl, rfl⟩
      rw [HX.out]
      go_wp2_with fail
      go_ret
      exact Same.mk (by rw [HR.out, if_pos (Or.inl ⟨trivial, by omega⟩)]; rfl) rfl
    · have hr' : decide (0 < n - q * d) = false := by simpa using hr
      go_enter Tryd.func42, Tryd.ntmps42
      go_wp2_with fail
      refine (r_floor n d _ (by omega) (by omega) hd (by omega)).mono ?_
      rintro e w' ⟨rfl, rfl⟩
      rw [HX.out]
      go_wp2_with fail
      go_ret
      exact Same.mk (by rw [HR.out, if_neg (by omega)]; rfl) rfl
  · have hw2' : (way == 2) = false := by simpa using hw2
    by_cases hw3 : way = 3
    · subst hw3
      by_cases hA : d - (n - q * d) < n - q * d
      · go_enter Tryd.func42, Tryd.ntmps42
        go_wp2_with fail
        refine (r_floor n d _ (by omega) (by omega) hd (by omega)).mono ?_
        rintro e w' ⟨rfl, rfl⟩
        rw [HX.out]
        go_wp2_with fail
        go_ret
        exact Same.mk (by rw [HR.out, if_pos (Or.inr ⟨trivial, Or.inl (by omega)⟩)]; rfl) rfl
      · have hA' : decide (d - (n - q * d) < n - q * d) = false := by simpa using hA
        by_cases hB : n - q * d = d - (n - q * d)
        · have hB' : (n - q * d == d - (n - q * d)) = true := by simpa using hB
          have HB := Lib.hid hB
          clear hB
          by_cases hC : q.tmod 2 = 0
          · have hC' : (q.tmod 2 != 0) = false := by simpa using hC
            have HC := Lib.hid hC
            clear hC
            go_enter Tryd.func42, Tryd.ntmps42
            go_wp2_with fail
            refine (r_floor n d _ (by omega) (by omega) hd (by omega)).mono ?_
            rintro e w' ⟨rfl, rfl⟩
            rw [HX.out]
            go_wp2_with fail
            go_ret
            exact Same.mk (by rw [HR.out, if_neg (by have := HB.out; have := (tmod2 q).1 HC.out; omega)]; rfl) rfl
          · have hC' : (q.tmod 2 != 0) = true := by simpa using hC
            go_enter Tryd.func42, Tryd.ntmps42
            go_wp2_with fail
            refine (r_floor n d _ (by omega) (by omega) hd (by omega)).mono ?_
            rintro e w' ⟨rfl, rfl⟩
            rw [HX.out]
            go_wp2_with fail
            go_ret
            exact Same.mk (by rw [HR.out, if_pos (Or.inr ⟨trivial, Or.inr ⟨HB.out, mt (tmod2 q).2 hC⟩⟩)]; rfl) rfl
        · have hB' : (n - q * d == d - (n - q * d)) = false := by simpa using hB
          go_enter Tryd.func42, Tryd.ntmps42
          go_wp2_with fail
          refine (r_floor n d _ (by omega) (by omega) hd (by omega)).mono ?_
          rintro e w' ⟨rfl, rfl⟩
          rw [HX.out]
          go_wp2_with fail
          go_ret
          exact Same.mk (by rw [HR.out, if_neg (by omega)]; rfl) rfl
    · have hw3' : (way == 3) = false := by simpa using hw3
      go_enter Tryd.func42, Tryd.ntmps42
      go_wp2_with fail
      refine (r_floor n d _ (by omega) (by omega) hd (by omega)).mono ?_
      rintro e w' ⟨rfl, rfl⟩
      rw [HX.out]
      go_wp2_with fail
      go_ret
      exact Same.mk (by rw [HR.out, if_neg (by omega)]; rfl) rfl

set_option maxHeartbeats 400000 in
theorem r_part (n a b way : Int) (w : World) : Calls Tryd.prog 29 #[.int .i64 n, .agg #[.int .i64 a, .int .i64 b], .int .i64 way] w (Ret (.tuple #[.int .i64 (partF n a b way).1, .int .i64 (partF n a b way).2]) w) := by
  have hb : Below w.heap.size w w := Below.refl _ _
  generalize hv0 : vldB a b = v0
  have HV := Lib.hid hv0
  clear hv0
  by_cases h1 : n < -1000000000
  · have HF : Hid (partF n a b way = (0, 1)) := Lib.hid (by have f : wthB n 1000000000 = false := (by simp [wthB]; omega); simp [partF, f])
    skip
    go_enter Tryd.func29, Tryd.ntmps29
    go_wp2_with fail
    refine (r_valid_at _ _ _ HV.out).mono ?_
    rintro e w1 ⟨rfl, hx⟩
    replace hb : Below w.heap.size w w1 := Below.trans (by (repeat (first | exact Below.refl _ _ | assumption | refine Below.drew ?_ | refine below_drewN ?_ _ | refine Below.setCell ?_ (by first | omega | (simp <;> omega)) _ | refine Below.alloc ?_ (by have := hb.size; first | omega | (simp <;> omega)) _))) (hx.mono (by have := hb.size; first | omega | (simp <;> omega)))
    clear hx
    go_wp2_with fail
    go_ret2
    exact Ret.mk (Ret2.eq HF.out) hb
  · have h1' : decide (n < -1000000000) = false := by simpa using h1
    by_cases h2 : 1000000000 < n
    · have HF : Hid (partF n a b way = (0, 1)) := Lib.hid (by have f : wthB n 1000000000 = false := (by simp [wthB]; omega); simp [partF, f])
      skip
      go_enter Tryd.func29, Tryd.ntmps29
      go_wp2_with fail
      refine (r_valid_at _ _ _ HV.out).mono ?_
      rintro e w1 ⟨rfl, hx⟩
      replace hb : Below w.heap.size w w1 := Below.trans (by (repeat (first | exact Below.refl _ _ | assumption | refine Below.drew ?_ | refine below_drewN ?_ _ | refine Below.setCell ?_ (by first | omega | (simp <;> omega)) _ | refine Below.alloc ?_ (by have := hb.size; first | omega | (simp <;> omega)) _))) (hx.mono (by have := hb.size; first | omega | (simp <;> omega)))
      clear hx
      go_wp2_with fail
      go_ret2
      exact Ret.mk (Ret2.eq HF.out) hb
    · have h2' : decide (1000000000 < n) = false := by simpa using h2
      have HN : Hid (wthB n 1000000000 = true) := Lib.hid (by simp [wthB]; omega)
      cases v0 with
      | false =>
        have HF : Hid (partF n a b way = (0, 1)) := Lib.hid (by simp [partF, HV.out])
        skip
        go_enter Tryd.func29, Tryd.ntmps29
        go_wp2_with fail
        refine (r_valid_at _ _ _ HV.out).mono ?_
        rintro e w1 ⟨rfl, hx⟩
        replace hb : Below w.heap.size w w1 := Below.trans (by (repeat (first | exact Below.refl _ _ | assumption | refine Below.drew ?_ | refine below_drewN ?_ _ | refine Below.setCell ?_ (by first | omega | (simp <;> omega)) _ | refine Below.alloc ?_ (by have := hb.size; first | omega | (simp <;> omega)) _))) (hx.mono (by have := hb.size; first | omega | (simp <;> omega)))
        clear hx
        go_wp2_with fail
        go_ret2
        exact Ret.mk (Ret2.eq HF.out) hb
      | true =>
        have ⟨hu1, hu2, hu3, hu4⟩ := vld_bd HV.out
        by_cases h3 : way < 1
        · have HF : Hid (partF n a b way = (0, 1)) := Lib.hid (by unfold partF; rw [if_neg (by omega)])
          skip
          go_enter Tryd.func29, Tryd.ntmps29
          go_wp2_with fail
          refine (r_valid_at _ _ _ HV.out).mono ?_
          rintro e w1 ⟨rfl, hx⟩
          replace hb : Below w.heap.size w w1 := Below.trans (by (repeat (first | exact Below.refl _ _ | assumption | refine Below.drew ?_ | refine below_drewN ?_ _ | refine Below.setCell ?_ (by first | omega | (simp <;> omega)) _ | refine Below.alloc ?_ (by have := hb.size; first | omega | (simp <;> omega)) _))) (hx.mono (by have := hb.size; first | omega | (simp <;> omega)))
          clear hx
          go_wp2_with fail
          go_ret2
          exact Ret.mk (Ret2.eq HF.out) hb
        · have h3' : decide (way < 1) = false := by simpa using h3
          by_cases h4 : 3 < way
          · have HF : Hid (partF n a b way = (0, 1)) := Lib.hid (by unfold partF; rw [if_neg (by omega)])
            skip
            go_enter Tryd.func29, Tryd.ntmps29
            go_wp2_with fail
            refine (r_valid_at _ _ _ HV.out).mono ?_
            rintro e w1 ⟨rfl, hx⟩
            replace hb : Below w.heap.size w w1 := Below.trans (by (repeat (first | exact Below.refl _ _ | assumption | refine Below.drew ?_ | refine below_drewN ?_ _ | refine Below.setCell ?_ (by first | omega | (simp <;> omega)) _ | refine Below.alloc ?_ (by have := hb.size; first | omega | (simp <;> omega)) _))) (hx.mono (by have := hb.size; first | omega | (simp <;> omega)))
            clear hx
            go_wp2_with fail
            go_ret2
            exact Ret.mk (Ret2.eq HF.out) hb
          · have h4' : decide (3 < way) = false := by simpa using h4
            have HF : Hid (partF n a b way = if wthB (rndF (n * a) b way) 1000000000 then (rndF (n * a) b way, 0) else (0, 3)) := Lib.hid (by unfold partF; rw [if_pos ⟨HV.out, by omega, HN.out⟩])
            have ⟨m1, m2⟩ := mul_bd (X := 1000000000) (Y := 1000000000) (by omega : -1000000000 ≤ n) (by omega) hu1 hu2
            generalize hx : rndF (n * a) b way = x at *
            have HX := Lib.hid hx
            clear hx
            by_cases h5 : x < -1000000000
            · go_enter Tryd.func29, Tryd.ntmps29
              go_wp2_with fail
              refine (r_valid_at _ _ _ HV.out).mono ?_
              rintro e w1 ⟨rfl, hx⟩
              try clear c0_o1 c1_o1 f0_o1 f1_o1 z_o1
              first | have o1 := (Own.new w _ _).below hx | have o1 := ((Own.new w _ _).alloc _).below hx | have o1 := (((Own.new w _ _).alloc _).alloc _).below hx | have o1 := ((((Own.new w _ _).alloc _).alloc _).alloc _).below hx | have o1 := ((Own.new w _ _).set2 _ _).below hx | have o1 := (((Own.new w _ _).setCell (by simp <;> omega) _).setCell (by simp <;> omega) _).below hx
              obtain ⟨c0_o1, c1_o1, f0_o1, f1_o1, z_o1⟩ := o1.two
              replace hb : Below w.heap.size w w1 := Below.trans (by (repeat (first | exact Below.refl _ _ | assumption | refine Below.drew ?_ | refine below_drewN ?_ _ | refine Below.setCell ?_ (by first | omega | (simp <;> omega)) _ | refine Below.alloc ?_ (by have := hb.size; first | omega | (simp <;> omega)) _))) (hx.mono (by have := hb.size; first | omega | (simp <;> omega)))
              clear hx
              go_wp2_with fail
              refine (r_rounded (n * a) b way _ (by omega) (by omega) hu3 hu4).mono ?_
              rintro e w' ⟨rfl, rfl⟩
              rw [HX.out]
              go_wp2_with fail
              go_ret2
              exact Ret.mk (Ret2.eq (by have f : wthB x 1000000000 = false := (by simp [wthB]; omega); rw [HF.out, f]; rfl)) hb
            · have h5' : decide (x < -1000000000) = false := by simpa using h5
              by_cases h6 : 1000000000 < x
              · go_enter Tryd.func29, Tryd.ntmps29
                go_wp2_with fail
                refine (r_valid_at _ _ _ HV.out).mono ?_
                rintro e w1 ⟨rfl, hx⟩
                try clear c0_o1 c1_o1 f0_o1 f1_o1 z_o1
                first | have o1 := (Own.new w _ _).below hx | have o1 := ((Own.new w _ _).alloc _).below hx | have o1 := (((Own.new w _ _).alloc _).alloc _).below hx | have o1 := ((((Own.new w _ _).alloc _).alloc _).alloc _).below hx | have o1 := ((Own.new w _ _).set2 _ _).below hx | have o1 := (((Own.new w _ _).setCell (by simp <;> omega) _).setCell (by simp <;> omega) _).below hx
                obtain ⟨c0_o1, c1_o1, f0_o1, f1_o1, z_o1⟩ := o1.two
                replace hb : Below w.heap.size w w1 := Below.trans (by (repeat (first | exact Below.refl _ _ | assumption | refine Below.drew ?_ | refine below_drewN ?_ _ | refine Below.setCell ?_ (by first | omega | (simp <;> omega)) _ | refine Below.alloc ?_ (by have := hb.size; first | omega | (simp <;> omega)) _))) (hx.mono (by have := hb.size; first | omega | (simp <;> omega)))
                clear hx
                go_wp2_with fail
                refine (r_rounded (n * a) b way _ (by omega) (by omega) hu3 hu4).mono ?_
                rintro e w' ⟨rfl, rfl⟩
                rw [HX.out]
                go_wp2_with fail
                go_ret2
                exact Ret.mk (Ret2.eq (by have f : wthB x 1000000000 = false := (by simp [wthB]; omega); rw [HF.out, f]; rfl)) hb
              · have h6' : decide (1000000000 < x) = false := by simpa using h6
                go_enter Tryd.func29, Tryd.ntmps29
                go_wp2_with fail
                refine (r_valid_at _ _ _ HV.out).mono ?_
                rintro e w1 ⟨rfl, hx⟩
                try clear c0_o1 c1_o1 f0_o1 f1_o1 z_o1
                first | have o1 := (Own.new w _ _).below hx | have o1 := ((Own.new w _ _).alloc _).below hx | have o1 := (((Own.new w _ _).alloc _).alloc _).below hx | have o1 := ((((Own.new w _ _).alloc _).alloc _).alloc _).below hx | have o1 := ((Own.new w _ _).set2 _ _).below hx | have o1 := (((Own.new w _ _).setCell (by simp <;> omega) _).setCell (by simp <;> omega) _).below hx
                obtain ⟨c0_o1, c1_o1, f0_o1, f1_o1, z_o1⟩ := o1.two
                replace hb : Below w.heap.size w w1 := Below.trans (by (repeat (first | exact Below.refl _ _ | assumption | refine Below.drew ?_ | refine below_drewN ?_ _ | refine Below.setCell ?_ (by first | omega | (simp <;> omega)) _ | refine Below.alloc ?_ (by have := hb.size; first | omega | (simp <;> omega)) _))) (hx.mono (by have := hb.size; first | omega | (simp <;> omega)))
                clear hx
                go_wp2_with fail
                refine (r_rounded (n * a) b way _ (by omega) (by omega) hu3 hu4).mono ?_
                rintro e w' ⟨rfl, rfl⟩
                rw [HX.out]
                go_wp2_with fail
                go_ret2
                exact Ret.mk (Ret2.eq (by have f : wthB x 1000000000 = true := (by simp [wthB]; omega); rw [HF.out, f]; rfl)) hb
end Go.Proofs.YtnjaedbekogeaaaDoor
