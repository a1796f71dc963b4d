/-
  The walks of the reference of layer 1: Make, both, the operations.
-/
import Derived.Test.YthnlenbfknbmcaaGreatDoorRef01B
namespace Go.Proofs.YthnlenbfknbmcaaGreatDoor
open Go.RowKit

set_option maxHeartbeats 400000 in
theorem r_make (n d : Int) (w : World) : Calls Tryz.prog 20 #[.int .i64 n, .int .i64 d] w (Ret (.tuple #[.agg #[.int .i64 (mkF n d).1, .int .i64 (mkF n d).2.1], .int .i64 (mkF n d).2.2]) w) := by
  by_cases h0 : d = 0
  · subst h0
    go_enter Tryz.func20, Tryz.ntmps20
    go_wp2_with fail
    refine bodyPost_ret (v := .tuple #[.agg #[.int .i64 0, .int .i64 0], .int .i64 1]) (by simp [results, Tryz.results20, go_sem]) rfl (Ret.mk (by simp [mkF]) (by (repeat (first | exact Below.refl _ _ | assumption | refine Below.drew ?_ | refine below_drewN ?_ _ | refine Below.setCell ?_ (by first | omega | (simp <;> omega)) _ | refine Below.alloc ?_ (by first | omega | (simp <;> omega)) _))))
  · have h0' : (d == 0) = false := by simpa using h0
    by_cases h1 : n < -1000000000000000
    · go_enter Tryz.func20, Tryz.ntmps20
      go_wp2_with fail
      refine bodyPost_ret (v := .tuple #[.agg #[.int .i64 0, .int .i64 0], .int .i64 1]) (by simp [results, Tryz.results20, go_sem]) rfl (Ret.mk (by have hf : wthB n 1000000000000000 = false := (by simp [wthB]; omega); simp [mkF, hf]) (by (repeat (first | exact Below.refl _ _ | assumption | refine Below.drew ?_ | refine below_drewN ?_ _ | refine Below.setCell ?_ (by first | omega | (simp <;> omega)) _ | refine Below.alloc ?_ (by first | omega | (simp <;> omega)) _))))
    · have h1' : decide (n < -1000000000000000) = false := by simpa using h1
      by_cases h2 : 1000000000000000 < n
      · go_enter Tryz.func20, Tryz.ntmps20
        go_wp2_with fail
        refine bodyPost_ret (v := .tuple #[.agg #[.int .i64 0, .int .i64 0], .int .i64 1]) (by simp [results, Tryz.results20, go_sem]) rfl (Ret.mk (by have hf : wthB n 1000000000000000 = false := (by simp [wthB]; omega); simp [mkF, hf]) (by (repeat (first | exact Below.refl _ _ | assumption | refine Below.drew ?_ | refine below_drewN ?_ _ | refine Below.setCell ?_ (by first | omega | (simp <;> omega)) _ | refine Below.alloc ?_ (by first | omega | (simp <;> omega)) _))))
      · have h2' : decide (1000000000000000 < n) = false := by simpa using h2
        by_cases h3 : d < -1000000000000000
        · go_enter Tryz.func20, Tryz.ntmps20
          go_wp2_with fail
          refine bodyPost_ret (v := .tuple #[.agg #[.int .i64 0, .int .i64 0], .int .i64 1]) (by simp [results, Tryz.results20, go_sem]) rfl (Ret.mk (by have hf : wthB d 1000000000000000 = false := (by simp [wthB]; omega); simp [mkF, hf]) (by (repeat (first | exact Below.refl _ _ | assumption | refine Below.drew ?_ | refine below_drewN ?_ _ | refine Below.setCell ?_ (by first | omega | (simp <;> omega)) _ | refine Below.alloc ?_ (by first | omega | (simp <;> omega)) _))))
        · have h3' : decide (d < -1000000000000000) = false := by simpa using h3
          by_cases h4 : 1000000000000000 < d
          · go_enter Tryz.func20, Tryz.ntmps20
            go_wp2_with fail
            refine bodyPost_ret (v := .tuple #[.agg #[.int .i64 0, .int .i64 0], .int .i64 1]) (by simp [results, Tryz.results20, go_sem]) rfl (Ret.mk (by have hf : wthB d 1000000000000000 = false := (by simp [wthB]; omega); simp [mkF, hf]) (by (repeat (first | exact Below.refl _ _ | assumption | refine Below.drew ?_ | refine below_drewN ?_ _ | refine Below.setCell ?_ (by first | omega | (simp <;> omega)) _ | refine Below.alloc ?_ (by first | omega | (simp <;> omega)) _))))
          · have h4' : decide (1000000000000000 < d) = false := by simpa using h4
            have hb : Below w.heap.size w w := Below.refl _ _
            have hM : Hid (mkF n d = setl n d) := Lib.hid (by
              have f1 : wthB n 1000000000000000 = true := (by simp [wthB]; omega)
              have f2 : wthB d 1000000000000000 = true := (by simp [wthB]; omega)
              simp [mkF, f1, f2, h0])
            go_enter Tryz.func20, Tryz.ntmps20
            go_wp2_with fail
            refine (r_make0 n d _ (by omega) (by omega) (by omega) (by omega) h0).mono ?_
            rintro e w1 ⟨rfl, hx⟩
            try clear c0_o1 c1_o1 f0_o1 f1_o1 z_o1
            first | have o1 := (Own.new w _ _).below hx | have o1 := ((Own.new w _ _).alloc _).below hx | have o1 := (((Own.new w _ _).alloc _).alloc _).below hx | have o1 := ((((Own.new w _ _).alloc _).alloc _).alloc _).below hx | have o1 := ((Own.new w _ _).set2 _ _).below hx | have o1 := (((Own.new w _ _).setCell (by simp <;> omega) _).setCell (by simp <;> omega) _).below hx
            obtain ⟨c0_o1, c1_o1, f0_o1, f1_o1, z_o1⟩ := o1.two
            replace hb : Below w.heap.size w w1 := Below.trans (by (repeat (first | exact Below.refl _ _ | assumption | refine Below.drew ?_ | refine below_drewN ?_ _ | refine Below.setCell ?_ (by first | omega | (simp <;> omega)) _ | refine Below.alloc ?_ (by have := hb.size; first | omega | (simp <;> omega)) _))) (hx.mono (by have := hb.size; first | omega | (simp <;> omega)))
            clear hx
            go_wp2_with fail
            refine bodyPost_ret (v := .tuple #[.agg #[.int .i64 (setl n d).1, .int .i64 (setl n d).2.1], .int .i64 (setl n d).2.2]) (by simp [results, Tryz.results20, go_sem, c0_o1, c1_o1, z_o1]) rfl (Ret.mk (by rw [hM.out]) (by (have hbs := hb.size; repeat (first | exact Below.refl _ _ | assumption | refine Below.drew ?_ | refine below_drewN ?_ _ | refine Below.setCell ?_ (by first | omega | (simp <;> omega)) _ | refine Below.alloc ?_ (by first | omega | (simp <;> omega)) _))))

end Go.Proofs.YthnlenbfknbmcaaGreatDoor
