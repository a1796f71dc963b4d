/-
  The walks of the ratio package: rounding to even, Round and Part.
-/
import Derived.Test.YtnjaedbekogeaaaDoorRatioD
namespace Go.Proofs.YtnjaedbekogeaaaDoor
open Go.RowKit

theorem tmod2 (q : Int) : q.tmod 2 = 0 ↔ q % 2 = 0 := by rw [← Int.dvd_iff_tmod_eq_zero, ← Int.dvd_iff_emod_eq_zero]

set_option maxHeartbeats 400000 in
theorem even_any (n d : Int) (w : World) (h1 : -2000000000000000000 ≤ n) (h2 : n ≤ 2000000000000000000) (hd : 1 ≤ d) (hd2 : d ≤ 1000000) : Calls Tryd.prog 58 #[.int .i64 n, .int .i64 d] w (Same (.int .i64 (rndF n d 3)) w) := by
  obtain ⟨hl1, hl2⟩ := div_le n d hd 4000000000000000000 (by omega) (by omega) (by omega)
  obtain ⟨hb1, hb2⟩ := div_bd n d hd
  have HR : Hid (rndF n d 3 = if n - n / d * d > d - (n - n / d * d) ∨ n - n / d * d = d - (n - n / d * d) ∧ n / d % 2 ≠ 0 then n / d + 1 else n / d) := Lib.hid (by unfold rndF; simp)
  have hx : rndF n d 1 = n / d := by simp [rndF]
  generalize n / d = q at *
  have HX := Lib.hid hx
  clear hx
  by_cases hA : 2 * (n - q * d) < d
  · have hA' : decide (2 * (n - q * d) < d) = true := by simpa using hA
    go_enter Tryd.func58, Tryd.ntmps58
    go_wp2_with fail
    refine (down_any n d _ (by omega) (by omega) hd (by omega)).mono ?_
    rintro e w' ⟨rfl, rfl⟩
    rw [HX.out]
    go_wp2_with fail
    go_ret
    exact Same.mk (by rw [HR.out, if_neg (by omega)]; rfl) rfl
  · have hA' : decide (2 * (n - q * d) < d) = false := by simpa using hA
    by_cases hB : 2 * (n - q * d) = d
    · have hB' : (2 * (n - q * d) == d) = true := by simpa using hB
      have HB := Lib.hid hB
      clear hB
      by_cases hC : q.tmod 2 = 0
      · have hC' : (q.tmod 2 == 0) = true := by simpa using hC
        have HC := Lib.hid hC
        clear hC
        go_enter Tryd.func58, Tryd.ntmps58
        go_wp2_with fail
        refine (down_any n d _ (by omega) (by omega) hd (by omega)).mono ?_
        rintro e w' ⟨rfl, rfl⟩
        rw [HX.out]
        go_wp2_with fail
        go_ret
        exact Same.mk (by rw [HR.out, if_neg (by have := HB.out; have := (tmod2 q).1 HC.out; omega)]; rfl) rfl
      · have hC' : (q.tmod 2 == 0) = false := by simpa using hC
        go_enter Tryd.func58, Tryd.ntmps58
        go_wp2_with fail
        refine (down_any n d _ (by omega) (by omega) hd (by omega)).mono ?_
        rintro e w' ⟨rfl, rfl⟩
        rw [HX.out]
        go_wp2_with fail
        go_ret
        exact Same.mk (by rw [HR.out, if_pos (by have := HB.out; have := mt (tmod2 q).2 hC; omega)]; rfl) rfl
    · have hB' : (2 * (n - q * d) == d) = false := by simpa using hB
      go_enter Tryd.func58, Tryd.ntmps58
      go_wp2_with fail
      refine (down_any n d _ (by omega) (by omega) hd (by omega)).mono ?_
      rintro e w' ⟨rfl, rfl⟩
      rw [HX.out]
      go_wp2_with fail
      go_ret
      exact Same.mk (by rw [HR.out, if_pos (by omega)]; rfl) rfl

end Go.Proofs.YtnjaedbekogeaaaDoor
