/-
  The walks of the reference of layer 1: abs, gcd, Valid, make0.
-/
import Derived.Test.YtlkefcbkpohpgaaDoorRatioC
import Derived.Test.YtlkefcbkpohpgaaDoorPrnHead
import Derived.Test.YtlkefcbkpohpgaaDoorPrnMath
import Derived.Test.YtlkefcbkpohpgaaDoorParSize
import Derived.BigQuiet
import Derived.Test.YtlkefcbkpohpgaaDoorQdA
namespace Go.Proofs.YtlkefcbkpohpgaaDoor
open Go.RowKit

set_option maxHeartbeats 400000 in
theorem r_abs (n : Int) (w : World) (h1 : -4000000000000000000 ≤ n) (h2 : n ≤ 4000000000000000000) : Calls Tryd.prog 56 #[.int .i64 n] w (Same (.int .i64 (n.natAbs : Int)) w) := by
  by_cases h : n < 0
  · go_enter Tryd.func56, Tryd.ntmps56
    go_wp2_with fail
    go_ret
    exact Same.mk (by show Value.int .i64 _ = Value.int .i64 _; congr 1; omega) rfl
  · have h' : decide (n < 0) = false := by simpa using h
    go_enter Tryd.func56, Tryd.ntmps56
    go_wp2_with fail
    go_ret
    exact Same.mk (by show Value.int .i64 _ = Value.int .i64 _; congr 1; omega) rfl

theorem gcd_step (a b : Int) (ha : 0 ≤ a) (hb : b ≠ 0) (hb0 : 0 ≤ b) : Int.gcd b (a % b) = Int.gcd a b ∧ 0 ≤ a % b ∧ a % b < b := by
  have h1 := Int.emod_nonneg a hb
  have h2 := Int.emod_lt_of_pos a (b := b) (by omega)
  refine ⟨?_, h1, h2⟩
  unfold Int.gcd
  obtain ⟨x, rfl⟩ := Int.eq_ofNat_of_zero_le ha
  obtain ⟨y, rfl⟩ := Int.eq_ofNat_of_zero_le hb0
  rw [show ((x : Int) % (y : Int)) = ((x % y : Nat) : Int) from rfl]
  simp only [Int.natAbs_natCast]
  rw [Nat.gcd_comm y, ← Nat.gcd_rec, Nat.gcd_comm]

set_option maxHeartbeats 400000 in
theorem r_gcd (a b : Int) (w : World) (h1 : 0 ≤ a) (h2 : a ≤ 4000000000000000000) (h3 : 0 ≤ b) (h4 : b ≤ 4000000000000000000) : Calls Tryd.prog 55 #[.int .i64 a, .int .i64 b] w (Same (.int .i64 (Int.gcd a b : Int)) w) := by
  go_enter Tryd.func55, Tryd.ntmps55
  go_wp2_with fail
  go_loop [0, 1, 5] (fun x y _ => ∃ u v : Int, 0 ≤ u ∧ u ≤ 4000000000000000000 ∧ 0 ≤ v ∧ v ≤ 4000000000000000000 ∧ x = .int .i64 u ∧ y = .int .i64 v ∧ Hid (Int.gcd u v = Int.gcd a b)) (fun _ y _ => (intOf y).toNat)
  case atStart => exact ⟨a, b, h1, h2, h3, h4, rfl, rfl, Lib.hid rfl⟩
  case round =>
    obtain ⟨u, v, g1, g2, g3, g4, rfl, rfl, HG⟩ := hrel
    by_cases hv : v = 0
    · subst hv
      go_wp2_with fail
      go_ret
      exact Same.mk (by rw [← HG.out]; show Value.int .i64 _ = Value.int .i64 _; congr 1; simp; omega) rfl
    · have hv' : (v != 0) = true := by simpa using hv
      obtain ⟨s1, s2, s3⟩ := gcd_step u v g1 hv g3
      have HS := Lib.hid s1
      clear s1
      go_wp2_with fail
      go_round
      case rel => exact ⟨v, u % v, by omega, by omega, by omega, by omega, rfl, rfl, Lib.hid (by rw [HS.out]; exact HG.out)⟩
      case measure => simp [intOf]; omega
end Go.Proofs.YtlkefcbkpohpgaaDoor
namespace Go.Proofs.YtlkefcbkpohpgaaDoor
open Go.RowKit

set_option maxHeartbeats 400000 in
theorem r_valid (n d : Int) (w : World) : Calls Tryd.prog 39 #[.agg #[.int .i64 n, .int .i64 d]] w (Ret (.bool (vldB n d)) w) := by
  by_cases h1 : d < 1
  · go_enter Tryd.func39, Tryd.ntmps39
    go_wp2_with fail
    go_ret
    exact Ret.mk (boolV (by unfold vldB fitB; simp; omega)) (by (repeat (first | exact Below.refl _ _ | assumption | refine Below.drew ?_ | refine below_drewN ?_ _ | refine Below.setCell ?_ (by first | omega | (simp <;> omega)) _ | refine Below.alloc ?_ (by first | omega | (simp <;> omega)) _)))
  · have h1' : decide (d < 1) = false := by simpa using h1
    by_cases h2 : 1000000 < d
    · go_enter Tryd.func39, Tryd.ntmps39
      go_wp2_with fail
      go_ret
      exact Ret.mk (boolV (by unfold vldB fitB; simp; omega)) (by (repeat (first | exact Below.refl _ _ | assumption | refine Below.drew ?_ | refine below_drewN ?_ _ | refine Below.setCell ?_ (by first | omega | (simp <;> omega)) _ | refine Below.alloc ?_ (by first | omega | (simp <;> omega)) _)))
    · have h2' : decide (1000000 < d) = false := by simpa using h2
      by_cases h3 : n < -1000000000
      · go_enter Tryd.func39, Tryd.ntmps39
        go_wp2_with fail
        go_ret
        exact Ret.mk (boolV (by unfold vldB fitB; simp; omega)) (by (repeat (first | exact Below.refl _ _ | assumption | refine Below.drew ?_ | refine below_drewN ?_ _ | refine Below.setCell ?_ (by first | omega | (simp <;> omega)) _ | refine Below.alloc ?_ (by first | omega | (simp <;> omega)) _)))
      · have h3' : decide (n < -1000000000) = false := by simpa using h3
        by_cases h4 : 1000000000 < n
        · go_enter Tryd.func39, Tryd.ntmps39
          go_wp2_with fail
          go_ret
          exact Ret.mk (boolV (by unfold vldB fitB; simp; omega)) (by (repeat (first | exact Below.refl _ _ | assumption | refine Below.drew ?_ | refine below_drewN ?_ _ | refine Below.setCell ?_ (by first | omega | (simp <;> omega)) _ | refine Below.alloc ?_ (by first | omega | (simp <;> omega)) _)))
        · have h4' : decide (1000000000 < n) = false := by simpa using h4
          go_enter Tryd.func39, Tryd.ntmps39
          go_wp2_with fail
          refine wp_region_up (by kernel_rfl) (by kernel_rfl) ?_
          repeat (go_big_quiet_step (first | (go_at_call 56; exact Same.up (r_abs n _ (by omega) (by omega))) | (go_at_call 55; exact Same.up (r_gcd _ _ _ (by omega) (by omega) (by omega) (by omega)))))
          refine wpQuiet_nil ?_
          rintro w1 ⟨g, rfl⟩
          go_wp2_with fail
          go_ret
          exact Ret.mk (boolV (by rw [show Int.gcd (n.natAbs : Int) d = Int.gcd n d from by simp [Int.gcd]]; unfold vldB fitB; generalize Int.gcd n d = g; simp; omega)) (((Below.refl _ _).alloc (by simp) _).trans ((up_below _ g).mono (by simp)))

theorem r_neg (n d : Int) (hd : d < 0) : redN n d = -(n.tdiv (Int.gcd n d : Int)) ∧ redD n d = -(d.tdiv (Int.gcd n d : Int)) := by
  unfold redN redD
  rw [common_eq n d (by omega), if_pos hd, Int.tdiv_neg, Int.tdiv_neg]
  exact ⟨rfl, rfl⟩
theorem r_pos (n d : Int) (hd : 0 < d) : redN n d = n.tdiv (Int.gcd n d : Int) ∧ redD n d = d.tdiv (Int.gcd n d : Int) := by
  unfold redN redD
  rw [common_eq n d (by omega), if_neg (by omega)]
  exact ⟨rfl, rfl⟩
theorem red_bd (n d : Int) (hd : d ≠ 0) : (redN n d).natAbs ≤ n.natAbs ∧ (redD n d).natAbs ≤ d.natAbs ∧ 1 ≤ redD n d := by
  have hp := gcd_pos n d hd
  have hdv : (Int.gcd n d : Int) ∣ d := Int.gcd_dvd_right ..
  have h1 : (redD n d).natAbs ≤ d.natAbs := tdiv_natAbs_le _ _
  refine ⟨tdiv_natAbs_le _ _, h1, ?_⟩
  obtain ⟨k, hk⟩ := hdv
  have hq : d.tdiv (Int.gcd n d : Int) = k := by
    have : d.tdiv (Int.gcd n d : Int) = ((Int.gcd n d : Int) * k).tdiv (Int.gcd n d : Int) := by rw [← hk]
    rw [this, Int.mul_tdiv_cancel_left _ (by omega)]
  by_cases hs : d < 0
  · rw [(r_neg n d hs).2, hq]
    have : k < 0 := by
      refine Int.lt_of_mul_lt_mul_left (a := (Int.gcd n d : Int)) ?_ (by omega)
      rw [← hk]; omega
    omega
  · rw [(r_pos n d (by omega)).2, hq]
    have : 0 < k := by
      refine Int.lt_of_mul_lt_mul_left (a := (Int.gcd n d : Int)) ?_ (by omega)
      rw [← hk]; omega
    omega

end Go.Proofs.YtlkefcbkpohpgaaDoor
namespace Go.Proofs.YtlkefcbkpohpgaaDoor
open Go.RowKit Go.Shelf
set_option maxRecDepth 100000
set_option linter.unusedVariables false
set_option linter.unusedSimpArgs false

def canR (a0 a1 a2 a3 a4 a5 a6 a7 kn kd : Int) (we pe : Xp) : Bool := nineB a0 && nineB a1 && nineB a2 && nineB a3 && nineB a4 && nineB a5 && nineB a6 && nineB a7 && keepB kn kd && validF we && validF pe
theorem rateP_can (a0 a1 a2 a3 a4 a5 a6 a7 kn kd : Int) (we pe : Xp) : rateP a0 a1 a2 a3 a4 a5 a6 a7 kn kd we pe =
    if canR a0 a1 a2 a3 a4 a5 a6 a7 kn kd we pe = true then (rateX a0.toNat a1.toNat a2.toNat a3.toNat a4.toNat a5.toNat a6.toNat a7.toNat (kn * (100 / kd)).toNat (txtE we) (txtE pe), 0) else ([], 1) := rfl
set_option maxHeartbeats 400000 in
theorem nine_ref (n : Int) (w : World) : Calls Tryd.prog 38 #[.int .i64 n] w (Ret (.bool (nineB n)) w) := by
  by_cases h1 : 0 ≤ n
  · by_cases h2 : n ≤ 999999999
    · have e : nineB n = true := by simp [nineB]; omega
      have d1 : decide (0 ≤ n) = true := by rw [decide_eq_true_iff]; exact h1
      have d2 : decide (n ≤ 999999999) = true := by rw [decide_eq_true_iff]; exact h2
      rw [e]; clear e
      go_enter Tryd.func38, Tryd.ntmps38
      go_wp2_with fail
      go_ret
      exact Ret.mk rfl (by (repeat (first | exact Below.refl _ _ | assumption | refine Below.drew ?_ | refine below_drewN ?_ _ | refine Below.setCell ?_ (by first | omega | (simp <;> omega)) _ | refine Below.alloc ?_ (by first | omega | (simp <;> omega)) _)))
    · have e : nineB n = false := by simp [nineB]; omega
      have d1 : decide (0 ≤ n) = true := by rw [decide_eq_true_iff]; exact h1
      have d2 : decide (n ≤ 999999999) = false := by rw [decide_eq_false_iff_not]; exact h2
      rw [e]; clear e
      go_enter Tryd.func38, Tryd.ntmps38
      go_wp2_with fail
      go_ret
      exact Ret.mk rfl (by (repeat (first | exact Below.refl _ _ | assumption | refine Below.drew ?_ | refine below_drewN ?_ _ | refine Below.setCell ?_ (by first | omega | (simp <;> omega)) _ | refine Below.alloc ?_ (by first | omega | (simp <;> omega)) _)))
  · have e : nineB n = false := by simp [nineB]; omega
    have d1 : decide (0 ≤ n) = false := by rw [decide_eq_false_iff_not]; exact h1
    rw [e]; clear e
    go_enter Tryd.func38, Tryd.ntmps38
    go_wp2_with fail
    go_ret
    exact Ret.mk rfl (by (repeat (first | exact Below.refl _ _ | assumption | refine Below.drew ?_ | refine below_drewN ?_ _ | refine Below.setCell ?_ (by first | omega | (simp <;> omega)) _ | refine Below.alloc ?_ (by first | omega | (simp <;> omega)) _)))
set_option maxHeartbeats 1600000 in
theorem can_n0 {Q R : Nat → Prop} (a0 a1 a2 a3 a4 a5 a6 a7 kn kd : Int) (we pe : Xp) (ad1 ad2 : Option Addr) (cap1 cap2 : Nat) (w : World) (hT : Tree Q w we (.agg #[.int .i64 we.o, .int .i64 we.n, .slice ad1 we.ks.length cap1])) (hU : Tree R w pe (.agg #[.int .i64 pe.o, .int .i64 pe.n, .slice ad2 pe.ks.length cap2])) (n0 : nineB a0 = false) : Calls Tryd.prog 17 #[.agg #[.int .i64 a0, .int .i64 a1, .int .i64 a2, .int .i64 a3, .int .i64 a4, .int .i64 a5, .int .i64 a6, .int .i64 a7, .int .i64 kn, .int .i64 kd, .int .i64 we.o, .int .i64 we.n, .slice ad1 we.ks.length cap1, .int .i64 pe.o, .int .i64 pe.n, .slice ad2 pe.ks.length cap2]] w (Ret (.bool false) w) := by
  obtain ⟨W, hW⟩ : ∃ W, W = w.alloc (.cells #[.int .i64 a0, .int .i64 a1, .int .i64 a2, .int .i64 a3, .int .i64 a4, .int .i64 a5, .int .i64 a6, .int .i64 a7, .int .i64 kn, .int .i64 kd, .int .i64 we.o, .int .i64 we.n, .slice ad1 we.ks.length cap1, .int .i64 pe.o, .int .i64 pe.n, .slice ad2 pe.ks.length cap2] 30) := ⟨_, rfl⟩
  have o1 : Own W w.heap.size [.int .i64 a0, .int .i64 a1, .int .i64 a2, .int .i64 a3, .int .i64 a4, .int .i64 a5, .int .i64 a6, .int .i64 a7, .int .i64 kn, .int .i64 kd, .int .i64 we.o, .int .i64 we.n, .slice ad1 we.ks.length cap1, .int .i64 pe.o, .int .i64 pe.n, .slice ad2 pe.ks.length cap2] := by rw [hW]; exact Own.new w #[.int .i64 a0, .int .i64 a1, .int .i64 a2, .int .i64 a3, .int .i64 a4, .int .i64 a5, .int .i64 a6, .int .i64 a7, .int .i64 kn, .int .i64 kd, .int .i64 we.o, .int .i64 we.n, .slice ad1 we.ks.length cap1, .int .i64 pe.o, .int .i64 pe.n, .slice ad2 pe.ks.length cap2] 30
  have hb : Below w.heap.size w W := by rw [hW]; exact balloc (Below.refl _ _) _
  obtain ⟨c0, c1, c2, c3, c4, c5, c6, c7, c8, c9, c10, c11, c12, c13, c14, c15, -⟩ := own_16 o1
  go_enter Tryd.func17, Tryd.ntmps17
  go_wp2_with fail
  rw [← hW]
  clear hW
  try go_wp2_with fail
  refine (nine_ref a0 _).mono ?_
  rintro e w1 ⟨rfl, hx⟩
  rw [n0]
  clear c0 c1 c2 c3 c4 c5 c6 c7 c8 c9 c10 c11 c12 c13 c14 c15
  replace o1 := o1.below hx
  replace hb := hb.trans (hx.mono hb.size)
  obtain ⟨c0, c1, c2, c3, c4, c5, c6, c7, c8, c9, c10, c11, c12, c13, c14, c15, -⟩ := own_16 o1
  clear hx
  go_wp2_with fail
  go_ret
  exact Ret.mk rfl hb
set_option maxHeartbeats 1600000 in
theorem can_n1 {Q R : Nat → Prop} (a0 a1 a2 a3 a4 a5 a6 a7 kn kd : Int) (we pe : Xp) (ad1 ad2 : Option Addr) (cap1 cap2 : Nat) (w : World) (hT : Tree Q w we (.agg #[.int .i64 we.o, .int .i64 we.n, .slice ad1 we.ks.length cap1])) (hU : Tree R w pe (.agg #[.int .i64 pe.o, .int .i64 pe.n, .slice ad2 pe.ks.length cap2])) (n0 : nineB a0 = true) (n1 : nineB a1 = false) : Calls Tryd.prog 17 #[.agg #[.int .i64 a0, .int .i64 a1, .int .i64 a2, .int .i64 a3, .int .i64 a4, .int .i64 a5, .int .i64 a6, .int .i64 a7, .int .i64 kn, .int .i64 kd, .int .i64 we.o, .int .i64 we.n, .slice ad1 we.ks.length cap1, .int .i64 pe.o, .int .i64 pe.n, .slice ad2 pe.ks.length cap2]] w (Ret (.bool false) w) := by
  obtain ⟨W, hW⟩ : ∃ W, W = w.alloc (.cells #[.int .i64 a0, .int .i64 a1, .int .i64 a2, .int .i64 a3, .int .i64 a4, .int .i64 a5, .int .i64 a6, .int .i64 a7, .int .i64 kn, .int .i64 kd, .int .i64 we.o, .int .i64 we.n, .slice ad1 we.ks.length cap1, .int .i64 pe.o, .int .i64 pe.n, .slice ad2 pe.ks.length cap2] 30) := ⟨_, rfl⟩
  have o1 : Own W w.heap.size [.int .i64 a0, .int .i64 a1, .int .i64 a2, .int .i64 a3, .int .i64 a4, .int .i64 a5, .int .i64 a6, .int .i64 a7, .int .i64 kn, .int .i64 kd, .int .i64 we.o, .int .i64 we.n, .slice ad1 we.ks.length cap1, .int .i64 pe.o, .int .i64 pe.n, .slice ad2 pe.ks.length cap2] := by rw [hW]; exact Own.new w #[.int .i64 a0, .int .i64 a1, .int .i64 a2, .int .i64 a3, .int .i64 a4, .int .i64 a5, .int .i64 a6, .int .i64 a7, .int .i64 kn, .int .i64 kd, .int .i64 we.o, .int .i64 we.n, .slice ad1 we.ks.length cap1, .int .i64 pe.o, .int .i64 pe.n, .slice ad2 pe.ks.length cap2] 30
  have hb : Below w.heap.size w W := by rw [hW]; exact balloc (Below.refl _ _) _
  obtain ⟨c0, c1, c2, c3, c4, c5, c6, c7, c8, c9, c10, c11, c12, c13, c14, c15, -⟩ := own_16 o1
  go_enter Tryd.func17, Tryd.ntmps17
  go_wp2_with fail
  rw [← hW]
  clear hW
  try go_wp2_with fail
  refine (nine_ref a0 _).mono ?_
  rintro e w1 ⟨rfl, hx⟩
  rw [n0]
  clear c0 c1 c2 c3 c4 c5 c6 c7 c8 c9 c10 c11 c12 c13 c14 c15
  replace o1 := o1.below hx
  replace hb := hb.trans (hx.mono hb.size)
  obtain ⟨c0, c1, c2, c3, c4, c5, c6, c7, c8, c9, c10, c11, c12, c13, c14, c15, -⟩ := own_16 o1
  clear hx
  go_wp2_with fail
  refine (nine_ref a1 _).mono ?_
  rintro e w2 ⟨rfl, hx⟩
  rw [n1]
  clear c0 c1 c2 c3 c4 c5 c6 c7 c8 c9 c10 c11 c12 c13 c14 c15
  replace o1 := o1.below hx
  replace hb := hb.trans (hx.mono hb.size)
  obtain ⟨c0, c1, c2, c3, c4, c5, c6, c7, c8, c9, c10, c11, c12, c13, c14, c15, -⟩ := own_16 o1
  clear hx
  go_wp2_with fail
  go_ret
  exact Ret.mk rfl hb
set_option maxHeartbeats 1600000 in
theorem can_n2 {Q R : Nat → Prop} (a0 a1 a2 a3 a4 a5 a6 a7 kn kd : Int) (we pe : Xp) (ad1 ad2 : Option Addr) (cap1 cap2 : Nat) (w : World) (hT : Tree Q w we (.agg #[.int .i64 we.o, .int .i64 we.n, .slice ad1 we.ks.length cap1])) (hU : Tree R w pe (.agg #[.int .i64 pe.o, .int .i64 pe.n, .slice ad2 pe.ks.length cap2])) (n0 : nineB a0 = true) (n1 : nineB a1 = true) (n2 : nineB a2 = false) : Calls Tryd.prog 17 #[.agg #[.int .i64 a0, .int .i64 a1, .int .i64 a2, .int .i64 a3, .int .i64 a4, .int .i64 a5, .int .i64 a6, .int .i64 a7, .int .i64 kn, .int .i64 kd, .int .i64 we.o, .int .i64 we.n, .slice ad1 we.ks.length cap1, .int .i64 pe.o, .int .i64 pe.n, .slice ad2 pe.ks.length cap2]] w (Ret (.bool false) w) := by
  obtain ⟨W, hW⟩ : ∃ W, W = w.alloc (.cells #[.int .i64 a0, .int .i64 a1, .int .i64 a2, .int .i64 a3, .int .i64 a4, .int .i64 a5, .int .i64 a6, .int .i64 a7, .int .i64 kn, .int .i64 kd, .int .i64 we.o, .int .i64 we.n, .slice ad1 we.ks.length cap1, .int .i64 pe.o, .int .i64 pe.n, .slice ad2 pe.ks.length cap2] 30) := ⟨_, rfl⟩
  have o1 : Own W w.heap.size [.int .i64 a0, .int .i64 a1, .int .i64 a2, .int .i64 a3, .int .i64 a4, .int .i64 a5, .int .i64 a6, .int .i64 a7, .int .i64 kn, .int .i64 kd, .int .i64 we.o, .int .i64 we.n, .slice ad1 we.ks.length cap1, .int .i64 pe.o, .int .i64 pe.n, .slice ad2 pe.ks.length cap2] := by rw [hW]; exact Own.new w #[.int .i64 a0, .int .i64 a1, .int .i64 a2, .int .i64 a3, .int .i64 a4, .int .i64 a5, .int .i64 a6, .int .i64 a7, .int .i64 kn, .int .i64 kd, .int .i64 we.o, .int .i64 we.n, .slice ad1 we.ks.length cap1, .int .i64 pe.o, .int .i64 pe.n, .slice ad2 pe.ks.length cap2] 30
  have hb : Below w.heap.size w W := by rw [hW]; exact balloc (Below.refl _ _) _
  obtain ⟨c0, c1, c2, c3, c4, c5, c6, c7, c8, c9, c10, c11, c12, c13, c14, c15, -⟩ := own_16 o1
  go_enter Tryd.func17, Tryd.ntmps17
  go_wp2_with fail
  rw [← hW]
  clear hW
  try go_wp2_with fail
  refine (nine_ref a0 _).mono ?_
  rintro e w1 ⟨rfl, hx⟩
  rw [n0]
  clear c0 c1 c2 c3 c4 c5 c6 c7 c8 c9 c10 c11 c12 c13 c14 c15
  replace o1 := o1.below hx
  replace hb := hb.trans (hx.mono hb.size)
  obtain ⟨c0, c1, c2, c3, c4, c5, c6, c7, c8, c9, c10, c11, c12, c13, c14, c15, -⟩ := own_16 o1
  clear hx
  go_wp2_with fail
  refine (nine_ref a1 _).mono ?_
  rintro e w2 ⟨rfl, hx⟩
  rw [n1]
  clear c0 c1 c2 c3 c4 c5 c6 c7 c8 c9 c10 c11 c12 c13 c14 c15
  replace o1 := o1.below hx
  replace hb := hb.trans (hx.mono hb.size)
  obtain ⟨c0, c1, c2, c3, c4, c5, c6, c7, c8, c9, c10, c11, c12, c13, c14, c15, -⟩ := own_16 o1
  clear hx
  go_wp2_with fail
  refine (nine_ref a2 _).mono ?_
  rintro e w3 ⟨rfl, hx⟩
  rw [n2]
  clear c0 c1 c2 c3 c4 c5 c6 c7 c8 c9 c10 c11 c12 c13 c14 c15
  replace o1 := o1.below hx
  replace hb := hb.trans (hx.mono hb.size)
  obtain ⟨c0, c1, c2, c3, c4, c5, c6, c7, c8, c9, c10, c11, c12, c13, c14, c15, -⟩ := own_16 o1
  clear hx
  go_wp2_with fail
  go_ret
  exact Ret.mk rfl hb
set_option maxHeartbeats 1600000 in
theorem can_n3 {Q R : Nat → Prop} (a0 a1 a2 a3 a4 a5 a6 a7 kn kd : Int) (we pe : Xp) (ad1 ad2 : Option Addr) (cap1 cap2 : Nat) (w : World) (hT : Tree Q w we (.agg #[.int .i64 we.o, .int .i64 we.n, .slice ad1 we.ks.length cap1])) (hU : Tree R w pe (.agg #[.int .i64 pe.o, .int .i64 pe.n, .slice ad2 pe.ks.length cap2])) (n0 : nineB a0 = true) (n1 : nineB a1 = true) (n2 : nineB a2 = true) (n3 : nineB a3 = false) : Calls Tryd.prog 17 #[.agg #[.int .i64 a0, .int .i64 a1, .int .i64 a2, .int .i64 a3, .int .i64 a4, .int .i64 a5, .int .i64 a6, .int .i64 a7, .int .i64 kn, .int .i64 kd, .int .i64 we.o, .int .i64 we.n, .slice ad1 we.ks.length cap1, .int .i64 pe.o, .int .i64 pe.n, .slice ad2 pe.ks.length cap2]] w (Ret (.bool false) w) := by
  obtain ⟨W, hW⟩ : ∃ W, W = w.alloc (.cells #[.int .i64 a0, .int .i64 a1, .int .i64 a2, .int .i64 a3, .int .i64 a4, .int .i64 a5, .int .i64 a6, .int .i64 a7, .int .i64 kn, .int .i64 kd, .int .i64 we.o, .int .i64 we.n, .slice ad1 we.ks.length cap1, .int .i64 pe.o, .int .i64 pe.n, .slice ad2 pe.ks.length cap2] 30) := ⟨_, rfl⟩
  have o1 : Own W w.heap.size [.int .i64 a0, .int .i64 a1, .int .i64 a2, .int .i64 a3, .int .i64 a4, .int .i64 a5, .int .i64 a6, .int .i64 a7, .int .i64 kn, .int .i64 kd, .int .i64 we.o, .int .i64 we.n, .slice ad1 we.ks.length cap1, .int .i64 pe.o, .int .i64 pe.n, .slice ad2 pe.ks.length cap2] := by rw [hW]; exact Own.new w #[.int .i64 a0, .int .i64 a1, .int .i64 a2, .int .i64 a3, .int .i64 a4, .int .i64 a5, .int .i64 a6, .int .i64 a7, .int .i64 kn, .int .i64 kd, .int .i64 we.o, .int .i64 we.n, .slice ad1 we.ks.length cap1, .int .i64 pe.o, .int .i64 pe.n, .slice ad2 pe.ks.length cap2] 30
  have hb : Below w.heap.size w W := by rw [hW]; exact balloc (Below.refl _ _) _
  obtain ⟨c0, c1, c2, c3, c4, c5, c6, c7, c8, c9, c10, c11, c12, c13, c14, c15, -⟩ := own_16 o1
  go_enter Tryd.func17, Tryd.ntmps17
  go_wp2_with fail
  rw [← hW]
  clear hW
  try go_wp2_with fail
  refine (nine_ref a0 _).mono ?_
  rintro e w1 ⟨rfl, hx⟩
  rw [n0]
  clear c0 c1 c2 c3 c4 c5 c6 c7 c8 c9 c10 c11 c12 c13 c14 c15
  replace o1 := o1.below hx
  replace hb := hb.trans (hx.mono hb.size)
  obtain ⟨c0, c1, c2, c3, c4, c5, c6, c7, c8, c9, c10, c11, c12, c13, c14, c15, -⟩ := own_16 o1
  clear hx
  go_wp2_with fail
  refine (nine_ref a1 _).mono ?_
  rintro e w2 ⟨rfl, hx⟩
  rw [n1]
  clear c0 c1 c2 c3 c4 c5 c6 c7 c8 c9 c10 c11 c12 c13 c14 c15
  replace o1 := o1.below hx
  replace hb := hb.trans (hx.mono hb.size)
  obtain ⟨c0, c1, c2, c3, c4, c5, c6, c7, c8, c9, c10, c11, c12, c13, c14, c15, -⟩ := own_16 o1
  clear hx
  go_wp2_with fail
  refine (nine_ref a2 _).mono ?_
  rintro e w3 ⟨rfl, hx⟩
  rw [n2]
  clear c0 c1 c2 c3 c4 c5 c6 c7 c8 c9 c10 c11 c12 c13 c14 c15
  replace o1 := o1.below hx
  replace hb := hb.trans (hx.mono hb.size)
  obtain ⟨c0, c1, c2, c3, c4, c5, c6, c7, c8, c9, c10, c11, c12, c13, c14, c15, -⟩ := own_16 o1
  clear hx
  go_wp2_with fail
  refine (nine_ref a3 _).mono ?_
  rintro e w4 ⟨rfl, hx⟩
  rw [n3]
  clear c0 c1 c2 c3 c4 c5 c6 c7 c8 c9 c10 c11 c12 c13 c14 c15
  replace o1 := o1.below hx
  replace hb := hb.trans (hx.mono hb.size)
  obtain ⟨c0, c1, c2, c3, c4, c5, c6, c7, c8, c9, c10, c11, c12, c13, c14, c15, -⟩ := own_16 o1
  clear hx
  go_wp2_with fail
  go_ret
  exact Ret.mk rfl hb
set_option maxHeartbeats 1600000 in
theorem can_n4 {Q R : Nat → Prop} (a0 a1 a2 a3 a4 a5 a6 a7 kn kd : Int) (we pe : Xp) (ad1 ad2 : Option Addr) (cap1 cap2 : Nat) (w : World) (hT : Tree Q w we (.agg #[.int .i64 we.o, .int .i64 we.n, .slice ad1 we.ks.length cap1])) (hU : Tree R w pe (.agg #[.int .i64 pe.o, .int .i64 pe.n, .slice ad2 pe.ks.length cap2])) (n0 : nineB a0 = true) (n1 : nineB a1 = true) (n2 : nineB a2 = true) (n3 : nineB a3 = true) (n4 : nineB a4 = false) : Calls Tryd.prog 17 #[.agg #[.int .i64 a0, .int .i64 a1, .int .i64 a2, .int .i64 a3, .int .i64 a4, .int .i64 a5, .int .i64 a6, .int .i64 a7, .int .i64 kn, .int .i64 kd, .int .i64 we.o, .int .i64 we.n, .slice ad1 we.ks.length cap1, .int .i64 pe.o, .int .i64 pe.n, .slice ad2 pe.ks.length cap2]] w (Ret (.bool false) w) := by
  obtain ⟨W, hW⟩ : ∃ W, W = w.alloc (.cells #[.int .i64 a0, .int .i64 a1, .int .i64 a2, .int .i64 a3, .int .i64 a4, .int .i64 a5, .int .i64 a6, .int .i64 a7, .int .i64 kn, .int .i64 kd, .int .i64 we.o, .int .i64 we.n, .slice ad1 we.ks.length cap1, .int .i64 pe.o, .int .i64 pe.n, .slice ad2 pe.ks.length cap2] 30) := ⟨_, rfl⟩
  have o1 : Own W w.heap.size [.int .i64 a0, .int .i64 a1, .int .i64 a2, .int .i64 a3, .int .i64 a4, .int .i64 a5, .int .i64 a6, .int .i64 a7, .int .i64 kn, .int .i64 kd, .int .i64 we.o, .int .i64 we.n, .slice ad1 we.ks.length cap1, .int .i64 pe.o, .int .i64 pe.n, .slice ad2 pe.ks.length cap2] := by rw [hW]; exact Own.new w #[.int .i64 a0, .int .i64 a1, .int .i64 a2, .int .i64 a3, .int .i64 a4, .int .i64 a5, .int .i64 a6, .int .i64 a7, .int .i64 kn, .int .i64 kd, .int .i64 we.o, .int .i64 we.n, .slice ad1 we.ks.length cap1, .int .i64 pe.o, .int .i64 pe.n, .slice ad2 pe.ks.length cap2] 30
  have hb : Below w.heap.size w W := by rw [hW]; exact balloc (Below.refl _ _) _
  obtain ⟨c0, c1, c2, c3, c4, c5, c6, c7, c8, c9, c10, c11, c12, c13, c14, c15, -⟩ := own_16 o1
  go_enter Tryd.func17, Tryd.ntmps17
  go_wp2_with fail
  rw [← hW]
  clear hW
  try go_wp2_with fail
  refine (nine_ref a0 _).mono ?_
  rintro e w1 ⟨rfl, hx⟩
  rw [n0]
  clear c0 c1 c2 c3 c4 c5 c6 c7 c8 c9 c10 c11 c12 c13 c14 c15
  replace o1 := o1.below hx
  replace hb := hb.trans (hx.mono hb.size)
  obtain ⟨c0, c1, c2, c3, c4, c5, c6, c7, c8, c9, c10, c11, c12, c13, c14, c15, -⟩ := own_16 o1
  clear hx
  go_wp2_with fail
  refine (nine_ref a1 _).mono ?_
  rintro e w2 ⟨rfl, hx⟩
  rw [n1]
  clear c0 c1 c2 c3 c4 c5 c6 c7 c8 c9 c10 c11 c12 c13 c14 c15
  replace o1 := o1.below hx
  replace hb := hb.trans (hx.mono hb.size)
  obtain ⟨c0, c1, c2, c3, c4, c5, c6, c7, c8, c9, c10, c11, c12, c13, c14, c15, -⟩ := own_16 o1
  clear hx
  go_wp2_with fail
  refine (nine_ref a2 _).mono ?_
  rintro e w3 ⟨rfl, hx⟩
  rw [n2]
  clear c0 c1 c2 c3 c4 c5 c6 c7 c8 c9 c10 c11 c12 c13 c14 c15
  replace o1 := o1.below hx
  replace hb := hb.trans (hx.mono hb.size)
  obtain ⟨c0, c1, c2, c3, c4, c5, c6, c7, c8, c9, c10, c11, c12, c13, c14, c15, -⟩ := own_16 o1
  clear hx
  go_wp2_with fail
  refine (nine_ref a3 _).mono ?_
  rintro e w4 ⟨rfl, hx⟩
  rw [n3]
  clear c0 c1 c2 c3 c4 c5 c6 c7 c8 c9 c10 c11 c12 c13 c14 c15
  replace o1 := o1.below hx
  replace hb := hb.trans (hx.mono hb.size)
  obtain ⟨c0, c1, c2, c3, c4, c5, c6, c7, c8, c9, c10, c11, c12, c13, c14, c15, -⟩ := own_16 o1
  clear hx
  go_wp2_with fail
  refine (nine_ref a4 _).mono ?_
  rintro e w5 ⟨rfl, hx⟩
  rw [n4]
  clear c0 c1 c2 c3 c4 c5 c6 c7 c8 c9 c10 c11 c12 c13 c14 c15
  replace o1 := o1.below hx
  replace hb := hb.trans (hx.mono hb.size)
  obtain ⟨c0, c1, c2, c3, c4, c5, c6, c7, c8, c9, c10, c11, c12, c13, c14, c15, -⟩ := own_16 o1
  clear hx
  go_wp2_with fail
  go_ret
  exact Ret.mk rfl hb
set_option maxHeartbeats 1600000 in
theorem can_n5 {Q R : Nat → Prop} (a0 a1 a2 a3 a4 a5 a6 a7 kn kd : Int) (we pe : Xp) (ad1 ad2 : Option Addr) (cap1 cap2 : Nat) (w : World) (hT : Tree Q w we (.agg #[.int .i64 we.o, .int .i64 we.n, .slice ad1 we.ks.length cap1])) (hU : Tree R w pe (.agg #[.int .i64 pe.o, .int .i64 pe.n, .slice ad2 pe.ks.length cap2])) (n0 : nineB a0 = true) (n1 : nineB a1 = true) (n2 : nineB a2 = true) (n3 : nineB a3 = true) (n4 : nineB a4 = true) (n5 : nineB a5 = false) : Calls Tryd.prog 17 #[.agg #[.int .i64 a0, .int .i64 a1, .int .i64 a2, .int .i64 a3, .int .i64 a4, .int .i64 a5, .int .i64 a6, .int .i64 a7, .int .i64 kn, .int .i64 kd, .int .i64 we.o, .int .i64 we.n, .slice ad1 we.ks.length cap1, .int .i64 pe.o, .int .i64 pe.n, .slice ad2 pe.ks.length cap2]] w (Ret (.bool false) w) := by
  obtain ⟨W, hW⟩ : ∃ W, W = w.alloc (.cells #[.int .i64 a0, .int .i64 a1, .int .i64 a2, .int .i64 a3, .int .i64 a4, .int .i64 a5, .int .i64 a6, .int .i64 a7, .int .i64 kn, .int .i64 kd, .int .i64 we.o, .int .i64 we.n, .slice ad1 we.ks.length cap1, .int .i64 pe.o, .int .i64 pe.n, .slice ad2 pe.ks.length cap2] 30) := ⟨_, rfl⟩
  have o1 : Own W w.heap.size [.int .i64 a0, .int .i64 a1, .int .i64 a2, .int .i64 a3, .int .i64 a4, .int .i64 a5, .int .i64 a6, .int .i64 a7, .int .i64 kn, .int .i64 kd, .int .i64 we.o, .int .i64 we.n, .slice ad1 we.ks.length cap1, .int .i64 pe.o, .int .i64 pe.n, .slice ad2 pe.ks.length cap2] := by rw [hW]; exact Own.new w #[.int .i64 a0, .int .i64 a1, .int .i64 a2, .int .i64 a3, .int .i64 a4, .int .i64 a5, .int .i64 a6, .int .i64 a7, .int .i64 kn, .int .i64 kd, .int .i64 we.o, .int .i64 we.n, .slice ad1 we.ks.length cap1, .int .i64 pe.o, .int .i64 pe.n, .slice ad2 pe.ks.length cap2] 30
  have hb : Below w.heap.size w W := by rw [hW]; exact balloc (Below.refl _ _) _
  obtain ⟨c0, c1, c2, c3, c4, c5, c6, c7, c8, c9, c10, c11, c12, c13, c14, c15, -⟩ := own_16 o1
  go_enter Tryd.func17, Tryd.ntmps17
  go_wp2_with fail
  rw [← hW]
  clear hW
  try go_wp2_with fail
  refine (nine_ref a0 _).mono ?_
  rintro e w1 ⟨rfl, hx⟩
  rw [n0]
  clear c0 c1 c2 c3 c4 c5 c6 c7 c8 c9 c10 c11 c12 c13 c14 c15
  replace o1 := o1.below hx
  replace hb := hb.trans (hx.mono hb.size)
  obtain ⟨c0, c1, c2, c3, c4, c5, c6, c7, c8, c9, c10, c11, c12, c13, c14, c15, -⟩ := own_16 o1
  clear hx
  go_wp2_with fail
  refine (nine_ref a1 _).mono ?_
  rintro e w2 ⟨rfl, hx⟩
  rw [n1]
  clear c0 c1 c2 c3 c4 c5 c6 c7 c8 c9 c10 c11 c12 c13 c14 c15
  replace o1 := o1.below hx
  replace hb := hb.trans (hx.mono hb.size)
  obtain ⟨c0, c1, c2, c3, c4, c5, c6, c7, c8, c9, c10, c11, c12, c13, c14, c15, -⟩ := own_16 o1
  clear hx
  go_wp2_with fail
  refine (nine_ref a2 _).mono ?_
  rintro e w3 ⟨rfl, hx⟩
  rw [n2]
  clear c0 c1 c2 c3 c4 c5 c6 c7 c8 c9 c10 c11 c12 c13 c14 c15
  replace o1 := o1.below hx
  replace hb := hb.trans (hx.mono hb.size)
  obtain ⟨c0, c1, c2, c3, c4, c5, c6, c7, c8, c9, c10, c11, c12, c13, c14, c15, -⟩ := own_16 o1
  clear hx
  go_wp2_with fail
  refine (nine_ref a3 _).mono ?_
  rintro e w4 ⟨rfl, hx⟩
  rw [n3]
  clear c0 c1 c2 c3 c4 c5 c6 c7 c8 c9 c10 c11 c12 c13 c14 c15
  replace o1 := o1.below hx
  replace hb := hb.trans (hx.mono hb.size)
  obtain ⟨c0, c1, c2, c3, c4, c5, c6, c7, c8, c9, c10, c11, c12, c13, c14, c15, -⟩ := own_16 o1
  clear hx
  go_wp2_with fail
  refine (nine_ref a4 _).mono ?_
  rintro e w5 ⟨rfl, hx⟩
  rw [n4]
  clear c0 c1 c2 c3 c4 c5 c6 c7 c8 c9 c10 c11 c12 c13 c14 c15
  replace o1 := o1.below hx
  replace hb := hb.trans (hx.mono hb.size)
  obtain ⟨c0, c1, c2, c3, c4, c5, c6, c7, c8, c9, c10, c11, c12, c13, c14, c15, -⟩ := own_16 o1
  clear hx
  go_wp2_with fail
  refine (nine_ref a5 _).mono ?_
  rintro e w6 ⟨rfl, hx⟩
  rw [n5]
  clear c0 c1 c2 c3 c4 c5 c6 c7 c8 c9 c10 c11 c12 c13 c14 c15
  replace o1 := o1.below hx
  replace hb := hb.trans (hx.mono hb.size)
  obtain ⟨c0, c1, c2, c3, c4, c5, c6, c7, c8, c9, c10, c11, c12, c13, c14, c15, -⟩ := own_16 o1
  clear hx
  go_wp2_with fail
  go_ret
  exact Ret.mk rfl hb
set_option maxHeartbeats 1600000 in
theorem can_n6 {Q R : Nat → Prop} (a0 a1 a2 a3 a4 a5 a6 a7 kn kd : Int) (we pe : Xp) (ad1 ad2 : Option Addr) (cap1 cap2 : Nat) (w : World) (hT : Tree Q w we (.agg #[.int .i64 we.o, .int .i64 we.n, .slice ad1 we.ks.length cap1])) (hU : Tree R w pe (.agg #[.int .i64 pe.o, .int .i64 pe.n, .slice ad2 pe.ks.length cap2])) (n0 : nineB a0 = true) (n1 : nineB a1 = true) (n2 : nineB a2 = true) (n3 : nineB a3 = true) (n4 : nineB a4 = true) (n5 : nineB a5 = true) (n6 : nineB a6 = false) : Calls Tryd.prog 17 #[.agg #[.int .i64 a0, .int .i64 a1, .int .i64 a2, .int .i64 a3, .int .i64 a4, .int .i64 a5, .int .i64 a6, .int .i64 a7, .int .i64 kn, .int .i64 kd, .int .i64 we.o, .int .i64 we.n, .slice ad1 we.ks.length cap1, .int .i64 pe.o, .int .i64 pe.n, .slice ad2 pe.ks.length cap2]] w (Ret (.bool false) w) := by
  obtain ⟨W, hW⟩ : ∃ W, W = w.alloc (.cells #[.int .i64 a0, .int .i64 a1, .int .i64 a2, .int .i64 a3, .int .i64 a4, .int .i64 a5, .int .i64 a6, .int .i64 a7, .int .i64 kn, .int .i64 kd, .int .i64 we.o, .int .i64 we.n, .slice ad1 we.ks.length cap1, .int .i64 pe.o, .int .i64 pe.n, .slice ad2 pe.ks.length cap2] 30) := ⟨_, rfl⟩
  have o1 : Own W w.heap.size [.int .i64 a0, .int .i64 a1, .int .i64 a2, .int .i64 a3, .int .i64 a4, .int .i64 a5, .int .i64 a6, .int .i64 a7, .int .i64 kn, .int .i64 kd, .int .i64 we.o, .int .i64 we.n, .slice ad1 we.ks.length cap1, .int .i64 pe.o, .int .i64 pe.n, .slice ad2 pe.ks.length cap2] := by rw [hW]; exact Own.new w #[.int .i64 a0, .int .i64 a1, .int .i64 a2, .int .i64 a3, .int .i64 a4, .int .i64 a5, .int .i64 a6, .int .i64 a7, .int .i64 kn, .int .i64 kd, .int .i64 we.o, .int .i64 we.n, .slice ad1 we.ks.length cap1, .int .i64 pe.o, .int .i64 pe.n, .slice ad2 pe.ks.length cap2] 30
  have hb : Below w.heap.size w W := by rw [hW]; exact balloc (Below.refl _ _) _
  obtain ⟨c0, c1, c2, c3, c4, c5, c6, c7, c8, c9, c10, c11, c12, c13, c14, c15, -⟩ := own_16 o1
  go_enter Tryd.func17, Tryd.ntmps17
  go_wp2_with fail
  rw [← hW]
  clear hW
  try go_wp2_with fail
  refine (nine_ref a0 _).mono ?_
  rintro e w1 ⟨rfl, hx⟩
  rw [n0]
  clear c0 c1 c2 c3 c4 c5 c6 c7 c8 c9 c10 c11 c12 c13 c14 c15
  replace o1 := o1.below hx
  replace hb := hb.trans (hx.mono hb.size)
  obtain ⟨c0, c1, c2, c3, c4, c5, c6, c7, c8, c9, c10, c11, c12, c13, c14, c15, -⟩ := own_16 o1
  clear hx
  go_wp2_with fail
  refine (nine_ref a1 _).mono ?_
  rintro e w2 ⟨rfl, hx⟩
  rw [n1]
  clear c0 c1 c2 c3 c4 c5 c6 c7 c8 c9 c10 c11 c12 c13 c14 c15
  replace o1 := o1.below hx
  replace hb := hb.trans (hx.mono hb.size)
  obtain ⟨c0, c1, c2, c3, c4, c5, c6, c7, c8, c9, c10, c11, c12, c13, c14, c15, -⟩ := own_16 o1
  clear hx
  go_wp2_with fail
  refine (nine_ref a2 _).mono ?_
  rintro e w3 ⟨rfl, hx⟩
  rw [n2]
  clear c0 c1 c2 c3 c4 c5 c6 c7 c8 c9 c10 c11 c12 c13 c14 c15
  replace o1 := o1.below hx
  replace hb := hb.trans (hx.mono hb.size)
  obtain ⟨c0, c1, c2, c3, c4, c5, c6, c7, c8, c9, c10, c11, c12, c13, c14, c15, -⟩ := own_16 o1
  clear hx
  go_wp2_with fail
  refine (nine_ref a3 _).mono ?_
  rintro e w4 ⟨rfl, hx⟩
  rw [n3]
  clear c0 c1 c2 c3 c4 c5 c6 c7 c8 c9 c10 c11 c12 c13 c14 c15
  replace o1 := o1.below hx
  replace hb := hb.trans (hx.mono hb.size)
  obtain ⟨c0, c1, c2, c3, c4, c5, c6, c7, c8, c9, c10, c11, c12, c13, c14, c15, -⟩ := own_16 o1
  clear hx
  go_wp2_with fail
  refine (nine_ref a4 _).mono ?_
  rintro e w5 ⟨rfl, hx⟩
  rw [n4]
  clear c0 c1 c2 c3 c4 c5 c6 c7 c8 c9 c10 c11 c12 c13 c14 c15
  replace o1 := o1.below hx
  replace hb := hb.trans (hx.mono hb.size)
  obtain ⟨c0, c1, c2, c3, c4, c5, c6, c7, c8, c9, c10, c11, c12, c13, c14, c15, -⟩ := own_16 o1
  clear hx
  go_wp2_with fail
  refine (nine_ref a5 _).mono ?_
  rintro e w6 ⟨rfl, hx⟩
  rw [n5]
  clear c0 c1 c2 c3 c4 c5 c6 c7 c8 c9 c10 c11 c12 c13 c14 c15
  replace o1 := o1.below hx
  replace hb := hb.trans (hx.mono hb.size)
  obtain ⟨c0, c1, c2, c3, c4, c5, c6, c7, c8, c9, c10, c11, c12, c13, c14, c15, -⟩ := own_16 o1
  clear hx
  go_wp2_with fail
  refine (nine_ref a6 _).mono ?_
  rintro e w7 ⟨rfl, hx⟩
  rw [n6]
  clear c0 c1 c2 c3 c4 c5 c6 c7 c8 c9 c10 c11 c12 c13 c14 c15
  replace o1 := o1.below hx
  replace hb := hb.trans (hx.mono hb.size)
  obtain ⟨c0, c1, c2, c3, c4, c5, c6, c7, c8, c9, c10, c11, c12, c13, c14, c15, -⟩ := own_16 o1
  clear hx
  go_wp2_with fail
  go_ret
  exact Ret.mk rfl hb
set_option maxHeartbeats 1600000 in
theorem can_n7 {Q R : Nat → Prop} (a0 a1 a2 a3 a4 a5 a6 a7 kn kd : Int) (we pe : Xp) (ad1 ad2 : Option Addr) (cap1 cap2 : Nat) (w : World) (hT : Tree Q w we (.agg #[.int .i64 we.o, .int .i64 we.n, .slice ad1 we.ks.length cap1])) (hU : Tree R w pe (.agg #[.int .i64 pe.o, .int .i64 pe.n, .slice ad2 pe.ks.length cap2])) (n0 : nineB a0 = true) (n1 : nineB a1 = true) (n2 : nineB a2 = true) (n3 : nineB a3 = true) (n4 : nineB a4 = true) (n5 : nineB a5 = true) (n6 : nineB a6 = true) (n7 : nineB a7 = false) : Calls Tryd.prog 17 #[.agg #[.int .i64 a0, .int .i64 a1, .int .i64 a2, .int .i64 a3, .int .i64 a4, .int .i64 a5, .int .i64 a6, .int .i64 a7, .int .i64 kn, .int .i64 kd, .int .i64 we.o, .int .i64 we.n, .slice ad1 we.ks.length cap1, .int .i64 pe.o, .int .i64 pe.n, .slice ad2 pe.ks.length cap2]] w (Ret (.bool false) w) := by
  obtain ⟨W, hW⟩ : ∃ W, W = w.alloc (.cells #[.int .i64 a0, .int .i64 a1, .int .i64 a2, .int .i64 a3, .int .i64 a4, .int .i64 a5, .int .i64 a6, .int .i64 a7, .int .i64 kn, .int .i64 kd, .int .i64 we.o, .int .i64 we.n, .slice ad1 we.ks.length cap1, .int .i64 pe.o, .int .i64 pe.n, .slice ad2 pe.ks.length cap2] 30) := ⟨_, rfl⟩
  have o1 : Own W w.heap.size [.int .i64 a0, .int .i64 a1, .int .i64 a2, .int .i64 a3, .int .i64 a4, .int .i64 a5, .int .i64 a6, .int .i64 a7, .int .i64 kn, .int .i64 kd, .int .i64 we.o, .int .i64 we.n, .slice ad1 we.ks.length cap1, .int .i64 pe.o, .int .i64 pe.n, .slice ad2 pe.ks.length cap2] := by rw [hW]; exact Own.new w #[.int .i64 a0, .int .i64 a1, .int .i64 a2, .int .i64 a3, .int .i64 a4, .int .i64 a5, .int .i64 a6, .int .i64 a7, .int .i64 kn, .int .i64 kd, .int .i64 we.o, .int .i64 we.n, .slice ad1 we.ks.length cap1, .int .i64 pe.o, .int .i64 pe.n, .slice ad2 pe.ks.length cap2] 30
  have hb : Below w.heap.size w W := by rw [hW]; exact balloc (Below.refl _ _) _
  obtain ⟨c0, c1, c2, c3, c4, c5, c6, c7, c8, c9, c10, c11, c12, c13, c14, c15, -⟩ := own_16 o1
  go_enter Tryd.func17, Tryd.ntmps17
  go_wp2_with fail
  rw [← hW]
  clear hW
  try go_wp2_with fail
  refine (nine_ref a0 _).mono ?_
  rintro e w1 ⟨rfl, hx⟩
  rw [n0]
  clear c0 c1 c2 c3 c4 c5 c6 c7 c8 c9 c10 c11 c12 c13 c14 c15
  replace o1 := o1.below hx
  replace hb := hb.trans (hx.mono hb.size)
  obtain ⟨c0, c1, c2, c3, c4, c5, c6, c7, c8, c9, c10, c11, c12, c13, c14, c15, -⟩ := own_16 o1
  clear hx
  go_wp2_with fail
  refine (nine_ref a1 _).mono ?_
  rintro e w2 ⟨rfl, hx⟩
  rw [n1]
  clear c0 c1 c2 c3 c4 c5 c6 c7 c8 c9 c10 c11 c12 c13 c14 c15
  replace o1 := o1.below hx
  replace hb := hb.trans (hx.mono hb.size)
  obtain ⟨c0, c1, c2, c3, c4, c5, c6, c7, c8, c9, c10, c11, c12, c13, c14, c15, -⟩ := own_16 o1
  clear hx
  go_wp2_with fail
  refine (nine_ref a2 _).mono ?_
  rintro e w3 ⟨rfl, hx⟩
  rw [n2]
  clear c0 c1 c2 c3 c4 c5 c6 c7 c8 c9 c10 c11 c12 c13 c14 c15
  replace o1 := o1.below hx
  replace hb := hb.trans (hx.mono hb.size)
  obtain ⟨c0, c1, c2, c3, c4, c5, c6, c7, c8, c9, c10, c11, c12, c13, c14, c15, -⟩ := own_16 o1
  clear hx
  go_wp2_with fail
  refine (nine_ref a3 _).mono ?_
  rintro e w4 ⟨rfl, hx⟩
  rw [n3]
  clear c0 c1 c2 c3 c4 c5 c6 c7 c8 c9 c10 c11 c12 c13 c14 c15
  replace o1 := o1.below hx
  replace hb := hb.trans (hx.mono hb.size)
  obtain ⟨c0, c1, c2, c3, c4, c5, c6, c7, c8, c9, c10, c11, c12, c13, c14, c15, -⟩ := own_16 o1
  clear hx
  go_wp2_with fail
  refine (nine_ref a4 _).mono ?_
  rintro e w5 ⟨rfl, hx⟩
  rw [n4]
  clear c0 c1 c2 c3 c4 c5 c6 c7 c8 c9 c10 c11 c12 c13 c14 c15
  replace o1 := o1.below hx
  replace hb := hb.trans (hx.mono hb.size)
  obtain ⟨c0, c1, c2, c3, c4, c5, c6, c7, c8, c9, c10, c11, c12, c13, c14, c15, -⟩ := own_16 o1
  clear hx
  go_wp2_with fail
  refine (nine_ref a5 _).mono ?_
  rintro e w6 ⟨rfl, hx⟩
  rw [n5]
  clear c0 c1 c2 c3 c4 c5 c6 c7 c8 c9 c10 c11 c12 c13 c14 c15
  replace o1 := o1.below hx
  replace hb := hb.trans (hx.mono hb.size)
  obtain ⟨c0, c1, c2, c3, c4, c5, c6, c7, c8, c9, c10, c11, c12, c13, c14, c15, -⟩ := own_16 o1
  clear hx
  go_wp2_with fail
  refine (nine_ref a6 _).mono ?_
  rintro e w7 ⟨rfl, hx⟩
  rw [n6]
  clear c0 c1 c2 c3 c4 c5 c6 c7 c8 c9 c10 c11 c12 c13 c14 c15
  replace o1 := o1.below hx
  replace hb := hb.trans (hx.mono hb.size)
  obtain ⟨c0, c1, c2, c3, c4, c5, c6, c7, c8, c9, c10, c11, c12, c13, c14, c15, -⟩ := own_16 o1
  clear hx
  go_wp2_with fail
  refine (nine_ref a7 _).mono ?_
  rintro e w8 ⟨rfl, hx⟩
  rw [n7]
  clear c0 c1 c2 c3 c4 c5 c6 c7 c8 c9 c10 c11 c12 c13 c14 c15
  replace o1 := o1.below hx
  replace hb := hb.trans (hx.mono hb.size)
  obtain ⟨c0, c1, c2, c3, c4, c5, c6, c7, c8, c9, c10, c11, c12, c13, c14, c15, -⟩ := own_16 o1
  clear hx
  go_wp2_with fail
  go_ret
  exact Ret.mk rfl hb
theorem vldb_bd9 {n d : Int} (h : vldB n d = true) : 1 ≤ d ∧ d ≤ 1000000 ∧ -1000000000 ≤ n ∧ n ≤ 1000000000 := by
  unfold vldB fitB at h
  simp at h
  omega
theorem kd_facts {d : Int} (h1 : 1 ≤ d) (h2 : d ≤ 1000000) : Int.tmod 100 d = 100 % d ∧ Int.tdiv 100 d = 100 / d ∧ (0 ≤ 100 % d ∧ 100 % d < d) ∧ (0 ≤ 100 / d ∧ 100 / d ≤ 100) := by
  refine ⟨Int.tmod_eq_emod_of_nonneg (by decide), Int.tdiv_eq_ediv_of_nonneg (by decide), ⟨Int.emod_nonneg _ (by omega), Int.emod_lt_of_pos _ (by omega)⟩, Int.ediv_nonneg (by decide) (by omega), ?_⟩
  exact Int.ediv_le_self _ (by decide)
theorem mul_facts {n d : Int} (h1 : 1 ≤ d) (h2 : d ≤ 1000000) (h3 : -1000000000 ≤ n) (h4 : n ≤ 1000000000) : -9223372036854775808 ≤ n * (100 / d) ∧ n * (100 / d) ≤ 9223372036854775807 := by
  obtain ⟨-, -, -, h5, h6⟩ := kd_facts h1 h2
  generalize 100 / d = q at h5 h6
  have a1 := Int.mul_le_mul_of_nonneg_right h4 h5
  have a2 := Int.mul_le_mul_of_nonneg_right h3 h5
  omega
set_option maxHeartbeats 3200000 in
theorem can_keep {Q R : Nat → Prop} (a0 a1 a2 a3 a4 a5 a6 a7 kn kd : Int) (we pe : Xp) (ad1 ad2 : Option Addr) (cap1 cap2 : Nat) (w : World) (hT : Tree Q w we (.agg #[.int .i64 we.o, .int .i64 we.n, .slice ad1 we.ks.length cap1])) (hU : Tree R w pe (.agg #[.int .i64 pe.o, .int .i64 pe.n, .slice ad2 pe.ks.length cap2])) (n0 : nineB a0 = true) (n1 : nineB a1 = true) (n2 : nineB a2 = true) (n3 : nineB a3 = true) (n4 : nineB a4 = true) (n5 : nineB a5 = true) (n6 : nineB a6 = true) (n7 : nineB a7 = true) (hk : vldB kn kd = false) : Calls Tryd.prog 17 #[.agg #[.int .i64 a0, .int .i64 a1, .int .i64 a2, .int .i64 a3, .int .i64 a4, .int .i64 a5, .int .i64 a6, .int .i64 a7, .int .i64 kn, .int .i64 kd, .int .i64 we.o, .int .i64 we.n, .slice ad1 we.ks.length cap1, .int .i64 pe.o, .int .i64 pe.n, .slice ad2 pe.ks.length cap2]] w (Ret (.bool false) w) := by
  obtain ⟨W, hW⟩ : ∃ W, W = w.alloc (.cells #[.int .i64 a0, .int .i64 a1, .int .i64 a2, .int .i64 a3, .int .i64 a4, .int .i64 a5, .int .i64 a6, .int .i64 a7, .int .i64 kn, .int .i64 kd, .int .i64 we.o, .int .i64 we.n, .slice ad1 we.ks.length cap1, .int .i64 pe.o, .int .i64 pe.n, .slice ad2 pe.ks.length cap2] 30) := ⟨_, rfl⟩
  have o1 : Own W w.heap.size [.int .i64 a0, .int .i64 a1, .int .i64 a2, .int .i64 a3, .int .i64 a4, .int .i64 a5, .int .i64 a6, .int .i64 a7, .int .i64 kn, .int .i64 kd, .int .i64 we.o, .int .i64 we.n, .slice ad1 we.ks.length cap1, .int .i64 pe.o, .int .i64 pe.n, .slice ad2 pe.ks.length cap2] := by rw [hW]; exact Own.new w #[.int .i64 a0, .int .i64 a1, .int .i64 a2, .int .i64 a3, .int .i64 a4, .int .i64 a5, .int .i64 a6, .int .i64 a7, .int .i64 kn, .int .i64 kd, .int .i64 we.o, .int .i64 we.n, .slice ad1 we.ks.length cap1, .int .i64 pe.o, .int .i64 pe.n, .slice ad2 pe.ks.length cap2] 30
  have hb : Below w.heap.size w W := by rw [hW]; exact balloc (Below.refl _ _) _
  obtain ⟨c0, c1, c2, c3, c4, c5, c6, c7, c8, c9, c10, c11, c12, c13, c14, c15, -⟩ := own_16 o1
  go_enter Tryd.func17, Tryd.ntmps17
  go_wp2_with fail
  rw [← hW]
  clear hW
  try go_wp2_with fail
  refine (nine_ref a0 _).mono ?_
  rintro e w1 ⟨rfl, hx⟩
  rw [n0]
  clear c0 c1 c2 c3 c4 c5 c6 c7 c8 c9 c10 c11 c12 c13 c14 c15
  replace o1 := o1.below hx
  replace hb := hb.trans (hx.mono hb.size)
  obtain ⟨c0, c1, c2, c3, c4, c5, c6, c7, c8, c9, c10, c11, c12, c13, c14, c15, -⟩ := own_16 o1
  clear hx
  go_wp2_with fail
  refine (nine_ref a1 _).mono ?_
  rintro e w2 ⟨rfl, hx⟩
  rw [n1]
  clear c0 c1 c2 c3 c4 c5 c6 c7 c8 c9 c10 c11 c12 c13 c14 c15
  replace o1 := o1.below hx
  replace hb := hb.trans (hx.mono hb.size)
  obtain ⟨c0, c1, c2, c3, c4, c5, c6, c7, c8, c9, c10, c11, c12, c13, c14, c15, -⟩ := own_16 o1
  clear hx
  go_wp2_with fail
  refine (nine_ref a2 _).mono ?_
  rintro e w3 ⟨rfl, hx⟩
  rw [n2]
  clear c0 c1 c2 c3 c4 c5 c6 c7 c8 c9 c10 c11 c12 c13 c14 c15
  replace o1 := o1.below hx
  replace hb := hb.trans (hx.mono hb.size)
  obtain ⟨c0, c1, c2, c3, c4, c5, c6, c7, c8, c9, c10, c11, c12, c13, c14, c15, -⟩ := own_16 o1
  clear hx
  go_wp2_with fail
  refine (nine_ref a3 _).mono ?_
  rintro e w4 ⟨rfl, hx⟩
  rw [n3]
  clear c0 c1 c2 c3 c4 c5 c6 c7 c8 c9 c10 c11 c12 c13 c14 c15
  replace o1 := o1.below hx
  replace hb := hb.trans (hx.mono hb.size)
  obtain ⟨c0, c1, c2, c3, c4, c5, c6, c7, c8, c9, c10, c11, c12, c13, c14, c15, -⟩ := own_16 o1
  clear hx
  go_wp2_with fail
  refine (nine_ref a4 _).mono ?_
  rintro e w5 ⟨rfl, hx⟩
  rw [n4]
  clear c0 c1 c2 c3 c4 c5 c6 c7 c8 c9 c10 c11 c12 c13 c14 c15
  replace o1 := o1.below hx
  replace hb := hb.trans (hx.mono hb.size)
  obtain ⟨c0, c1, c2, c3, c4, c5, c6, c7, c8, c9, c10, c11, c12, c13, c14, c15, -⟩ := own_16 o1
  clear hx
  go_wp2_with fail
  refine (nine_ref a5 _).mono ?_
  rintro e w6 ⟨rfl, hx⟩
  rw [n5]
  clear c0 c1 c2 c3 c4 c5 c6 c7 c8 c9 c10 c11 c12 c13 c14 c15
  replace o1 := o1.below hx
  replace hb := hb.trans (hx.mono hb.size)
  obtain ⟨c0, c1, c2, c3, c4, c5, c6, c7, c8, c9, c10, c11, c12, c13, c14, c15, -⟩ := own_16 o1
  clear hx
  go_wp2_with fail
  refine (nine_ref a6 _).mono ?_
  rintro e w7 ⟨rfl, hx⟩
  rw [n6]
  clear c0 c1 c2 c3 c4 c5 c6 c7 c8 c9 c10 c11 c12 c13 c14 c15
  replace o1 := o1.below hx
  replace hb := hb.trans (hx.mono hb.size)
  obtain ⟨c0, c1, c2, c3, c4, c5, c6, c7, c8, c9, c10, c11, c12, c13, c14, c15, -⟩ := own_16 o1
  clear hx
  go_wp2_with fail
  refine (nine_ref a7 _).mono ?_
  rintro e w8 ⟨rfl, hx⟩
  rw [n7]
  clear c0 c1 c2 c3 c4 c5 c6 c7 c8 c9 c10 c11 c12 c13 c14 c15
  replace o1 := o1.below hx
  replace hb := hb.trans (hx.mono hb.size)
  obtain ⟨c0, c1, c2, c3, c4, c5, c6, c7, c8, c9, c10, c11, c12, c13, c14, c15, -⟩ := own_16 o1
  clear hx
  go_wp2_with fail
  have hv1 := fun w => r_valid kn kd w
  rw [hk] at hv1
  have cz := o1.lt
  refine wp_region_up (by kernel_rfl) (by kernel_rfl) ?_
  repeat (go_big_quiet_step ((go_at_call 39; exact Ret.up (hv1 _))))
  refine wpQuiet_nil ?_
  rintro x1 ⟨g, rfl⟩
  have hx := up_below _ g
  generalize up _ g = x1 at hx ⊢
  go_wp2_with fail
  go_ret
  exact Ret.mk rfl (hb.trans (hx.mono hb.size))
set_option maxHeartbeats 3200000 in
theorem can_rem {Q R : Nat → Prop} (a0 a1 a2 a3 a4 a5 a6 a7 kn kd : Int) (we pe : Xp) (ad1 ad2 : Option Addr) (cap1 cap2 : Nat) (w : World) (hT : Tree Q w we (.agg #[.int .i64 we.o, .int .i64 we.n, .slice ad1 we.ks.length cap1])) (hU : Tree R w pe (.agg #[.int .i64 pe.o, .int .i64 pe.n, .slice ad2 pe.ks.length cap2])) (n0 : nineB a0 = true) (n1 : nineB a1 = true) (n2 : nineB a2 = true) (n3 : nineB a3 = true) (n4 : nineB a4 = true) (n5 : nineB a5 = true) (n6 : nineB a6 = true) (n7 : nineB a7 = true) (hk : vldB kn kd = true) (h2 : ¬ (100 % kd = 0)) : Calls Tryd.prog 17 #[.agg #[.int .i64 a0, .int .i64 a1, .int .i64 a2, .int .i64 a3, .int .i64 a4, .int .i64 a5, .int .i64 a6, .int .i64 a7, .int .i64 kn, .int .i64 kd, .int .i64 we.o, .int .i64 we.n, .slice ad1 we.ks.length cap1, .int .i64 pe.o, .int .i64 pe.n, .slice ad2 pe.ks.length cap2]] w (Ret (.bool false) w) := by
  obtain ⟨W, hW⟩ : ∃ W, W = w.alloc (.cells #[.int .i64 a0, .int .i64 a1, .int .i64 a2, .int .i64 a3, .int .i64 a4, .int .i64 a5, .int .i64 a6, .int .i64 a7, .int .i64 kn, .int .i64 kd, .int .i64 we.o, .int .i64 we.n, .slice ad1 we.ks.length cap1, .int .i64 pe.o, .int .i64 pe.n, .slice ad2 pe.ks.length cap2] 30) := ⟨_, rfl⟩
  have o1 : Own W w.heap.size [.int .i64 a0, .int .i64 a1, .int .i64 a2, .int .i64 a3, .int .i64 a4, .int .i64 a5, .int .i64 a6, .int .i64 a7, .int .i64 kn, .int .i64 kd, .int .i64 we.o, .int .i64 we.n, .slice ad1 we.ks.length cap1, .int .i64 pe.o, .int .i64 pe.n, .slice ad2 pe.ks.length cap2] := by rw [hW]; exact Own.new w #[.int .i64 a0, .int .i64 a1, .int .i64 a2, .int .i64 a3, .int .i64 a4, .int .i64 a5, .int .i64 a6, .int .i64 a7, .int .i64 kn, .int .i64 kd, .int .i64 we.o, .int .i64 we.n, .slice ad1 we.ks.length cap1, .int .i64 pe.o, .int .i64 pe.n, .slice ad2 pe.ks.length cap2] 30
  have hb : Below w.heap.size w W := by rw [hW]; exact balloc (Below.refl _ _) _
  obtain ⟨c0, c1, c2, c3, c4, c5, c6, c7, c8, c9, c10, c11, c12, c13, c14, c15, -⟩ := own_16 o1
  go_enter Tryd.func17, Tryd.ntmps17
  go_wp2_with fail
  rw [← hW]
  clear hW
  try go_wp2_with fail
  refine (nine_ref a0 _).mono ?_
  rintro e w1 ⟨rfl, hx⟩
  rw [n0]
  clear c0 c1 c2 c3 c4 c5 c6 c7 c8 c9 c10 c11 c12 c13 c14 c15
  replace o1 := o1.below hx
  replace hb := hb.trans (hx.mono hb.size)
  obtain ⟨c0, c1, c2, c3, c4, c5, c6, c7, c8, c9, c10, c11, c12, c13, c14, c15, -⟩ := own_16 o1
  clear hx
  go_wp2_with fail
  refine (nine_ref a1 _).mono ?_
  rintro e w2 ⟨rfl, hx⟩
  rw [n1]
  clear c0 c1 c2 c3 c4 c5 c6 c7 c8 c9 c10 c11 c12 c13 c14 c15
  replace o1 := o1.below hx
  replace hb := hb.trans (hx.mono hb.size)
  obtain ⟨c0, c1, c2, c3, c4, c5, c6, c7, c8, c9, c10, c11, c12, c13, c14, c15, -⟩ := own_16 o1
  clear hx
  go_wp2_with fail
  refine (nine_ref a2 _).mono ?_
  rintro e w3 ⟨rfl, hx⟩
  rw [n2]
  clear c0 c1 c2 c3 c4 c5 c6 c7 c8 c9 c10 c11 c12 c13 c14 c15
  replace o1 := o1.below hx
  replace hb := hb.trans (hx.mono hb.size)
  obtain ⟨c0, c1, c2, c3, c4, c5, c6, c7, c8, c9, c10, c11, c12, c13, c14, c15, -⟩ := own_16 o1
  clear hx
  go_wp2_with fail
  refine (nine_ref a3 _).mono ?_
  rintro e w4 ⟨rfl, hx⟩
  rw [n3]
  clear c0 c1 c2 c3 c4 c5 c6 c7 c8 c9 c10 c11 c12 c13 c14 c15
  replace o1 := o1.below hx
  replace hb := hb.trans (hx.mono hb.size)
  obtain ⟨c0, c1, c2, c3, c4, c5, c6, c7, c8, c9, c10, c11, c12, c13, c14, c15, -⟩ := own_16 o1
  clear hx
  go_wp2_with fail
  refine (nine_ref a4 _).mono ?_
  rintro e w5 ⟨rfl, hx⟩
  rw [n4]
  clear c0 c1 c2 c3 c4 c5 c6 c7 c8 c9 c10 c11 c12 c13 c14 c15
  replace o1 := o1.below hx
  replace hb := hb.trans (hx.mono hb.size)
  obtain ⟨c0, c1, c2, c3, c4, c5, c6, c7, c8, c9, c10, c11, c12, c13, c14, c15, -⟩ := own_16 o1
  clear hx
  go_wp2_with fail
  refine (nine_ref a5 _).mono ?_
  rintro e w6 ⟨rfl, hx⟩
  rw [n5]
  clear c0 c1 c2 c3 c4 c5 c6 c7 c8 c9 c10 c11 c12 c13 c14 c15
  replace o1 := o1.below hx
  replace hb := hb.trans (hx.mono hb.size)
  obtain ⟨c0, c1, c2, c3, c4, c5, c6, c7, c8, c9, c10, c11, c12, c13, c14, c15, -⟩ := own_16 o1
  clear hx
  go_wp2_with fail
  refine (nine_ref a6 _).mono ?_
  rintro e w7 ⟨rfl, hx⟩
  rw [n6]
  clear c0 c1 c2 c3 c4 c5 c6 c7 c8 c9 c10 c11 c12 c13 c14 c15
  replace o1 := o1.below hx
  replace hb := hb.trans (hx.mono hb.size)
  obtain ⟨c0, c1, c2, c3, c4, c5, c6, c7, c8, c9, c10, c11, c12, c13, c14, c15, -⟩ := own_16 o1
  clear hx
  go_wp2_with fail
  refine (nine_ref a7 _).mono ?_
  rintro e w8 ⟨rfl, hx⟩
  rw [n7]
  clear c0 c1 c2 c3 c4 c5 c6 c7 c8 c9 c10 c11 c12 c13 c14 c15
  replace o1 := o1.below hx
  replace hb := hb.trans (hx.mono hb.size)
  obtain ⟨c0, c1, c2, c3, c4, c5, c6, c7, c8, c9, c10, c11, c12, c13, c14, c15, -⟩ := own_16 o1
  clear hx
  go_wp2_with fail
  have hv1 := fun w => r_valid kn kd w
  rw [hk] at hv1
  obtain ⟨b1, b2, b3, b4⟩ := vldb_bd9 hk
  obtain ⟨m1, m2, m3, m4⟩ := kd_facts b1 b2
  have m5 := mul_facts b1 b2 b3 b4
  have m6 : (kd == 0) = false := by rw [beq_eq_false_iff_ne]; omega
  have m7 : IntKind.i64.wrap (kn * (100 / kd)) = kn * (100 / kd) := IntWalk.i64_in _ m5
  have m8 : IntKind.i64.wrap (100 % kd) = 100 % kd := IntWalk.i64_in _ (by omega)
  have m9 : IntKind.i64.wrap (100 / kd) = 100 / kd := IntWalk.i64_in _ (by omega)
  have r1 : (100 % kd != 0) = true := by rw [bne_iff_ne]; exact h2
  have cz := o1.lt
  refine wp_region_up (by kernel_rfl) (by kernel_rfl) ?_
  repeat (go_big_quiet_step ((go_at_call 39; exact Ret.up (hv1 _))))
  refine wpQuiet_nil ?_
  rintro x1 ⟨g, rfl⟩
  have hx := up_below _ g
  generalize up _ g = x1 at hx ⊢
  go_wp2_with fail
  go_ret
  exact Ret.mk rfl (hb.trans (hx.mono hb.size))
set_option maxHeartbeats 3200000 in
theorem can_pct {Q R : Nat → Prop} (a0 a1 a2 a3 a4 a5 a6 a7 kn kd : Int) (we pe : Xp) (ad1 ad2 : Option Addr) (cap1 cap2 : Nat) (w : World) (hT : Tree Q w we (.agg #[.int .i64 we.o, .int .i64 we.n, .slice ad1 we.ks.length cap1])) (hU : Tree R w pe (.agg #[.int .i64 pe.o, .int .i64 pe.n, .slice ad2 pe.ks.length cap2])) (n0 : nineB a0 = true) (n1 : nineB a1 = true) (n2 : nineB a2 = true) (n3 : nineB a3 = true) (n4 : nineB a4 = true) (n5 : nineB a5 = true) (n6 : nineB a6 = true) (n7 : nineB a7 = true) (hk : vldB kn kd = true) (h2 : 100 % kd = 0) (h3 : nineB (kn * (100 / kd)) = false) : Calls Tryd.prog 17 #[.agg #[.int .i64 a0, .int .i64 a1, .int .i64 a2, .int .i64 a3, .int .i64 a4, .int .i64 a5, .int .i64 a6, .int .i64 a7, .int .i64 kn, .int .i64 kd, .int .i64 we.o, .int .i64 we.n, .slice ad1 we.ks.length cap1, .int .i64 pe.o, .int .i64 pe.n, .slice ad2 pe.ks.length cap2]] w (Ret (.bool false) w) := by
  obtain ⟨W, hW⟩ : ∃ W, W = w.alloc (.cells #[.int .i64 a0, .int .i64 a1, .int .i64 a2, .int .i64 a3, .int .i64 a4, .int .i64 a5, .int .i64 a6, .int .i64 a7, .int .i64 kn, .int .i64 kd, .int .i64 we.o, .int .i64 we.n, .slice ad1 we.ks.length cap1, .int .i64 pe.o, .int .i64 pe.n, .slice ad2 pe.ks.length cap2] 30) := ⟨_, rfl⟩
  have o1 : Own W w.heap.size [.int .i64 a0, .int .i64 a1, .int .i64 a2, .int .i64 a3, .int .i64 a4, .int .i64 a5, .int .i64 a6, .int .i64 a7, .int .i64 kn, .int .i64 kd, .int .i64 we.o, .int .i64 we.n, .slice ad1 we.ks.length cap1, .int .i64 pe.o, .int .i64 pe.n, .slice ad2 pe.ks.length cap2] := by rw [hW]; exact Own.new w #[.int .i64 a0, .int .i64 a1, .int .i64 a2, .int .i64 a3, .int .i64 a4, .int .i64 a5, .int .i64 a6, .int .i64 a7, .int .i64 kn, .int .i64 kd, .int .i64 we.o, .int .i64 we.n, .slice ad1 we.ks.length cap1, .int .i64 pe.o, .int .i64 pe.n, .slice ad2 pe.ks.length cap2] 30
  have hb : Below w.heap.size w W := by rw [hW]; exact balloc (Below.refl _ _) _
  obtain ⟨c0, c1, c2, c3, c4, c5, c6, c7, c8, c9, c10, c11, c12, c13, c14, c15, -⟩ := own_16 o1
  go_enter Tryd.func17, Tryd.ntmps17
  go_wp2_with fail
  rw [← hW]
  clear hW
  try go_wp2_with fail
  refine (nine_ref a0 _).mono ?_
  rintro e w1 ⟨rfl, hx⟩
  rw [n0]
  clear c0 c1 c2 c3 c4 c5 c6 c7 c8 c9 c10 c11 c12 c13 c14 c15
  replace o1 := o1.below hx
  replace hb := hb.trans (hx.mono hb.size)
  obtain ⟨c0, c1, c2, c3, c4, c5, c6, c7, c8, c9, c10, c11, c12, c13, c14, c15, -⟩ := own_16 o1
  clear hx
  go_wp2_with fail
  refine (nine_ref a1 _).mono ?_
  rintro e w2 ⟨rfl, hx⟩
  rw [n1]
  clear c0 c1 c2 c3 c4 c5 c6 c7 c8 c9 c10 c11 c12 c13 c14 c15
  replace o1 := o1.below hx
  replace hb := hb.trans (hx.mono hb.size)
  obtain ⟨c0, c1, c2, c3, c4, c5, c6, c7, c8, c9, c10, c11, c12, c13, c14, c15, -⟩ := own_16 o1
  clear hx
  go_wp2_with fail
  refine (nine_ref a2 _).mono ?_
  rintro e w3 ⟨rfl, hx⟩
  rw [n2]
  clear c0 c1 c2 c3 c4 c5 c6 c7 c8 c9 c10 c11 c12 c13 c14 c15
  replace o1 := o1.below hx
  replace hb := hb.trans (hx.mono hb.size)
  obtain ⟨c0, c1, c2, c3, c4, c5, c6, c7, c8, c9, c10, c11, c12, c13, c14, c15, -⟩ := own_16 o1
  clear hx
  go_wp2_with fail
  refine (nine_ref a3 _).mono ?_
  rintro e w4 ⟨rfl, hx⟩
  rw [n3]
  clear c0 c1 c2 c3 c4 c5 c6 c7 c8 c9 c10 c11 c12 c13 c14 c15
  replace o1 := o1.below hx
  replace hb := hb.trans (hx.mono hb.size)
  obtain ⟨c0, c1, c2, c3, c4, c5, c6, c7, c8, c9, c10, c11, c12, c13, c14, c15, -⟩ := own_16 o1
  clear hx
  go_wp2_with fail
  refine (nine_ref a4 _).mono ?_
  rintro e w5 ⟨rfl, hx⟩
  rw [n4]
  clear c0 c1 c2 c3 c4 c5 c6 c7 c8 c9 c10 c11 c12 c13 c14 c15
  replace o1 := o1.below hx
  replace hb := hb.trans (hx.mono hb.size)
  obtain ⟨c0, c1, c2, c3, c4, c5, c6, c7, c8, c9, c10, c11, c12, c13, c14, c15, -⟩ := own_16 o1
  clear hx
  go_wp2_with fail
  refine (nine_ref a5 _).mono ?_
  rintro e w6 ⟨rfl, hx⟩
  rw [n5]
  clear c0 c1 c2 c3 c4 c5 c6 c7 c8 c9 c10 c11 c12 c13 c14 c15
  replace o1 := o1.below hx
  replace hb := hb.trans (hx.mono hb.size)
  obtain ⟨c0, c1, c2, c3, c4, c5, c6, c7, c8, c9, c10, c11, c12, c13, c14, c15, -⟩ := own_16 o1
  clear hx
  go_wp2_with fail
  refine (nine_ref a6 _).mono ?_
  rintro e w7 ⟨rfl, hx⟩
  rw [n6]
  clear c0 c1 c2 c3 c4 c5 c6 c7 c8 c9 c10 c11 c12 c13 c14 c15
  replace o1 := o1.below hx
  replace hb := hb.trans (hx.mono hb.size)
  obtain ⟨c0, c1, c2, c3, c4, c5, c6, c7, c8, c9, c10, c11, c12, c13, c14, c15, -⟩ := own_16 o1
  clear hx
  go_wp2_with fail
  refine (nine_ref a7 _).mono ?_
  rintro e w8 ⟨rfl, hx⟩
  rw [n7]
  clear c0 c1 c2 c3 c4 c5 c6 c7 c8 c9 c10 c11 c12 c13 c14 c15
  replace o1 := o1.below hx
  replace hb := hb.trans (hx.mono hb.size)
  obtain ⟨c0, c1, c2, c3, c4, c5, c6, c7, c8, c9, c10, c11, c12, c13, c14, c15, -⟩ := own_16 o1
  clear hx
  go_wp2_with fail
  have hv1 := fun w => r_valid kn kd w
  rw [hk] at hv1
  have hv2 := fun w => nine_ref (kn * (100 / kd)) w
  rw [h3] at hv2
  obtain ⟨b1, b2, b3, b4⟩ := vldb_bd9 hk
  obtain ⟨m1, m2, m3, m4⟩ := kd_facts b1 b2
  have m5 := mul_facts b1 b2 b3 b4
  have m6 : (kd == 0) = false := by rw [beq_eq_false_iff_ne]; omega
  have m7 : IntKind.i64.wrap (kn * (100 / kd)) = kn * (100 / kd) := IntWalk.i64_in _ m5
  have m8 : IntKind.i64.wrap (100 % kd) = 100 % kd := IntWalk.i64_in _ (by omega)
  have m9 : IntKind.i64.wrap (100 / kd) = 100 / kd := IntWalk.i64_in _ (by omega)
  have r1 : (100 % kd != 0) = false := by rw [bne_eq_false_iff_eq]; exact h2
  have cz := o1.lt
  refine wp_region_up (by kernel_rfl) (by kernel_rfl) ?_
  repeat (go_big_quiet_step (first | (go_at_call 39; exact Ret.up (hv1 _)) | (go_at_call 38; exact Ret.up (hv2 _))))
  refine wpQuiet_nil ?_
  rintro x1 ⟨g, rfl⟩
  have hx := up_below _ g
  generalize up _ g = x1 at hx ⊢
  go_wp2_with fail
  go_ret
  exact Ret.mk rfl (hb.trans (hx.mono hb.size))
set_option maxHeartbeats 3200000 in
theorem can_exprs {Q R : Nat → Prop} (a0 a1 a2 a3 a4 a5 a6 a7 kn kd : Int) (we pe : Xp) (ad1 ad2 : Option Addr) (cap1 cap2 : Nat) (w : World) (hT : Tree Q w we (.agg #[.int .i64 we.o, .int .i64 we.n, .slice ad1 we.ks.length cap1])) (hU : Tree R w pe (.agg #[.int .i64 pe.o, .int .i64 pe.n, .slice ad2 pe.ks.length cap2])) (n0 : nineB a0 = true) (n1 : nineB a1 = true) (n2 : nineB a2 = true) (n3 : nineB a3 = true) (n4 : nineB a4 = true) (n5 : nineB a5 = true) (n6 : nineB a6 = true) (n7 : nineB a7 = true) (hk : vldB kn kd = true) (h2 : 100 % kd = 0) (h3 : nineB (kn * (100 / kd)) = true) : Calls Tryd.prog 17 #[.agg #[.int .i64 a0, .int .i64 a1, .int .i64 a2, .int .i64 a3, .int .i64 a4, .int .i64 a5, .int .i64 a6, .int .i64 a7, .int .i64 kn, .int .i64 kd, .int .i64 we.o, .int .i64 we.n, .slice ad1 we.ks.length cap1, .int .i64 pe.o, .int .i64 pe.n, .slice ad2 pe.ks.length cap2]] w (Ret (.bool (validF we && validF pe)) w) := by
  obtain ⟨W, hW⟩ : ∃ W, W = w.alloc (.cells #[.int .i64 a0, .int .i64 a1, .int .i64 a2, .int .i64 a3, .int .i64 a4, .int .i64 a5, .int .i64 a6, .int .i64 a7, .int .i64 kn, .int .i64 kd, .int .i64 we.o, .int .i64 we.n, .slice ad1 we.ks.length cap1, .int .i64 pe.o, .int .i64 pe.n, .slice ad2 pe.ks.length cap2] 30) := ⟨_, rfl⟩
  have o1 : Own W w.heap.size [.int .i64 a0, .int .i64 a1, .int .i64 a2, .int .i64 a3, .int .i64 a4, .int .i64 a5, .int .i64 a6, .int .i64 a7, .int .i64 kn, .int .i64 kd, .int .i64 we.o, .int .i64 we.n, .slice ad1 we.ks.length cap1, .int .i64 pe.o, .int .i64 pe.n, .slice ad2 pe.ks.length cap2] := by rw [hW]; exact Own.new w #[.int .i64 a0, .int .i64 a1, .int .i64 a2, .int .i64 a3, .int .i64 a4, .int .i64 a5, .int .i64 a6, .int .i64 a7, .int .i64 kn, .int .i64 kd, .int .i64 we.o, .int .i64 we.n, .slice ad1 we.ks.length cap1, .int .i64 pe.o, .int .i64 pe.n, .slice ad2 pe.ks.length cap2] 30
  have hb : Below w.heap.size w W := by rw [hW]; exact balloc (Below.refl _ _) _
  obtain ⟨c0, c1, c2, c3, c4, c5, c6, c7, c8, c9, c10, c11, c12, c13, c14, c15, -⟩ := own_16 o1
  go_enter Tryd.func17, Tryd.ntmps17
  go_wp2_with fail
  rw [← hW]
  clear hW
  try go_wp2_with fail
  refine (nine_ref a0 _).mono ?_
  rintro e w1 ⟨rfl, hx⟩
  rw [n0]
  clear c0 c1 c2 c3 c4 c5 c6 c7 c8 c9 c10 c11 c12 c13 c14 c15
  replace o1 := o1.below hx
  replace hb := hb.trans (hx.mono hb.size)
  obtain ⟨c0, c1, c2, c3, c4, c5, c6, c7, c8, c9, c10, c11, c12, c13, c14, c15, -⟩ := own_16 o1
  clear hx
  go_wp2_with fail
  refine (nine_ref a1 _).mono ?_
  rintro e w2 ⟨rfl, hx⟩
  rw [n1]
  clear c0 c1 c2 c3 c4 c5 c6 c7 c8 c9 c10 c11 c12 c13 c14 c15
  replace o1 := o1.below hx
  replace hb := hb.trans (hx.mono hb.size)
  obtain ⟨c0, c1, c2, c3, c4, c5, c6, c7, c8, c9, c10, c11, c12, c13, c14, c15, -⟩ := own_16 o1
  clear hx
  go_wp2_with fail
  refine (nine_ref a2 _).mono ?_
  rintro e w3 ⟨rfl, hx⟩
  rw [n2]
  clear c0 c1 c2 c3 c4 c5 c6 c7 c8 c9 c10 c11 c12 c13 c14 c15
  replace o1 := o1.below hx
  replace hb := hb.trans (hx.mono hb.size)
  obtain ⟨c0, c1, c2, c3, c4, c5, c6, c7, c8, c9, c10, c11, c12, c13, c14, c15, -⟩ := own_16 o1
  clear hx
  go_wp2_with fail
  refine (nine_ref a3 _).mono ?_
  rintro e w4 ⟨rfl, hx⟩
  rw [n3]
  clear c0 c1 c2 c3 c4 c5 c6 c7 c8 c9 c10 c11 c12 c13 c14 c15
  replace o1 := o1.below hx
  replace hb := hb.trans (hx.mono hb.size)
  obtain ⟨c0, c1, c2, c3, c4, c5, c6, c7, c8, c9, c10, c11, c12, c13, c14, c15, -⟩ := own_16 o1
  clear hx
  go_wp2_with fail
  refine (nine_ref a4 _).mono ?_
  rintro e w5 ⟨rfl, hx⟩
  rw [n4]
  clear c0 c1 c2 c3 c4 c5 c6 c7 c8 c9 c10 c11 c12 c13 c14 c15
  replace o1 := o1.below hx
  replace hb := hb.trans (hx.mono hb.size)
  obtain ⟨c0, c1, c2, c3, c4, c5, c6, c7, c8, c9, c10, c11, c12, c13, c14, c15, -⟩ := own_16 o1
  clear hx
  go_wp2_with fail
  refine (nine_ref a5 _).mono ?_
  rintro e w6 ⟨rfl, hx⟩
  rw [n5]
  clear c0 c1 c2 c3 c4 c5 c6 c7 c8 c9 c10 c11 c12 c13 c14 c15
  replace o1 := o1.below hx
  replace hb := hb.trans (hx.mono hb.size)
  obtain ⟨c0, c1, c2, c3, c4, c5, c6, c7, c8, c9, c10, c11, c12, c13, c14, c15, -⟩ := own_16 o1
  clear hx
  go_wp2_with fail
  refine (nine_ref a6 _).mono ?_
  rintro e w7 ⟨rfl, hx⟩
  rw [n6]
  clear c0 c1 c2 c3 c4 c5 c6 c7 c8 c9 c10 c11 c12 c13 c14 c15
  replace o1 := o1.below hx
  replace hb := hb.trans (hx.mono hb.size)
  obtain ⟨c0, c1, c2, c3, c4, c5, c6, c7, c8, c9, c10, c11, c12, c13, c14, c15, -⟩ := own_16 o1
  clear hx
  go_wp2_with fail
  refine (nine_ref a7 _).mono ?_
  rintro e w8 ⟨rfl, hx⟩
  rw [n7]
  clear c0 c1 c2 c3 c4 c5 c6 c7 c8 c9 c10 c11 c12 c13 c14 c15
  replace o1 := o1.below hx
  replace hb := hb.trans (hx.mono hb.size)
  obtain ⟨c0, c1, c2, c3, c4, c5, c6, c7, c8, c9, c10, c11, c12, c13, c14, c15, -⟩ := own_16 o1
  clear hx
  go_wp2_with fail
  have hv1 := fun w => r_valid kn kd w
  rw [hk] at hv1
  have hv2 := fun w => nine_ref (kn * (100 / kd)) w
  rw [h3] at hv2
  obtain ⟨b1, b2, b3, b4⟩ := vldb_bd9 hk
  obtain ⟨m1, m2, m3, m4⟩ := kd_facts b1 b2
  have m5 := mul_facts b1 b2 b3 b4
  have m6 : (kd == 0) = false := by rw [beq_eq_false_iff_ne]; omega
  have m7 : IntKind.i64.wrap (kn * (100 / kd)) = kn * (100 / kd) := IntWalk.i64_in _ m5
  have m8 : IntKind.i64.wrap (100 % kd) = 100 % kd := IntWalk.i64_in _ (by omega)
  have m9 : IntKind.i64.wrap (100 / kd) = 100 / kd := IntWalk.i64_in _ (by omega)
  have r1 : (100 % kd != 0) = false := by rw [bne_eq_false_iff_eq]; exact h2
  have hw1 := fun w1 (h : Below w.heap.size w w1) => rvalid8_any we _ w1 (hT.below h)
  have hw2 := fun w1 (h : Below w.heap.size w w1) => rvalid8_any pe _ w1 (hU.below h)
  have cz := o1.lt
  refine wp_region_up (by kernel_rfl) (by kernel_rfl) ?_
  repeat (go_big_quiet_step (first | (go_at_call 39; exact Ret.up (hv1 _)) | (go_at_call 38; exact Ret.up (hv2 _))))
  refine wpQuiet_nil ?_
  rintro x1 ⟨g, rfl⟩
  have hx := up_below _ g
  generalize up _ g = x1 at hx ⊢
  replace hb := hb.trans (hx.mono hb.size)
  clear c0 c1 c2 c3 c4 c5 c6 c7 c8 c9 c10 c11 c12 c13 c14 c15 cz
  replace o1 := o1.below hx
  obtain ⟨c0, c1, c2, c3, c4, c5, c6, c7, c8, c9, c10, c11, c12, c13, c14, c15, cz⟩ := own_16 o1
  clear hx hv1 hv2
  go_wp2_with fail
  refine (hw1 _ hb).mono ?_
  rintro e x2 ⟨rfl, hx⟩
  replace hb := hb.trans (hx.mono hb.size)
  clear c0 c1 c2 c3 c4 c5 c6 c7 c8 c9 c10 c11 c12 c13 c14 c15 cz
  replace o1 := o1.below hx
  obtain ⟨c0, c1, c2, c3, c4, c5, c6, c7, c8, c9, c10, c11, c12, c13, c14, c15, cz⟩ := own_16 o1
  clear hx hw1
  cases hv : validF we with
  | false =>
    go_wp2_with fail
    go_ret
    exact Ret.mk (by first | (rw [hv]; rfl) | simp [hv]) hb
  | true =>
    go_wp2_with fail
    refine (hw2 _ hb).mono ?_
    rintro e x3 ⟨rfl, hx⟩
    go_wp2_with fail
    go_ret
    exact Ret.mk (by first | (rw [hv]; rfl) | simp [hv]) (hb.trans (hx.mono hb.size))
theorem can_any {Q R : Nat → Prop} (a0 a1 a2 a3 a4 a5 a6 a7 kn kd : Int) (we pe : Xp) (ad1 ad2 : Option Addr) (cap1 cap2 : Nat) (w : World) (hT : Tree Q w we (.agg #[.int .i64 we.o, .int .i64 we.n, .slice ad1 we.ks.length cap1])) (hU : Tree R w pe (.agg #[.int .i64 pe.o, .int .i64 pe.n, .slice ad2 pe.ks.length cap2])) : Calls Tryd.prog 17 #[.agg #[.int .i64 a0, .int .i64 a1, .int .i64 a2, .int .i64 a3, .int .i64 a4, .int .i64 a5, .int .i64 a6, .int .i64 a7, .int .i64 kn, .int .i64 kd, .int .i64 we.o, .int .i64 we.n, .slice ad1 we.ks.length cap1, .int .i64 pe.o, .int .i64 pe.n, .slice ad2 pe.ks.length cap2]] w (Ret (.bool (canR a0 a1 a2 a3 a4 a5 a6 a7 kn kd we pe)) w) := by
  unfold canR keepB
  cases n0 : nineB a0 with
  | false => simpa using can_n0 a0 a1 a2 a3 a4 a5 a6 a7 kn kd we pe ad1 ad2 cap1 cap2 w hT hU n0
  | true =>
  cases n1 : nineB a1 with
  | false => simpa using can_n1 a0 a1 a2 a3 a4 a5 a6 a7 kn kd we pe ad1 ad2 cap1 cap2 w hT hU n0 n1
  | true =>
  cases n2 : nineB a2 with
  | false => simpa using can_n2 a0 a1 a2 a3 a4 a5 a6 a7 kn kd we pe ad1 ad2 cap1 cap2 w hT hU n0 n1 n2
  | true =>
  cases n3 : nineB a3 with
  | false => simpa using can_n3 a0 a1 a2 a3 a4 a5 a6 a7 kn kd we pe ad1 ad2 cap1 cap2 w hT hU n0 n1 n2 n3
  | true =>
  cases n4 : nineB a4 with
  | false => simpa using can_n4 a0 a1 a2 a3 a4 a5 a6 a7 kn kd we pe ad1 ad2 cap1 cap2 w hT hU n0 n1 n2 n3 n4
  | true =>
  cases n5 : nineB a5 with
  | false => simpa using can_n5 a0 a1 a2 a3 a4 a5 a6 a7 kn kd we pe ad1 ad2 cap1 cap2 w hT hU n0 n1 n2 n3 n4 n5
  | true =>
  cases n6 : nineB a6 with
  | false => simpa using can_n6 a0 a1 a2 a3 a4 a5 a6 a7 kn kd we pe ad1 ad2 cap1 cap2 w hT hU n0 n1 n2 n3 n4 n5 n6
  | true =>
  cases n7 : nineB a7 with
  | false => simpa using can_n7 a0 a1 a2 a3 a4 a5 a6 a7 kn kd we pe ad1 ad2 cap1 cap2 w hT hU n0 n1 n2 n3 n4 n5 n6 n7
  | true =>
  cases hk : vldB kn kd with
  | false => simpa using can_keep a0 a1 a2 a3 a4 a5 a6 a7 kn kd we pe ad1 ad2 cap1 cap2 w hT hU n0 n1 n2 n3 n4 n5 n6 n7 hk
  | true =>
  by_cases h2 : 100 % kd = 0
  · cases h3 : nineB (kn * (100 / kd)) with
    | false => simpa using can_pct a0 a1 a2 a3 a4 a5 a6 a7 kn kd we pe ad1 ad2 cap1 cap2 w hT hU n0 n1 n2 n3 n4 n5 n6 n7 hk h2 h3
    | true => simpa [h2] using can_exprs a0 a1 a2 a3 a4 a5 a6 a7 kn kd we pe ad1 ad2 cap1 cap2 w hT hU n0 n1 n2 n3 n4 n5 n6 n7 hk h2 h3
  · simpa [h2] using can_rem a0 a1 a2 a3 a4 a5 a6 a7 kn kd we pe ad1 ad2 cap1 cap2 w hT hU n0 n1 n2 n3 n4 n5 n6 n7 hk h2
end Go.Proofs.YtlkefcbkpohpgaaDoor
namespace Go.Proofs.YtlkefcbkpohpgaaDoor
open Go.RowKit Go.Shelf
set_option maxRecDepth 100000
set_option linter.unusedVariables false
set_option linter.unusedSimpArgs false

set_option maxHeartbeats 800000 in
/-- the reference's Expr -/
theorem rexpr9_any {Q : Nat → Prop} (e : Xp) (ad : Option Addr) (cap : Nat) (w : World) (hT : Tree Q w e (.agg #[.int .i64 e.o, .int .i64 e.n, .slice ad e.ks.length cap])) : Calls Tryd.prog 9 #[.agg #[.int .i64 e.o, .int .i64 e.n, .slice ad e.ks.length cap]] w (Ret (.tuple #[.string ⟨(exprP e).1.toArray⟩, .int .i64 (exprP e).2]) w) := by
  have hv := fun w1 (h : Below w.heap.size w w1) => rvalid8_any e _ w1 (hT.below h)
  obtain ⟨W, hW⟩ : ∃ W, W = w.alloc (.cells #[.int .i64 e.o, .int .i64 e.n, .slice ad e.ks.length cap] 24) := ⟨_, rfl⟩
  have o1 : Own W w.heap.size [.int .i64 e.o, .int .i64 e.n, .slice ad e.ks.length cap] := by rw [hW]; exact Own.new w #[.int .i64 e.o, .int .i64 e.n, .slice ad e.ks.length cap] 24
  have hb : Below w.heap.size w W := by rw [hW]; exact balloc (Below.refl _ _) _
  obtain ⟨c0, c1, c2, -, -, -, -⟩ := o1.three
  unfold exprP
  cases hve : validF e with
  | false =>
    rw [hve] at hv
    go_enter Tryd.func9, Tryd.ntmps9
    go_wp2_with fail
    rw [← hW]
    clear hW
    try go_wp2_with fail
    refine (hv _ hb).mono ?_
    rintro e w1 ⟨rfl, hx⟩
    go_wp2_with fail
    go_ret2
    exact Ret.mk rfl (hb.trans (hx.mono hb.size))
  | true =>
    rw [hve] at hv
    obtain ⟨o2, c2', -⟩ := valid_is hve
    have ht := fun w1 (h : Below w.heap.size w w1) => rtx_any Q e _ w1 o2 c2' (hT.below h)
    rw [if_pos rfl]
    simp only
    generalize txtE e = T at *
    generalize (⟨T.toArray⟩ : ByteArray) = S at *
    clear c2'
    go_enter Tryd.func9, Tryd.ntmps9
    go_wp2_with fail
    rw [← hW]
    clear hW
    try go_wp2_with fail
    refine (hv _ hb).mono ?_
    rintro e w1 ⟨rfl, hx⟩
    replace o1 := o1.below hx
    replace hb := hb.trans (hx.mono hb.size)
    clear hx hv c0 c1 c2
    obtain ⟨c0, c1, c2, -, -, -, -⟩ := o1.three
    go_wp2_with fail
    refine (ht _ hb).mono ?_
    rintro e w2 ⟨rfl, hx⟩
    go_wp2_with fail
    go_ret2
    exact Ret.mk rfl (hb.trans (hx.mono hb.size))
theorem rate_bytes (n0 n1 n2 n3 n4 n5 n6 n7 c : Nat) (w p : List UInt8) (D0 D1 D2 D3 D4 D5 D6 D7 D8 SW SP T1 T2 T3 T4 T5 : ByteArray) (e0 : D0 = ⟨(Lib.decDigits n0).toArray⟩) (e1 : D1 = ⟨(Lib.decDigits n1).toArray⟩) (e2 : D2 = ⟨(Lib.decDigits n2).toArray⟩) (e3 : D3 = ⟨(Lib.decDigits n3).toArray⟩) (e4 : D4 = ⟨(Lib.decDigits n4).toArray⟩) (e5 : D5 = ⟨(Lib.decDigits n5).toArray⟩) (e6 : D6 = ⟨(Lib.decDigits n6).toArray⟩) (e7 : D7 = ⟨(Lib.decDigits n7).toArray⟩) (e8 : D8 = ⟨(Lib.decDigits c).toArray⟩) (ew : SW = ⟨w.toArray⟩) (ep : SP = ⟨p.toArray⟩)
    (hT1 : T1 = (⟨#[114, 97, 116, 101, 32]⟩ : ByteArray) ++ D0 ++ ⟨#[32, 108, 101, 118, 101, 108, 32]⟩ ++ D1 ++ ⟨#[32, 107, 105, 110, 100, 32]⟩ ++ D2) (hT2 : T2 = T1 ++ ⟨#[32, 110, 105, 103, 104, 116, 115, 32]⟩ ++ D3 ++ ⟨#[32, 116, 111, 32]⟩ ++ D4) (hT3 : T3 = T2 ++ ⟨#[32, 115, 116, 97, 121, 32]⟩ ++ D5 ++ ⟨#[32, 116, 111, 32]⟩ ++ D6 ++ ⟨#[32, 97, 114, 114, 105, 118, 101, 32]⟩ ++ D7) (hT4 : T4 = T3 ++ ⟨#[32, 107, 101, 101, 112, 32]⟩ ++ D8 ++ ⟨#[37]⟩) (hT5 : T5 = T4 ++ ⟨#[32, 119, 104, 101, 110, 32]⟩ ++ SW ++ ⟨#[32, 112, 114, 105, 99, 101, 32]⟩ ++ SP ++ ⟨#[59]⟩) : T5 = ⟨(rateX n0 n1 n2 n3 n4 n5 n6 n7 c w p).toArray⟩ := by
  subst hT5 hT4 hT3 hT2 hT1 e0 e1 e2 e3 e4 e5 e6 e7 e8 ew ep
  apply ByteArray.ext
  simp [ByteArray.data_append, rateX, wRate, wLevel, wKind, wNights, wTo, wStay, wArrive, wKeep, wWhen, wPrice]
theorem dec_bytes : ∃ D : Nat → ByteArray, (∀ n, D n = ⟨(Lib.decDigits n).toArray⟩) ∧ (∀ n, n ≤ 999999999 → (D n).size ≤ 9) ∧ ∀ n, n ≤ 999999999 → ∀ w, Calls Tryd.prog 31 #[.int .i64 (n : Nat)] w (Ret (.string (D n)) w) :=
  ⟨fun n => ⟨(Lib.decDigits n).toArray⟩, fun _ => rfl, fun n h => (by have := dec_size 8 n (by omega); simpa [ByteArray.size] using this), fun n h w => rdec_any n (by omega) w⟩
set_option maxHeartbeats 12800000 in
theorem rrate_ok {Q R : Nat → Prop} (n0 n1 n2 n3 n4 n5 n6 n7 c : Nat) (kn kd : Int) (we pe : Xp) (ad1 ad2 : Option Addr) (cap1 cap2 : Nat) (w : World) (hT : Tree Q w we (.agg #[.int .i64 we.o, .int .i64 we.n, .slice ad1 we.ks.length cap1])) (hU : Tree R w pe (.agg #[.int .i64 pe.o, .int .i64 pe.n, .slice ad2 pe.ks.length cap2]))
    (hn0 : n0 ≤ 999999999) (hn1 : n1 ≤ 999999999) (hn2 : n2 ≤ 999999999) (hn3 : n3 ≤ 999999999) (hn4 : n4 ≤ 999999999) (hn5 : n5 ≤ 999999999) (hn6 : n6 ≤ 999999999) (hn7 : n7 ≤ 999999999) (hn8 : c ≤ 999999999) (hc : kn * (100 / kd) = (c : Int)) (hk : vldB kn kd = true) (v1 : validF we = true) (v2 : validF pe = true) (hcan : canR n0 n1 n2 n3 n4 n5 n6 n7 kn kd we pe = true) :
    Calls Tryd.prog 11 #[.agg #[.int .i64 (n0 : Nat), .int .i64 (n1 : Nat), .int .i64 (n2 : Nat), .int .i64 (n3 : Nat), .int .i64 (n4 : Nat), .int .i64 (n5 : Nat), .int .i64 (n6 : Nat), .int .i64 (n7 : Nat), .int .i64 kn, .int .i64 kd, .int .i64 we.o, .int .i64 we.n, .slice ad1 we.ks.length cap1, .int .i64 pe.o, .int .i64 pe.n, .slice ad2 pe.ks.length cap2]] w (Ret (.tuple #[.string ⟨(rateX n0 n1 n2 n3 n4 n5 n6 n7 c (txtE we) (txtE pe)).toArray⟩, .int .i64 0]) w) := by
  have hca := fun w1 (h : Below w.heap.size w w1) => can_any n0 n1 n2 n3 n4 n5 n6 n7 kn kd we pe ad1 ad2 cap1 cap2 w1 (hT.below h) (hU.below h)
  rw [hcan] at hca
  clear hcan
  obtain ⟨b1, b2, b3, b4⟩ := vldb_bd9 hk
  obtain ⟨m1, m2, m3, m4⟩ := kd_facts b1 b2
  have m6 : (kd == 0) = false := by rw [beq_eq_false_iff_ne]; omega
  have m7 : IntKind.i64.wrap (kn * (100 / kd)) = (c : Int) := (IntWalk.i64_in _ (mul_facts b1 b2 b3 b4)).trans hc
  have m9 : IntKind.i64.wrap (100 / kd) = 100 / kd := IntWalk.i64_in _ (by omega)
  obtain ⟨o1, q1, -⟩ := valid_is v1
  obtain ⟨o2, q2, -⟩ := valid_is v2
  have ht1 := fun w1 (h : Below w.heap.size w w1) => rtx_any Q we _ w1 o1 q1 (hT.below h)
  have ht2 := fun w1 (h : Below w.heap.size w w1) => rtx_any R pe _ w1 o2 q2 (hU.below h)
  obtain ⟨SW, ew, sw, htw⟩ : ∃ S : ByteArray, S = ⟨(txtE we).toArray⟩ ∧ S.size ≤ 4400 ∧ ∀ w1, Below w.heap.size w w1 → Calls Tryd.prog 26 #[.agg #[.int .i64 we.o, .int .i64 we.n, .slice ad1 we.ks.length cap1]] w1 (Ret (.string S) w1) := ⟨_, rfl, by have := txt_len v1; simpa [ByteArray.size] using this, ht1⟩
  obtain ⟨SP, ep, sp, htp⟩ : ∃ S : ByteArray, S = ⟨(txtE pe).toArray⟩ ∧ S.size ≤ 4400 ∧ ∀ w1, Below w.heap.size w w1 → Calls Tryd.prog 26 #[.agg #[.int .i64 pe.o, .int .i64 pe.n, .slice ad2 pe.ks.length cap2]] w1 (Ret (.string S) w1) := ⟨_, rfl, by have := txt_len v2; simpa [ByteArray.size] using this, ht2⟩
  obtain ⟨DB, hDe, hDs, hD⟩ := dec_bytes
  have e0 := hDe n0
  have s0 := hDs n0 hn0
  have e1 := hDe n1
  have s1 := hDs n1 hn1
  have e2 := hDe n2
  have s2 := hDs n2 hn2
  have e3 := hDe n3
  have s3 := hDs n3 hn3
  have e4 := hDe n4
  have s4 := hDs n4 hn4
  have e5 := hDe n5
  have s5 := hDs n5 hn5
  have e6 := hDe n6
  have s6 := hDs n6 hn6
  have e7 := hDe n7
  have s7 := hDs n7 hn7
  have e8 := hDe c
  have s8 := hDs c hn8
  clear hDe hDs
  obtain ⟨T1, hT1⟩ : ∃ T : ByteArray, T = (⟨#[114, 97, 116, 101, 32]⟩ : ByteArray) ++ DB n0 ++ ⟨#[32, 108, 101, 118, 101, 108, 32]⟩ ++ DB n1 ++ ⟨#[32, 107, 105, 110, 100, 32]⟩ ++ DB n2 := ⟨_, rfl⟩
  obtain ⟨T2, hT2⟩ : ∃ T : ByteArray, T = T1 ++ ⟨#[32, 110, 105, 103, 104, 116, 115, 32]⟩ ++ DB n3 ++ ⟨#[32, 116, 111, 32]⟩ ++ DB n4 := ⟨_, rfl⟩
  obtain ⟨T3, hT3⟩ : ∃ T : ByteArray, T = T2 ++ ⟨#[32, 115, 116, 97, 121, 32]⟩ ++ DB n5 ++ ⟨#[32, 116, 111, 32]⟩ ++ DB n6 ++ ⟨#[32, 97, 114, 114, 105, 118, 101, 32]⟩ ++ DB n7 := ⟨_, rfl⟩
  obtain ⟨T4, hT4⟩ : ∃ T : ByteArray, T = T3 ++ ⟨#[32, 107, 101, 101, 112, 32]⟩ ++ DB c ++ ⟨#[37]⟩ := ⟨_, rfl⟩
  obtain ⟨T5, hT5⟩ : ∃ T : ByteArray, T = T4 ++ ⟨#[32, 119, 104, 101, 110, 32]⟩ ++ SW ++ ⟨#[32, 112, 114, 105, 99, 101, 32]⟩ ++ SP ++ ⟨#[59]⟩ := ⟨_, rfl⟩
  have hfin := rate_bytes n0 n1 n2 n3 n4 n5 n6 n7 c (txtE we) (txtE pe) (DB n0) (DB n1) (DB n2) (DB n3) (DB n4) (DB n5) (DB n6) (DB n7) (DB c) SW SP T1 T2 T3 T4 T5 e0 e1 e2 e3 e4 e5 e6 e7 e8 ew ep hT1 hT2 hT3 hT4 hT5
  rw [← hfin]
  have zT1 : T1.size ≤ 45 := by rw [hT1]; simp only [ByteArray.size_append]; simp only [ByteArray.size, List.size_toArray, List.length_cons, List.length_nil] at *; omega
  have zT2 : T2.size ≤ 75 := by rw [hT2]; simp only [ByteArray.size_append]; simp only [ByteArray.size, List.size_toArray, List.length_cons, List.length_nil] at *; omega
  have zT3 : T3.size ≤ 120 := by rw [hT3]; simp only [ByteArray.size_append]; simp only [ByteArray.size, List.size_toArray, List.length_cons, List.length_nil] at *; omega
  have zT4 : T4.size ≤ 136 := by rw [hT4]; simp only [ByteArray.size_append]; simp only [ByteArray.size, List.size_toArray, List.length_cons, List.length_nil] at *; omega
  have zT5 : T5.size ≤ 8950 := by rw [hT5]; simp only [ByteArray.size_append]; simp only [ByteArray.size, List.size_toArray, List.length_cons, List.length_nil] at *; omega
  clear hfin e0 e1 e2 e3 e4 e5 e6 e7 e8 ew ep ht1 ht2 o1 o2 q1 q2 v1 v2 hc hk
  have y0 : ¬ (9223372036854775807 < 5 + (DB n0).size) := by omega
  have x0 : ¬ (9223372036854775807 < (5 : Int) + ((DB n0).size : Int)) := by omega
  have y1 : ¬ (9223372036854775807 < 5 + (DB n0).size + 7) := by omega
  have x1 : ¬ (9223372036854775807 < (5 : Int) + ((DB n0).size : Int) + 7) := by omega
  have y2 : ¬ (9223372036854775807 < 5 + (DB n0).size + 7 + (DB n1).size) := by omega
  have x2 : ¬ (9223372036854775807 < (5 : Int) + ((DB n0).size : Int) + 7 + ((DB n1).size : Int)) := by omega
  have y3 : ¬ (9223372036854775807 < 5 + (DB n0).size + 7 + (DB n1).size + 6) := by omega
  have x3 : ¬ (9223372036854775807 < (5 : Int) + ((DB n0).size : Int) + 7 + ((DB n1).size : Int) + 6) := by omega
  have y4 : ¬ (9223372036854775807 < 5 + (DB n0).size + 7 + (DB n1).size + 6 + (DB n2).size) := by omega
  have x4 : ¬ (9223372036854775807 < (5 : Int) + ((DB n0).size : Int) + 7 + ((DB n1).size : Int) + 6 + ((DB n2).size : Int)) := by omega
  have y5 : ¬ (9223372036854775807 < T1.size + 8) := by omega
  have x5 : ¬ (9223372036854775807 < (T1.size : Int) + 8) := by omega
  have y6 : ¬ (9223372036854775807 < T1.size + 8 + (DB n3).size) := by omega
  have x6 : ¬ (9223372036854775807 < (T1.size : Int) + 8 + ((DB n3).size : Int)) := by omega
  have y7 : ¬ (9223372036854775807 < T1.size + 8 + (DB n3).size + 4) := by omega
  have x7 : ¬ (9223372036854775807 < (T1.size : Int) + 8 + ((DB n3).size : Int) + 4) := by omega
  have y8 : ¬ (9223372036854775807 < T1.size + 8 + (DB n3).size + 4 + (DB n4).size) := by omega
  have x8 : ¬ (9223372036854775807 < (T1.size : Int) + 8 + ((DB n3).size : Int) + 4 + ((DB n4).size : Int)) := by omega
  have y9 : ¬ (9223372036854775807 < T2.size + 6) := by omega
  have x9 : ¬ (9223372036854775807 < (T2.size : Int) + 6) := by omega
  have y10 : ¬ (9223372036854775807 < T2.size + 6 + (DB n5).size) := by omega
  have x10 : ¬ (9223372036854775807 < (T2.size : Int) + 6 + ((DB n5).size : Int)) := by omega
  have y11 : ¬ (9223372036854775807 < T2.size + 6 + (DB n5).size + 4) := by omega
  have x11 : ¬ (9223372036854775807 < (T2.size : Int) + 6 + ((DB n5).size : Int) + 4) := by omega
  have y12 : ¬ (9223372036854775807 < T2.size + 6 + (DB n5).size + 4 + (DB n6).size) := by omega
  have x12 : ¬ (9223372036854775807 < (T2.size : Int) + 6 + ((DB n5).size : Int) + 4 + ((DB n6).size : Int)) := by omega
  have y13 : ¬ (9223372036854775807 < T2.size + 6 + (DB n5).size + 4 + (DB n6).size + 8) := by omega
  have x13 : ¬ (9223372036854775807 < (T2.size : Int) + 6 + ((DB n5).size : Int) + 4 + ((DB n6).size : Int) + 8) := by omega
  have y14 : ¬ (9223372036854775807 < T2.size + 6 + (DB n5).size + 4 + (DB n6).size + 8 + (DB n7).size) := by omega
  have x14 : ¬ (9223372036854775807 < (T2.size : Int) + 6 + ((DB n5).size : Int) + 4 + ((DB n6).size : Int) + 8 + ((DB n7).size : Int)) := by omega
  have y15 : ¬ (9223372036854775807 < T3.size + 6) := by omega
  have x15 : ¬ (9223372036854775807 < (T3.size : Int) + 6) := by omega
  have y16 : ¬ (9223372036854775807 < T3.size + 6 + (DB c).size) := by omega
  have x16 : ¬ (9223372036854775807 < (T3.size : Int) + 6 + ((DB c).size : Int)) := by omega
  have y17 : ¬ (9223372036854775807 < T3.size + 6 + (DB c).size + 1) := by omega
  have x17 : ¬ (9223372036854775807 < (T3.size : Int) + 6 + ((DB c).size : Int) + 1) := by omega
  have y18 : ¬ (9223372036854775807 < T4.size + 6) := by omega
  have x18 : ¬ (9223372036854775807 < (T4.size : Int) + 6) := by omega
  have y19 : ¬ (9223372036854775807 < T4.size + 6 + SW.size) := by omega
  have x19 : ¬ (9223372036854775807 < (T4.size : Int) + 6 + (SW.size : Int)) := by omega
  have y20 : ¬ (9223372036854775807 < T4.size + 6 + SW.size + 7) := by omega
  have x20 : ¬ (9223372036854775807 < (T4.size : Int) + 6 + (SW.size : Int) + 7) := by omega
  have y21 : ¬ (9223372036854775807 < T4.size + 6 + SW.size + 7 + SP.size) := by omega
  have x21 : ¬ (9223372036854775807 < (T4.size : Int) + 6 + (SW.size : Int) + 7 + (SP.size : Int)) := by omega
  have y22 : ¬ (9223372036854775807 < T4.size + 6 + SW.size + 7 + SP.size + 1) := by omega
  have x22 : ¬ (9223372036854775807 < (T4.size : Int) + 6 + (SW.size : Int) + 7 + (SP.size : Int) + 1) := by omega
  clear s0 s1 s2 s3 s4 s5 s6 s7 s8 sw sp zT1 zT2 zT3 zT4 zT5
  obtain ⟨W, hW⟩ : ∃ W, W = w.alloc (.cells #[.int .i64 (n0 : Nat), .int .i64 (n1 : Nat), .int .i64 (n2 : Nat), .int .i64 (n3 : Nat), .int .i64 (n4 : Nat), .int .i64 (n5 : Nat), .int .i64 (n6 : Nat), .int .i64 (n7 : Nat), .int .i64 kn, .int .i64 kd, .int .i64 we.o, .int .i64 we.n, .slice ad1 we.ks.length cap1, .int .i64 pe.o, .int .i64 pe.n, .slice ad2 pe.ks.length cap2] 30) := ⟨_, rfl⟩
  have o1 : Own W w.heap.size [.int .i64 (n0 : Nat), .int .i64 (n1 : Nat), .int .i64 (n2 : Nat), .int .i64 (n3 : Nat), .int .i64 (n4 : Nat), .int .i64 (n5 : Nat), .int .i64 (n6 : Nat), .int .i64 (n7 : Nat), .int .i64 kn, .int .i64 kd, .int .i64 we.o, .int .i64 we.n, .slice ad1 we.ks.length cap1, .int .i64 pe.o, .int .i64 pe.n, .slice ad2 pe.ks.length cap2] := by rw [hW]; exact Own.new w #[.int .i64 (n0 : Nat), .int .i64 (n1 : Nat), .int .i64 (n2 : Nat), .int .i64 (n3 : Nat), .int .i64 (n4 : Nat), .int .i64 (n5 : Nat), .int .i64 (n6 : Nat), .int .i64 (n7 : Nat), .int .i64 kn, .int .i64 kd, .int .i64 we.o, .int .i64 we.n, .slice ad1 we.ks.length cap1, .int .i64 pe.o, .int .i64 pe.n, .slice ad2 pe.ks.length cap2] 30
  have hb : Below w.heap.size w W := by rw [hW]; exact balloc (Below.refl _ _) _
  obtain ⟨c0, c1, c2, c3, c4, c5, c6, c7, c8, c9, c10, c11, c12, c13, c14, c15, -⟩ := own_16 o1
  have HT1 := Lib.hid hT1
  clear hT1
  have HT2 := Lib.hid hT2
  clear hT2
  have HT3 := Lib.hid hT3
  clear hT3
  have HT4 := Lib.hid hT4
  clear hT4
  have HT5 := Lib.hid hT5
  clear hT5
  go_enter Tryd.func11, Tryd.ntmps11
  go_wp2_with fail
  rw [← hW]
  clear hW
  try go_wp2_with fail
  refine (hca _ hb).mono ?_
  rintro e w1 ⟨rfl, hx⟩
  clear c0 c1 c2 c3 c4 c5 c6 c7 c8 c9 c10 c11 c12 c13 c14 c15 hca
  replace o1 := o1.below hx
  replace hb := hb.trans (hx.mono hb.size)
  obtain ⟨c0, c1, c2, c3, c4, c5, c6, c7, c8, c9, c10, c11, c12, c13, c14, c15, cz⟩ := own_16 o1
  clear hx
  go_wp2_with fail
  refine wp_region_up (by kernel_rfl) (by kernel_rfl) ?_
  repeat (go_big_quiet_step (first | (go_at_call 31; exact Ret.up (hD _ (by assumption) _))))
  refine wpQuiet_nil ?_
  rintro xT1 ⟨g, rfl⟩
  have hx := up_below _ g
  generalize up _ g = xT1 at hx ⊢
  clear c0 c1 c2 c3 c4 c5 c6 c7 c8 c9 c10 c11 c12 c13 c14 c15 cz
  replace o1 := o1.below hx
  replace hb := hb.trans (hx.mono hb.size)
  obtain ⟨c0, c1, c2, c3, c4, c5, c6, c7, c8, c9, c10, c11, c12, c13, c14, c15, cz⟩ := own_16 o1
  clear hx
  rw [← HT1.out]
  go_wp2_with fail
  refine wp_region_up (by kernel_rfl) (by kernel_rfl) ?_
  repeat (go_big_quiet_step (first | (go_at_call 31; exact Ret.up (hD _ (by assumption) _))))
  refine wpQuiet_nil ?_
  rintro xT2 ⟨g, rfl⟩
  have hx := up_below _ g
  generalize up _ g = xT2 at hx ⊢
  clear c0 c1 c2 c3 c4 c5 c6 c7 c8 c9 c10 c11 c12 c13 c14 c15 cz
  replace o1 := o1.below hx
  replace hb := hb.trans (hx.mono hb.size)
  obtain ⟨c0, c1, c2, c3, c4, c5, c6, c7, c8, c9, c10, c11, c12, c13, c14, c15, cz⟩ := own_16 o1
  clear hx
  rw [← HT2.out]
  go_wp2_with fail
  as_aux_lemma =>
    refine wp_region_up (by kernel_rfl) (by kernel_rfl) ?_
    repeat (go_big_quiet_step (first | (go_at_call 31; exact Ret.up (hD _ (by assumption) _))))
    refine wpQuiet_nil ?_
    rintro xT3 ⟨g, rfl⟩
    have hx := up_below _ g
    generalize up _ g = xT3 at hx ⊢
    clear c0 c1 c2 c3 c4 c5 c6 c7 c8 c9 c10 c11 c12 c13 c14 c15 cz
    replace o1 := o1.below hx
    replace hb := hb.trans (hx.mono hb.size)
    obtain ⟨c0, c1, c2, c3, c4, c5, c6, c7, c8, c9, c10, c11, c12, c13, c14, c15, cz⟩ := own_16 o1
    clear hx
    rw [← HT3.out]
    go_wp2_with fail
    refine wp_region_up (by kernel_rfl) (by kernel_rfl) ?_
    repeat (go_big_quiet_step (first | (go_at_call 31; exact Ret.up (hD _ (by assumption) _))))
    refine wpQuiet_nil ?_
    rintro xT4 ⟨g, rfl⟩
    have hx := up_below _ g
    generalize up _ g = xT4 at hx ⊢
    clear c0 c1 c2 c3 c4 c5 c6 c7 c8 c9 c10 c11 c12 c13 c14 c15 cz
    replace o1 := o1.below hx
    replace hb := hb.trans (hx.mono hb.size)
    obtain ⟨c0, c1, c2, c3, c4, c5, c6, c7, c8, c9, c10, c11, c12, c13, c14, c15, cz⟩ := own_16 o1
    clear hx
    rw [← HT4.out]
    go_wp2_with fail
    as_aux_lemma =>
      refine wp_region_up (by kernel_rfl) (by kernel_rfl) ?_
      repeat (go_big_quiet_step (first | (go_at_call 26; with_reducible exact Ret.up (htw _ (hb.trans ((up_below _ _).mono hb.size)))) | (go_at_call 26; with_reducible exact Ret.up (htp _ (hb.trans ((up_below _ _).mono hb.size))))))
      refine wpQuiet_nil ?_
      rintro xT5 ⟨g, rfl⟩
      have hx := up_below _ g
      generalize up _ g = xT5 at hx ⊢
      clear c0 c1 c2 c3 c4 c5 c6 c7 c8 c9 c10 c11 c12 c13 c14 c15 cz
      replace o1 := o1.below hx
      replace hb := hb.trans (hx.mono hb.size)
      obtain ⟨c0, c1, c2, c3, c4, c5, c6, c7, c8, c9, c10, c11, c12, c13, c14, c15, cz⟩ := own_16 o1
      clear hx
      rw [← HT5.out]
      go_wp2_with fail
      go_ret2
      exact Ret.mk rfl hb
set_option maxHeartbeats 1600000 in
theorem rrate_any {Q R : Nat → Prop} (a0 a1 a2 a3 a4 a5 a6 a7 kn kd : Int) (we pe : Xp) (ad1 ad2 : Option Addr) (cap1 cap2 : Nat) (w : World) (hT : Tree Q w we (.agg #[.int .i64 we.o, .int .i64 we.n, .slice ad1 we.ks.length cap1])) (hU : Tree R w pe (.agg #[.int .i64 pe.o, .int .i64 pe.n, .slice ad2 pe.ks.length cap2])) :
    Calls Tryd.prog 11 #[.agg #[.int .i64 a0, .int .i64 a1, .int .i64 a2, .int .i64 a3, .int .i64 a4, .int .i64 a5, .int .i64 a6, .int .i64 a7, .int .i64 kn, .int .i64 kd, .int .i64 we.o, .int .i64 we.n, .slice ad1 we.ks.length cap1, .int .i64 pe.o, .int .i64 pe.n, .slice ad2 pe.ks.length cap2]] w (Ret (.tuple #[.string ⟨(rateP a0 a1 a2 a3 a4 a5 a6 a7 kn kd we pe).1.toArray⟩, .int .i64 (rateP a0 a1 a2 a3 a4 a5 a6 a7 kn kd we pe).2]) w) := by
  rw [rateP_can]
  cases hcan : canR a0 a1 a2 a3 a4 a5 a6 a7 kn kd we pe with
  | false =>
    have hca := fun w1 (h : Below w.heap.size w w1) => can_any a0 a1 a2 a3 a4 a5 a6 a7 kn kd we pe ad1 ad2 cap1 cap2 w1 (hT.below h) (hU.below h)
    rw [hcan] at hca
    rw [if_neg (by decide)]
    obtain ⟨W, hW⟩ : ∃ W, W = w.alloc (.cells #[.int .i64 a0, .int .i64 a1, .int .i64 a2, .int .i64 a3, .int .i64 a4, .int .i64 a5, .int .i64 a6, .int .i64 a7, .int .i64 kn, .int .i64 kd, .int .i64 we.o, .int .i64 we.n, .slice ad1 we.ks.length cap1, .int .i64 pe.o, .int .i64 pe.n, .slice ad2 pe.ks.length cap2] 30) := ⟨_, rfl⟩
    have o1 : Own W w.heap.size [.int .i64 a0, .int .i64 a1, .int .i64 a2, .int .i64 a3, .int .i64 a4, .int .i64 a5, .int .i64 a6, .int .i64 a7, .int .i64 kn, .int .i64 kd, .int .i64 we.o, .int .i64 we.n, .slice ad1 we.ks.length cap1, .int .i64 pe.o, .int .i64 pe.n, .slice ad2 pe.ks.length cap2] := by rw [hW]; exact Own.new w #[.int .i64 a0, .int .i64 a1, .int .i64 a2, .int .i64 a3, .int .i64 a4, .int .i64 a5, .int .i64 a6, .int .i64 a7, .int .i64 kn, .int .i64 kd, .int .i64 we.o, .int .i64 we.n, .slice ad1 we.ks.length cap1, .int .i64 pe.o, .int .i64 pe.n, .slice ad2 pe.ks.length cap2] 30
    have hb : Below w.heap.size w W := by rw [hW]; exact balloc (Below.refl _ _) _
    obtain ⟨c0, c1, c2, c3, c4, c5, c6, c7, c8, c9, c10, c11, c12, c13, c14, c15, -⟩ := own_16 o1
    go_enter Tryd.func11, Tryd.ntmps11
    go_wp2_with fail
    rw [← hW]
    clear hW
    try go_wp2_with fail
    refine (hca _ hb).mono ?_
    rintro e w1 ⟨rfl, hx⟩
    go_wp2_with fail
    go_ret2
    exact Ret.mk rfl (hb.trans (hx.mono hb.size))
  | true =>
    rw [if_pos rfl]
    have hcan0 := hcan
    unfold canR at hcan
    simp only [Bool.and_eq_true] at hcan
    obtain ⟨⟨⟨⟨⟨⟨⟨⟨⟨⟨h0, h1⟩, h2⟩, h3⟩, h4⟩, h5⟩, h6⟩, h7⟩, hkp⟩, v1⟩, v2⟩ := hcan
    unfold keepB at hkp
    simp only [Bool.and_eq_true] at hkp
    obtain ⟨⟨hk, -⟩, h8⟩ := hkp
    obtain ⟨n0, rfl, b0⟩ := nine_nat h0
    obtain ⟨n1, rfl, b1⟩ := nine_nat h1
    obtain ⟨n2, rfl, b2⟩ := nine_nat h2
    obtain ⟨n3, rfl, b3⟩ := nine_nat h3
    obtain ⟨n4, rfl, b4⟩ := nine_nat h4
    obtain ⟨n5, rfl, b5⟩ := nine_nat h5
    obtain ⟨n6, rfl, b6⟩ := nine_nat h6
    obtain ⟨n7, rfl, b7⟩ := nine_nat h7
    obtain ⟨c, hc, b8⟩ := nine_nat h8
    have hfin := rrate_ok n0 n1 n2 n3 n4 n5 n6 n7 c kn kd we pe ad1 ad2 cap1 cap2 w hT hU b0 b1 b2 b3 b4 b5 b6 b7 b8 hc hk v1 v2 hcan0
    simp only [hc, Int.toNat_natCast]
    exact hfin
end Go.Proofs.YtlkefcbkpohpgaaDoor
