/-
  The reference's Can: whether a rate can be written.
-/
import Derived.Test.YtlkefcbkpohpgaaGreatDoorQph
import Derived.Test.YtlkefcbkpohpgaaGreatDoorQpp
import Derived.Test.YtlkefcbkpohpgaaGreatDoorQq
import Derived.Test.YtlkefcbkpohpgaaGreatDoorRef01B
import Derived.BigQuiet
namespace Go.Proofs.YtlkefcbkpohpgaaGreatDoor
open Go.RowKit Go.Shelf
set_option maxRecDepth 100000
set_option linter.unusedVariables false
set_option linter.unusedSimpArgs false

def canR (a0 a1 a2 a3 a4 a5 a6 a7 kn kd : Int) (we pe : Xp) : Bool := nineB a0 && nineB a1 && nineB a2 && nineB a3 && nineB a4 && nineB a5 && nineB a6 && nineB a7 && keepB kn kd && validF we && validF pe
theorem rateP_can (a0 a1 a2 a3 a4 a5 a6 a7 kn kd : Int) (we pe : Xp) : rateP a0 a1 a2 a3 a4 a5 a6 a7 kn kd we pe =
    if canR a0 a1 a2 a3 a4 a5 a6 a7 kn kd we pe = true then (rateX a0.toNat a1.toNat a2.toNat a3.toNat a4.toNat a5.toNat a6.toNat a7.toNat (kn * (100 / kd)).toNat (txtE we) (txtE pe), 0) else ([], 1) := rfl
set_option maxHeartbeats 400000 in
theorem nine_ref (n : Int) (w : World) : Calls Tryz.prog 53 #[.int .i64 n] w (Ret (.bool (nineB n)) w) := by
  by_cases h1 : 0 ≤ n
  · by_cases h2 : n ≤ 999999999
    · have e : nineB n = true := by simp [nineB]; omega
      have d1 : decide (0 ≤ n) = true := by rw [decide_eq_true_iff]; exact h1
      have d2 : decide (n ≤ 999999999) = true := by rw [decide_eq_true_iff]; exact h2
      rw [e]; clear e
      go_enter Tryz.func53, Tryz.ntmps53
      go_wp2_with fail
      go_ret
      exact Ret.mk rfl (by (repeat (first | exact Below.refl _ _ | assumption | refine Below.drew ?_ | refine below_drewN ?_ _ | refine Below.setCell ?_ (by first | omega | (simp <;> omega)) _ | refine Below.alloc ?_ (by first | omega | (simp <;> omega)) _)))
    · have e : nineB n = false := by simp [nineB]; omega
      have d1 : decide (0 ≤ n) = true := by rw [decide_eq_true_iff]; exact h1
      have d2 : decide (n ≤ 999999999) = false := by rw [decide_eq_false_iff_not]; exact h2
      rw [e]; clear e
      go_enter Tryz.func53, Tryz.ntmps53
      go_wp2_with fail
      go_ret
      exact Ret.mk rfl (by (repeat (first | exact Below.refl _ _ | assumption | refine Below.drew ?_ | refine below_drewN ?_ _ | refine Below.setCell ?_ (by first | omega | (simp <;> omega)) _ | refine Below.alloc ?_ (by first | omega | (simp <;> omega)) _)))
  · have e : nineB n = false := by simp [nineB]; omega
    have d1 : decide (0 ≤ n) = false := by rw [decide_eq_false_iff_not]; exact h1
    rw [e]; clear e
    go_enter Tryz.func53, Tryz.ntmps53
    go_wp2_with fail
    go_ret
    exact Ret.mk rfl (by (repeat (first | exact Below.refl _ _ | assumption | refine Below.drew ?_ | refine below_drewN ?_ _ | refine Below.setCell ?_ (by first | omega | (simp <;> omega)) _ | refine Below.alloc ?_ (by first | omega | (simp <;> omega)) _)))
set_option maxHeartbeats 1600000 in
theorem can_n0 {Q R : Nat → Prop} (a0 a1 a2 a3 a4 a5 a6 a7 kn kd : Int) (we pe : Xp) (ad1 ad2 : Option Addr) (cap1 cap2 : Nat) (w : World) (hT : Tree Q w we (.agg #[.int .i64 we.o, .int .i64 we.n, .slice ad1 we.ks.length cap1])) (hU : Tree R w pe (.agg #[.int .i64 pe.o, .int .i64 pe.n, .slice ad2 pe.ks.length cap2])) (n0 : nineB a0 = false) : Calls Tryz.prog 26 #[.agg #[.int .i64 a0, .int .i64 a1, .int .i64 a2, .int .i64 a3, .int .i64 a4, .int .i64 a5, .int .i64 a6, .int .i64 a7, .int .i64 kn, .int .i64 kd, .int .i64 we.o, .int .i64 we.n, .slice ad1 we.ks.length cap1, .int .i64 pe.o, .int .i64 pe.n, .slice ad2 pe.ks.length cap2]] w (Ret (.bool false) w) := by
  obtain ⟨W, hW⟩ : ∃ W, W = w.alloc (.cells #[.int .i64 a0, .int .i64 a1, .int .i64 a2, .int .i64 a3, .int .i64 a4, .int .i64 a5, .int .i64 a6, .int .i64 a7, .int .i64 kn, .int .i64 kd, .int .i64 we.o, .int .i64 we.n, .slice ad1 we.ks.length cap1, .int .i64 pe.o, .int .i64 pe.n, .slice ad2 pe.ks.length cap2] 52) := ⟨_, rfl⟩
  have o1 : Own W w.heap.size [.int .i64 a0, .int .i64 a1, .int .i64 a2, .int .i64 a3, .int .i64 a4, .int .i64 a5, .int .i64 a6, .int .i64 a7, .int .i64 kn, .int .i64 kd, .int .i64 we.o, .int .i64 we.n, .slice ad1 we.ks.length cap1, .int .i64 pe.o, .int .i64 pe.n, .slice ad2 pe.ks.length cap2] := by rw [hW]; exact Own.new w #[.int .i64 a0, .int .i64 a1, .int .i64 a2, .int .i64 a3, .int .i64 a4, .int .i64 a5, .int .i64 a6, .int .i64 a7, .int .i64 kn, .int .i64 kd, .int .i64 we.o, .int .i64 we.n, .slice ad1 we.ks.length cap1, .int .i64 pe.o, .int .i64 pe.n, .slice ad2 pe.ks.length cap2] 52
  have hb : Below w.heap.size w W := by rw [hW]; exact balloc (Below.refl _ _) _
  obtain ⟨c0, c1, c2, c3, c4, c5, c6, c7, c8, c9, c10, c11, c12, c13, c14, c15, -⟩ := own_16 o1
  go_enter Tryz.func26, Tryz.ntmps26
  go_wp2_with fail
  rw [← hW]
  clear hW
  try go_wp2_with fail
  refine (nine_ref a0 _).mono ?_
  rintro e w1 ⟨rfl, hx⟩
  rw [n0]
  clear c0 c1 c2 c3 c4 c5 c6 c7 c8 c9 c10 c11 c12 c13 c14 c15
  replace o1 := o1.below hx
  replace hb := hb.trans (hx.mono hb.size)
  obtain ⟨c0, c1, c2, c3, c4, c5, c6, c7, c8, c9, c10, c11, c12, c13, c14, c15, -⟩ := own_16 o1
  clear hx
  go_wp2_with fail
  go_ret
  exact Ret.mk rfl hb
set_option maxHeartbeats 1600000 in
theorem can_n1 {Q R : Nat → Prop} (a0 a1 a2 a3 a4 a5 a6 a7 kn kd : Int) (we pe : Xp) (ad1 ad2 : Option Addr) (cap1 cap2 : Nat) (w : World) (hT : Tree Q w we (.agg #[.int .i64 we.o, .int .i64 we.n, .slice ad1 we.ks.length cap1])) (hU : Tree R w pe (.agg #[.int .i64 pe.o, .int .i64 pe.n, .slice ad2 pe.ks.length cap2])) (n0 : nineB a0 = true) (n1 : nineB a1 = false) : Calls Tryz.prog 26 #[.agg #[.int .i64 a0, .int .i64 a1, .int .i64 a2, .int .i64 a3, .int .i64 a4, .int .i64 a5, .int .i64 a6, .int .i64 a7, .int .i64 kn, .int .i64 kd, .int .i64 we.o, .int .i64 we.n, .slice ad1 we.ks.length cap1, .int .i64 pe.o, .int .i64 pe.n, .slice ad2 pe.ks.length cap2]] w (Ret (.bool false) w) := by
  obtain ⟨W, hW⟩ : ∃ W, W = w.alloc (.cells #[.int .i64 a0, .int .i64 a1, .int .i64 a2, .int .i64 a3, .int .i64 a4, .int .i64 a5, .int .i64 a6, .int .i64 a7, .int .i64 kn, .int .i64 kd, .int .i64 we.o, .int .i64 we.n, .slice ad1 we.ks.length cap1, .int .i64 pe.o, .int .i64 pe.n, .slice ad2 pe.ks.length cap2] 52) := ⟨_, rfl⟩
  have o1 : Own W w.heap.size [.int .i64 a0, .int .i64 a1, .int .i64 a2, .int .i64 a3, .int .i64 a4, .int .i64 a5, .int .i64 a6, .int .i64 a7, .int .i64 kn, .int .i64 kd, .int .i64 we.o, .int .i64 we.n, .slice ad1 we.ks.length cap1, .int .i64 pe.o, .int .i64 pe.n, .slice ad2 pe.ks.length cap2] := by rw [hW]; exact Own.new w #[.int .i64 a0, .int .i64 a1, .int .i64 a2, .int .i64 a3, .int .i64 a4, .int .i64 a5, .int .i64 a6, .int .i64 a7, .int .i64 kn, .int .i64 kd, .int .i64 we.o, .int .i64 we.n, .slice ad1 we.ks.length cap1, .int .i64 pe.o, .int .i64 pe.n, .slice ad2 pe.ks.length cap2] 52
  have hb : Below w.heap.size w W := by rw [hW]; exact balloc (Below.refl _ _) _
  obtain ⟨c0, c1, c2, c3, c4, c5, c6, c7, c8, c9, c10, c11, c12, c13, c14, c15, -⟩ := own_16 o1
  go_enter Tryz.func26, Tryz.ntmps26
  go_wp2_with fail
  rw [← hW]
  clear hW
  try go_wp2_with fail
  refine (nine_ref a0 _).mono ?_
  rintro e w1 ⟨rfl, hx⟩
  rw [n0]
  clear c0 c1 c2 c3 c4 c5 c6 c7 c8 c9 c10 c11 c12 c13 c14 c15
  replace o1 := o1.below hx
  replace hb := hb.trans (hx.mono hb.size)
  obtain ⟨c0, c1, c2, c3, c4, c5, c6, c7, c8, c9, c10, c11, c12, c13, c14, c15, -⟩ := own_16 o1
  clear hx
  go_wp2_with fail
  refine (nine_ref a1 _).mono ?_
  rintro e w2 ⟨rfl, hx⟩
  rw [n1]
  clear c0 c1 c2 c3 c4 c5 c6 c7 c8 c9 c10 c11 c12 c13 c14 c15
  replace o1 := o1.below hx
  replace hb := hb.trans (hx.mono hb.size)
  obtain ⟨c0, c1, c2, c3, c4, c5, c6, c7, c8, c9, c10, c11, c12, c13, c14, c15, -⟩ := own_16 o1
  clear hx
  go_wp2_with fail
  go_ret
  exact Ret.mk rfl hb
set_option maxHeartbeats 1600000 in
theorem can_n2 {Q R : Nat → Prop} (a0 a1 a2 a3 a4 a5 a6 a7 kn kd : Int) (we pe : Xp) (ad1 ad2 : Option Addr) (cap1 cap2 : Nat) (w : World) (hT : Tree Q w we (.agg #[.int .i64 we.o, .int .i64 we.n, .slice ad1 we.ks.length cap1])) (hU : Tree R w pe (.agg #[.int .i64 pe.o, .int .i64 pe.n, .slice ad2 pe.ks.length cap2])) (n0 : nineB a0 = true) (n1 : nineB a1 = true) (n2 : nineB a2 = false) : Calls Tryz.prog 26 #[.agg #[.int .i64 a0, .int .i64 a1, .int .i64 a2, .int .i64 a3, .int .i64 a4, .int .i64 a5, .int .i64 a6, .int .i64 a7, .int .i64 kn, .int .i64 kd, .int .i64 we.o, .int .i64 we.n, .slice ad1 we.ks.length cap1, .int .i64 pe.o, .int .i64 pe.n, .slice ad2 pe.ks.length cap2]] w (Ret (.bool false) w) := by
  obtain ⟨W, hW⟩ : ∃ W, W = w.alloc (.cells #[.int .i64 a0, .int .i64 a1, .int .i64 a2, .int .i64 a3, .int .i64 a4, .int .i64 a5, .int .i64 a6, .int .i64 a7, .int .i64 kn, .int .i64 kd, .int .i64 we.o, .int .i64 we.n, .slice ad1 we.ks.length cap1, .int .i64 pe.o, .int .i64 pe.n, .slice ad2 pe.ks.length cap2] 52) := ⟨_, rfl⟩
  have o1 : Own W w.heap.size [.int .i64 a0, .int .i64 a1, .int .i64 a2, .int .i64 a3, .int .i64 a4, .int .i64 a5, .int .i64 a6, .int .i64 a7, .int .i64 kn, .int .i64 kd, .int .i64 we.o, .int .i64 we.n, .slice ad1 we.ks.length cap1, .int .i64 pe.o, .int .i64 pe.n, .slice ad2 pe.ks.length cap2] := by rw [hW]; exact Own.new w #[.int .i64 a0, .int .i64 a1, .int .i64 a2, .int .i64 a3, .int .i64 a4, .int .i64 a5, .int .i64 a6, .int .i64 a7, .int .i64 kn, .int .i64 kd, .int .i64 we.o, .int .i64 we.n, .slice ad1 we.ks.length cap1, .int .i64 pe.o, .int .i64 pe.n, .slice ad2 pe.ks.length cap2] 52
  have hb : Below w.heap.size w W := by rw [hW]; exact balloc (Below.refl _ _) _
  obtain ⟨c0, c1, c2, c3, c4, c5, c6, c7, c8, c9, c10, c11, c12, c13, c14, c15, -⟩ := own_16 o1
  go_enter Tryz.func26, Tryz.ntmps26
  go_wp2_with fail
  rw [← hW]
  clear hW
  try go_wp2_with fail
  refine (nine_ref a0 _).mono ?_
  rintro e w1 ⟨rfl, hx⟩
  rw [n0]
  clear c0 c1 c2 c3 c4 c5 c6 c7 c8 c9 c10 c11 c12 c13 c14 c15
  replace o1 := o1.below hx
  replace hb := hb.trans (hx.mono hb.size)
  obtain ⟨c0, c1, c2, c3, c4, c5, c6, c7, c8, c9, c10, c11, c12, c13, c14, c15, -⟩ := own_16 o1
  clear hx
  go_wp2_with fail
  refine (nine_ref a1 _).mono ?_
  rintro e w2 ⟨rfl, hx⟩
  rw [n1]
  clear c0 c1 c2 c3 c4 c5 c6 c7 c8 c9 c10 c11 c12 c13 c14 c15
  replace o1 := o1.below hx
  replace hb := hb.trans (hx.mono hb.size)
  obtain ⟨c0, c1, c2, c3, c4, c5, c6, c7, c8, c9, c10, c11, c12, c13, c14, c15, -⟩ := own_16 o1
  clear hx
  go_wp2_with fail
  refine (nine_ref a2 _).mono ?_
  rintro e w3 ⟨rfl, hx⟩
  rw [n2]
  clear c0 c1 c2 c3 c4 c5 c6 c7 c8 c9 c10 c11 c12 c13 c14 c15
  replace o1 := o1.below hx
  replace hb := hb.trans (hx.mono hb.size)
  obtain ⟨c0, c1, c2, c3, c4, c5, c6, c7, c8, c9, c10, c11, c12, c13, c14, c15, -⟩ := own_16 o1
  clear hx
  go_wp2_with fail
  go_ret
  exact Ret.mk rfl hb
set_option maxHeartbeats 1600000 in
theorem can_n3 {Q R : Nat → Prop} (a0 a1 a2 a3 a4 a5 a6 a7 kn kd : Int) (we pe : Xp) (ad1 ad2 : Option Addr) (cap1 cap2 : Nat) (w : World) (hT : Tree Q w we (.agg #[.int .i64 we.o, .int .i64 we.n, .slice ad1 we.ks.length cap1])) (hU : Tree R w pe (.agg #[.int .i64 pe.o, .int .i64 pe.n, .slice ad2 pe.ks.length cap2])) (n0 : nineB a0 = true) (n1 : nineB a1 = true) (n2 : nineB a2 = true) (n3 : nineB a3 = false) : Calls Tryz.prog 26 #[.agg #[.int .i64 a0, .int .i64 a1, .int .i64 a2, .int .i64 a3, .int .i64 a4, .int .i64 a5, .int .i64 a6, .int .i64 a7, .int .i64 kn, .int .i64 kd, .int .i64 we.o, .int .i64 we.n, .slice ad1 we.ks.length cap1, .int .i64 pe.o, .int .i64 pe.n, .slice ad2 pe.ks.length cap2]] w (Ret (.bool false) w) := by
  obtain ⟨W, hW⟩ : ∃ W, W = w.alloc (.cells #[.int .i64 a0, .int .i64 a1, .int .i64 a2, .int .i64 a3, .int .i64 a4, .int .i64 a5, .int .i64 a6, .int .i64 a7, .int .i64 kn, .int .i64 kd, .int .i64 we.o, .int .i64 we.n, .slice ad1 we.ks.length cap1, .int .i64 pe.o, .int .i64 pe.n, .slice ad2 pe.ks.length cap2] 52) := ⟨_, rfl⟩
  have o1 : Own W w.heap.size [.int .i64 a0, .int .i64 a1, .int .i64 a2, .int .i64 a3, .int .i64 a4, .int .i64 a5, .int .i64 a6, .int .i64 a7, .int .i64 kn, .int .i64 kd, .int .i64 we.o, .int .i64 we.n, .slice ad1 we.ks.length cap1, .int .i64 pe.o, .int .i64 pe.n, .slice ad2 pe.ks.length cap2] := by rw [hW]; exact Own.new w #[.int .i64 a0, .int .i64 a1, .int .i64 a2, .int .i64 a3, .int .i64 a4, .int .i64 a5, .int .i64 a6, .int .i64 a7, .int .i64 kn, .int .i64 kd, .int .i64 we.o, .int .i64 we.n, .slice ad1 we.ks.length cap1, .int .i64 pe.o, .int .i64 pe.n, .slice ad2 pe.ks.length cap2] 52
  have hb : Below w.heap.size w W := by rw [hW]; exact balloc (Below.refl _ _) _
  obtain ⟨c0, c1, c2, c3, c4, c5, c6, c7, c8, c9, c10, c11, c12, c13, c14, c15, -⟩ := own_16 o1
  go_enter Tryz.func26, Tryz.ntmps26
  go_wp2_with fail
  rw [← hW]
  clear hW
  try go_wp2_with fail
  refine (nine_ref a0 _).mono ?_
  rintro e w1 ⟨rfl, hx⟩
  rw [n0]
  clear c0 c1 c2 c3 c4 c5 c6 c7 c8 c9 c10 c11 c12 c13 c14 c15
  replace o1 := o1.below hx
  replace hb := hb.trans (hx.mono hb.size)
  obtain ⟨c0, c1, c2, c3, c4, c5, c6, c7, c8, c9, c10, c11, c12, c13, c14, c15, -⟩ := own_16 o1
  clear hx
  go_wp2_with fail
  refine (nine_ref a1 _).mono ?_
  rintro e w2 ⟨rfl, hx⟩
  rw [n1]
  clear c0 c1 c2 c3 c4 c5 c6 c7 c8 c9 c10 c11 c12 c13 c14 c15
  replace o1 := o1.below hx
  replace hb := hb.trans (hx.mono hb.size)
  obtain ⟨c0, c1, c2, c3, c4, c5, c6, c7, c8, c9, c10, c11, c12, c13, c14, c15, -⟩ := own_16 o1
  clear hx
  go_wp2_with fail
  refine (nine_ref a2 _).mono ?_
  rintro e w3 ⟨rfl, hx⟩
  rw [n2]
  clear c0 c1 c2 c3 c4 c5 c6 c7 c8 c9 c10 c11 c12 c13 c14 c15
  replace o1 := o1.below hx
  replace hb := hb.trans (hx.mono hb.size)
  obtain ⟨c0, c1, c2, c3, c4, c5, c6, c7, c8, c9, c10, c11, c12, c13, c14, c15, -⟩ := own_16 o1
  clear hx
  go_wp2_with fail
  refine (nine_ref a3 _).mono ?_
  rintro e w4 ⟨rfl, hx⟩
  rw [n3]
  clear c0 c1 c2 c3 c4 c5 c6 c7 c8 c9 c10 c11 c12 c13 c14 c15
  replace o1 := o1.below hx
  replace hb := hb.trans (hx.mono hb.size)
  obtain ⟨c0, c1, c2, c3, c4, c5, c6, c7, c8, c9, c10, c11, c12, c13, c14, c15, -⟩ := own_16 o1
  clear hx
  go_wp2_with fail
  go_ret
  exact Ret.mk rfl hb
set_option maxHeartbeats 1600000 in
theorem can_n4 {Q R : Nat → Prop} (a0 a1 a2 a3 a4 a5 a6 a7 kn kd : Int) (we pe : Xp) (ad1 ad2 : Option Addr) (cap1 cap2 : Nat) (w : World) (hT : Tree Q w we (.agg #[.int .i64 we.o, .int .i64 we.n, .slice ad1 we.ks.length cap1])) (hU : Tree R w pe (.agg #[.int .i64 pe.o, .int .i64 pe.n, .slice ad2 pe.ks.length cap2])) (n0 : nineB a0 = true) (n1 : nineB a1 = true) (n2 : nineB a2 = true) (n3 : nineB a3 = true) (n4 : nineB a4 = false) : Calls Tryz.prog 26 #[.agg #[.int .i64 a0, .int .i64 a1, .int .i64 a2, .int .i64 a3, .int .i64 a4, .int .i64 a5, .int .i64 a6, .int .i64 a7, .int .i64 kn, .int .i64 kd, .int .i64 we.o, .int .i64 we.n, .slice ad1 we.ks.length cap1, .int .i64 pe.o, .int .i64 pe.n, .slice ad2 pe.ks.length cap2]] w (Ret (.bool false) w) := by
  obtain ⟨W, hW⟩ : ∃ W, W = w.alloc (.cells #[.int .i64 a0, .int .i64 a1, .int .i64 a2, .int .i64 a3, .int .i64 a4, .int .i64 a5, .int .i64 a6, .int .i64 a7, .int .i64 kn, .int .i64 kd, .int .i64 we.o, .int .i64 we.n, .slice ad1 we.ks.length cap1, .int .i64 pe.o, .int .i64 pe.n, .slice ad2 pe.ks.length cap2] 52) := ⟨_, rfl⟩
  have o1 : Own W w.heap.size [.int .i64 a0, .int .i64 a1, .int .i64 a2, .int .i64 a3, .int .i64 a4, .int .i64 a5, .int .i64 a6, .int .i64 a7, .int .i64 kn, .int .i64 kd, .int .i64 we.o, .int .i64 we.n, .slice ad1 we.ks.length cap1, .int .i64 pe.o, .int .i64 pe.n, .slice ad2 pe.ks.length cap2] := by rw [hW]; exact Own.new w #[.int .i64 a0, .int .i64 a1, .int .i64 a2, .int .i64 a3, .int .i64 a4, .int .i64 a5, .int .i64 a6, .int .i64 a7, .int .i64 kn, .int .i64 kd, .int .i64 we.o, .int .i64 we.n, .slice ad1 we.ks.length cap1, .int .i64 pe.o, .int .i64 pe.n, .slice ad2 pe.ks.length cap2] 52
  have hb : Below w.heap.size w W := by rw [hW]; exact balloc (Below.refl _ _) _
  obtain ⟨c0, c1, c2, c3, c4, c5, c6, c7, c8, c9, c10, c11, c12, c13, c14, c15, -⟩ := own_16 o1
  go_enter Tryz.func26, Tryz.ntmps26
  go_wp2_with fail
  rw [← hW]
  clear hW
  try go_wp2_with fail
  refine (nine_ref a0 _).mono ?_
  rintro e w1 ⟨rfl, hx⟩
  rw [n0]
  clear c0 c1 c2 c3 c4 c5 c6 c7 c8 c9 c10 c11 c12 c13 c14 c15
  replace o1 := o1.below hx
  replace hb := hb.trans (hx.mono hb.size)
  obtain ⟨c0, c1, c2, c3, c4, c5, c6, c7, c8, c9, c10, c11, c12, c13, c14, c15, -⟩ := own_16 o1
  clear hx
  go_wp2_with fail
  refine (nine_ref a1 _).mono ?_
  rintro e w2 ⟨rfl, hx⟩
  rw [n1]
  clear c0 c1 c2 c3 c4 c5 c6 c7 c8 c9 c10 c11 c12 c13 c14 c15
  replace o1 := o1.below hx
  replace hb := hb.trans (hx.mono hb.size)
  obtain ⟨c0, c1, c2, c3, c4, c5, c6, c7, c8, c9, c10, c11, c12, c13, c14, c15, -⟩ := own_16 o1
  clear hx
  go_wp2_with fail
  refine (nine_ref a2 _).mono ?_
  rintro e w3 ⟨rfl, hx⟩
  rw [n2]
  clear c0 c1 c2 c3 c4 c5 c6 c7 c8 c9 c10 c11 c12 c13 c14 c15
  replace o1 := o1.below hx
  replace hb := hb.trans (hx.mono hb.size)
  obtain ⟨c0, c1, c2, c3, c4, c5, c6, c7, c8, c9, c10, c11, c12, c13, c14, c15, -⟩ := own_16 o1
  clear hx
  go_wp2_with fail
  refine (nine_ref a3 _).mono ?_
  rintro e w4 ⟨rfl, hx⟩
  rw [n3]
  clear c0 c1 c2 c3 c4 c5 c6 c7 c8 c9 c10 c11 c12 c13 c14 c15
  replace o1 := o1.below hx
  replace hb := hb.trans (hx.mono hb.size)
  obtain ⟨c0, c1, c2, c3, c4, c5, c6, c7, c8, c9, c10, c11, c12, c13, c14, c15, -⟩ := own_16 o1
  clear hx
  go_wp2_with fail
  refine (nine_ref a4 _).mono ?_
  rintro e w5 ⟨rfl, hx⟩
  rw [n4]
  clear c0 c1 c2 c3 c4 c5 c6 c7 c8 c9 c10 c11 c12 c13 c14 c15
  replace o1 := o1.below hx
  replace hb := hb.trans (hx.mono hb.size)
  obtain ⟨c0, c1, c2, c3, c4, c5, c6, c7, c8, c9, c10, c11, c12, c13, c14, c15, -⟩ := own_16 o1
  clear hx
  go_wp2_with fail
  go_ret
  exact Ret.mk rfl hb
set_option maxHeartbeats 1600000 in
theorem can_n5 {Q R : Nat → Prop} (a0 a1 a2 a3 a4 a5 a6 a7 kn kd : Int) (we pe : Xp) (ad1 ad2 : Option Addr) (cap1 cap2 : Nat) (w : World) (hT : Tree Q w we (.agg #[.int .i64 we.o, .int .i64 we.n, .slice ad1 we.ks.length cap1])) (hU : Tree R w pe (.agg #[.int .i64 pe.o, .int .i64 pe.n, .slice ad2 pe.ks.length cap2])) (n0 : nineB a0 = true) (n1 : nineB a1 = true) (n2 : nineB a2 = true) (n3 : nineB a3 = true) (n4 : nineB a4 = true) (n5 : nineB a5 = false) : Calls Tryz.prog 26 #[.agg #[.int .i64 a0, .int .i64 a1, .int .i64 a2, .int .i64 a3, .int .i64 a4, .int .i64 a5, .int .i64 a6, .int .i64 a7, .int .i64 kn, .int .i64 kd, .int .i64 we.o, .int .i64 we.n, .slice ad1 we.ks.length cap1, .int .i64 pe.o, .int .i64 pe.n, .slice ad2 pe.ks.length cap2]] w (Ret (.bool false) w) := by
  obtain ⟨W, hW⟩ : ∃ W, W = w.alloc (.cells #[.int .i64 a0, .int .i64 a1, .int .i64 a2, .int .i64 a3, .int .i64 a4, .int .i64 a5, .int .i64 a6, .int .i64 a7, .int .i64 kn, .int .i64 kd, .int .i64 we.o, .int .i64 we.n, .slice ad1 we.ks.length cap1, .int .i64 pe.o, .int .i64 pe.n, .slice ad2 pe.ks.length cap2] 52) := ⟨_, rfl⟩
  have o1 : Own W w.heap.size [.int .i64 a0, .int .i64 a1, .int .i64 a2, .int .i64 a3, .int .i64 a4, .int .i64 a5, .int .i64 a6, .int .i64 a7, .int .i64 kn, .int .i64 kd, .int .i64 we.o, .int .i64 we.n, .slice ad1 we.ks.length cap1, .int .i64 pe.o, .int .i64 pe.n, .slice ad2 pe.ks.length cap2] := by rw [hW]; exact Own.new w #[.int .i64 a0, .int .i64 a1, .int .i64 a2, .int .i64 a3, .int .i64 a4, .int .i64 a5, .int .i64 a6, .int .i64 a7, .int .i64 kn, .int .i64 kd, .int .i64 we.o, .int .i64 we.n, .slice ad1 we.ks.length cap1, .int .i64 pe.o, .int .i64 pe.n, .slice ad2 pe.ks.length cap2] 52
  have hb : Below w.heap.size w W := by rw [hW]; exact balloc (Below.refl _ _) _
  obtain ⟨c0, c1, c2, c3, c4, c5, c6, c7, c8, c9, c10, c11, c12, c13, c14, c15, -⟩ := own_16 o1
  go_enter Tryz.func26, Tryz.ntmps26
  go_wp2_with fail
  rw [← hW]
  clear hW
  try go_wp2_with fail
  refine (nine_ref a0 _).mono ?_
  rintro e w1 ⟨rfl, hx⟩
  rw [n0]
  clear c0 c1 c2 c3 c4 c5 c6 c7 c8 c9 c10 c11 c12 c13 c14 c15
  replace o1 := o1.below hx
  replace hb := hb.trans (hx.mono hb.size)
  obtain ⟨c0, c1, c2, c3, c4, c5, c6, c7, c8, c9, c10, c11, c12, c13, c14, c15, -⟩ := own_16 o1
  clear hx
  go_wp2_with fail
  refine (nine_ref a1 _).mono ?_
  rintro e w2 ⟨rfl, hx⟩
  rw [n1]
  clear c0 c1 c2 c3 c4 c5 c6 c7 c8 c9 c10 c11 c12 c13 c14 c15
  replace o1 := o1.below hx
  replace hb := hb.trans (hx.mono hb.size)
  obtain ⟨c0, c1, c2, c3, c4, c5, c6, c7, c8, c9, c10, c11, c12, c13, c14, c15, -⟩ := own_16 o1
  clear hx
  go_wp2_with fail
  refine (nine_ref a2 _).mono ?_
  rintro e w3 ⟨rfl, hx⟩
  rw [n2]
  clear c0 c1 c2 c3 c4 c5 c6 c7 c8 c9 c10 c11 c12 c13 c14 c15
  replace o1 := o1.below hx
  replace hb := hb.trans (hx.mono hb.size)
  obtain ⟨c0, c1, c2, c3, c4, c5, c6, c7, c8, c9, c10, c11, c12, c13, c14, c15, -⟩ := own_16 o1
  clear hx
  go_wp2_with fail
  refine (nine_ref a3 _).mono ?_
  rintro e w4 ⟨rfl, hx⟩
  rw [n3]
  clear c0 c1 c2 c3 c4 c5 c6 c7 c8 c9 c10 c11 c12 c13 c14 c15
  replace o1 := o1.below hx
  replace hb := hb.trans (hx.mono hb.size)
  obtain ⟨c0, c1, c2, c3, c4, c5, c6, c7, c8, c9, c10, c11, c12, c13, c14, c15, -⟩ := own_16 o1
  clear hx
  go_wp2_with fail
  refine (nine_ref a4 _).mono ?_
  rintro e w5 ⟨rfl, hx⟩
  rw [n4]
  clear c0 c1 c2 c3 c4 c5 c6 c7 c8 c9 c10 c11 c12 c13 c14 c15
  replace o1 := o1.below hx
  replace hb := hb.trans (hx.mono hb.size)
  obtain ⟨c0, c1, c2, c3, c4, c5, c6, c7, c8, c9, c10, c11, c12, c13, c14, c15, -⟩ := own_16 o1
  clear hx
  go_wp2_with fail
  refine (nine_ref a5 _).mono ?_
  rintro e w6 ⟨rfl, hx⟩
  rw [n5]
  clear c0 c1 c2 c3 c4 c5 c6 c7 c8 c9 c10 c11 c12 c13 c14 c15
  replace o1 := o1.below hx
  replace hb := hb.trans (hx.mono hb.size)
  obtain ⟨c0, c1, c2, c3, c4, c5, c6, c7, c8, c9, c10, c11, c12, c13, c14, c15, -⟩ := own_16 o1
  clear hx
  go_wp2_with fail
  go_ret
  exact Ret.mk rfl hb
set_option maxHeartbeats 1600000 in
theorem can_n6 {Q R : Nat → Prop} (a0 a1 a2 a3 a4 a5 a6 a7 kn kd : Int) (we pe : Xp) (ad1 ad2 : Option Addr) (cap1 cap2 : Nat) (w : World) (hT : Tree Q w we (.agg #[.int .i64 we.o, .int .i64 we.n, .slice ad1 we.ks.length cap1])) (hU : Tree R w pe (.agg #[.int .i64 pe.o, .int .i64 pe.n, .slice ad2 pe.ks.length cap2])) (n0 : nineB a0 = true) (n1 : nineB a1 = true) (n2 : nineB a2 = true) (n3 : nineB a3 = true) (n4 : nineB a4 = true) (n5 : nineB a5 = true) (n6 : nineB a6 = false) : Calls Tryz.prog 26 #[.agg #[.int .i64 a0, .int .i64 a1, .int .i64 a2, .int .i64 a3, .int .i64 a4, .int .i64 a5, .int .i64 a6, .int .i64 a7, .int .i64 kn, .int .i64 kd, .int .i64 we.o, .int .i64 we.n, .slice ad1 we.ks.length cap1, .int .i64 pe.o, .int .i64 pe.n, .slice ad2 pe.ks.length cap2]] w (Ret (.bool false) w) := by
  obtain ⟨W, hW⟩ : ∃ W, W = w.alloc (.cells #[.int .i64 a0, .int .i64 a1, .int .i64 a2, .int .i64 a3, .int .i64 a4, .int .i64 a5, .int .i64 a6, .int .i64 a7, .int .i64 kn, .int .i64 kd, .int .i64 we.o, .int .i64 we.n, .slice ad1 we.ks.length cap1, .int .i64 pe.o, .int .i64 pe.n, .slice ad2 pe.ks.length cap2] 52) := ⟨_, rfl⟩
  have o1 : Own W w.heap.size [.int .i64 a0, .int .i64 a1, .int .i64 a2, .int .i64 a3, .int .i64 a4, .int .i64 a5, .int .i64 a6, .int .i64 a7, .int .i64 kn, .int .i64 kd, .int .i64 we.o, .int .i64 we.n, .slice ad1 we.ks.length cap1, .int .i64 pe.o, .int .i64 pe.n, .slice ad2 pe.ks.length cap2] := by rw [hW]; exact Own.new w #[.int .i64 a0, .int .i64 a1, .int .i64 a2, .int .i64 a3, .int .i64 a4, .int .i64 a5, .int .i64 a6, .int .i64 a7, .int .i64 kn, .int .i64 kd, .int .i64 we.o, .int .i64 we.n, .slice ad1 we.ks.length cap1, .int .i64 pe.o, .int .i64 pe.n, .slice ad2 pe.ks.length cap2] 52
  have hb : Below w.heap.size w W := by rw [hW]; exact balloc (Below.refl _ _) _
  obtain ⟨c0, c1, c2, c3, c4, c5, c6, c7, c8, c9, c10, c11, c12, c13, c14, c15, -⟩ := own_16 o1
  go_enter Tryz.func26, Tryz.ntmps26
  go_wp2_with fail
  rw [← hW]
  clear hW
  try go_wp2_with fail
  refine (nine_ref a0 _).mono ?_
  rintro e w1 ⟨rfl, hx⟩
  rw [n0]
  clear c0 c1 c2 c3 c4 c5 c6 c7 c8 c9 c10 c11 c12 c13 c14 c15
  replace o1 := o1.below hx
  replace hb := hb.trans (hx.mono hb.size)
  obtain ⟨c0, c1, c2, c3, c4, c5, c6, c7, c8, c9, c10, c11, c12, c13, c14, c15, -⟩ := own_16 o1
  clear hx
  go_wp2_with fail
  refine (nine_ref a1 _).mono ?_
  rintro e w2 ⟨rfl, hx⟩
  rw [n1]
  clear c0 c1 c2 c3 c4 c5 c6 c7 c8 c9 c10 c11 c12 c13 c14 c15
  replace o1 := o1.below hx
  replace hb := hb.trans (hx.mono hb.size)
  obtain ⟨c0, c1, c2, c3, c4, c5, c6, c7, c8, c9, c10, c11, c12, c13, c14, c15, -⟩ := own_16 o1
  clear hx
  go_wp2_with fail
  refine (nine_ref a2 _).mono ?_
  rintro e w3 ⟨rfl, hx⟩
  rw [n2]
  clear c0 c1 c2 c3 c4 c5 c6 c7 c8 c9 c10 c11 c12 c13 c14 c15
  replace o1 := o1.below hx
  replace hb := hb.trans (hx.mono hb.size)
  obtain ⟨c0, c1, c2, c3, c4, c5, c6, c7, c8, c9, c10, c11, c12, c13, c14, c15, -⟩ := own_16 o1
  clear hx
  go_wp2_with fail
  refine (nine_ref a3 _).mono ?_
  rintro e w4 ⟨rfl, hx⟩
  rw [n3]
  clear c0 c1 c2 c3 c4 c5 c6 c7 c8 c9 c10 c11 c12 c13 c14 c15
  replace o1 := o1.below hx
  replace hb := hb.trans (hx.mono hb.size)
  obtain ⟨c0, c1, c2, c3, c4, c5, c6, c7, c8, c9, c10, c11, c12, c13, c14, c15, -⟩ := own_16 o1
  clear hx
  go_wp2_with fail
  refine (nine_ref a4 _).mono ?_
  rintro e w5 ⟨rfl, hx⟩
  rw [n4]
  clear c0 c1 c2 c3 c4 c5 c6 c7 c8 c9 c10 c11 c12 c13 c14 c15
  replace o1 := o1.below hx
  replace hb := hb.trans (hx.mono hb.size)
  obtain ⟨c0, c1, c2, c3, c4, c5, c6, c7, c8, c9, c10, c11, c12, c13, c14, c15, -⟩ := own_16 o1
  clear hx
  go_wp2_with fail
  refine (nine_ref a5 _).mono ?_
  rintro e w6 ⟨rfl, hx⟩
  rw [n5]
  clear c0 c1 c2 c3 c4 c5 c6 c7 c8 c9 c10 c11 c12 c13 c14 c15
  replace o1 := o1.below hx
  replace hb := hb.trans (hx.mono hb.size)
  obtain ⟨c0, c1, c2, c3, c4, c5, c6, c7, c8, c9, c10, c11, c12, c13, c14, c15, -⟩ := own_16 o1
  clear hx
  go_wp2_with fail
  refine (nine_ref a6 _).mono ?_
  rintro e w7 ⟨rfl, hx⟩
  rw [n6]
  clear c0 c1 c2 c3 c4 c5 c6 c7 c8 c9 c10 c11 c12 c13 c14 c15
  replace o1 := o1.below hx
  replace hb := hb.trans (hx.mono hb.size)
  obtain ⟨c0, c1, c2, c3, c4, c5, c6, c7, c8, c9, c10, c11, c12, c13, c14, c15, -⟩ := own_16 o1
  clear hx
  go_wp2_with fail
  go_ret
  exact Ret.mk rfl hb
set_option maxHeartbeats 1600000 in
theorem can_n7 {Q R : Nat → Prop} (a0 a1 a2 a3 a4 a5 a6 a7 kn kd : Int) (we pe : Xp) (ad1 ad2 : Option Addr) (cap1 cap2 : Nat) (w : World) (hT : Tree Q w we (.agg #[.int .i64 we.o, .int .i64 we.n, .slice ad1 we.ks.length cap1])) (hU : Tree R w pe (.agg #[.int .i64 pe.o, .int .i64 pe.n, .slice ad2 pe.ks.length cap2])) (n0 : nineB a0 = true) (n1 : nineB a1 = true) (n2 : nineB a2 = true) (n3 : nineB a3 = true) (n4 : nineB a4 = true) (n5 : nineB a5 = true) (n6 : nineB a6 = true) (n7 : nineB a7 = false) : Calls Tryz.prog 26 #[.agg #[.int .i64 a0, .int .i64 a1, .int .i64 a2, .int .i64 a3, .int .i64 a4, .int .i64 a5, .int .i64 a6, .int .i64 a7, .int .i64 kn, .int .i64 kd, .int .i64 we.o, .int .i64 we.n, .slice ad1 we.ks.length cap1, .int .i64 pe.o, .int .i64 pe.n, .slice ad2 pe.ks.length cap2]] w (Ret (.bool false) w) := by
  obtain ⟨W, hW⟩ : ∃ W, W = w.alloc (.cells #[.int .i64 a0, .int .i64 a1, .int .i64 a2, .int .i64 a3, .int .i64 a4, .int .i64 a5, .int .i64 a6, .int .i64 a7, .int .i64 kn, .int .i64 kd, .int .i64 we.o, .int .i64 we.n, .slice ad1 we.ks.length cap1, .int .i64 pe.o, .int .i64 pe.n, .slice ad2 pe.ks.length cap2] 52) := ⟨_, rfl⟩
  have o1 : Own W w.heap.size [.int .i64 a0, .int .i64 a1, .int .i64 a2, .int .i64 a3, .int .i64 a4, .int .i64 a5, .int .i64 a6, .int .i64 a7, .int .i64 kn, .int .i64 kd, .int .i64 we.o, .int .i64 we.n, .slice ad1 we.ks.length cap1, .int .i64 pe.o, .int .i64 pe.n, .slice ad2 pe.ks.length cap2] := by rw [hW]; exact Own.new w #[.int .i64 a0, .int .i64 a1, .int .i64 a2, .int .i64 a3, .int .i64 a4, .int .i64 a5, .int .i64 a6, .int .i64 a7, .int .i64 kn, .int .i64 kd, .int .i64 we.o, .int .i64 we.n, .slice ad1 we.ks.length cap1, .int .i64 pe.o, .int .i64 pe.n, .slice ad2 pe.ks.length cap2] 52
  have hb : Below w.heap.size w W := by rw [hW]; exact balloc (Below.refl _ _) _
  obtain ⟨c0, c1, c2, c3, c4, c5, c6, c7, c8, c9, c10, c11, c12, c13, c14, c15, -⟩ := own_16 o1
  go_enter Tryz.func26, Tryz.ntmps26
  go_wp2_with fail
  rw [← hW]
  clear hW
  try go_wp2_with fail
  refine (nine_ref a0 _).mono ?_
  rintro e w1 ⟨rfl, hx⟩
  rw [n0]
  clear c0 c1 c2 c3 c4 c5 c6 c7 c8 c9 c10 c11 c12 c13 c14 c15
  replace o1 := o1.below hx
  replace hb := hb.trans (hx.mono hb.size)
  obtain ⟨c0, c1, c2, c3, c4, c5, c6, c7, c8, c9, c10, c11, c12, c13, c14, c15, -⟩ := own_16 o1
  clear hx
  go_wp2_with fail
  refine (nine_ref a1 _).mono ?_
  rintro e w2 ⟨rfl, hx⟩
  rw [n1]
  clear c0 c1 c2 c3 c4 c5 c6 c7 c8 c9 c10 c11 c12 c13 c14 c15
  replace o1 := o1.below hx
  replace hb := hb.trans (hx.mono hb.size)
  obtain ⟨c0, c1, c2, c3, c4, c5, c6, c7, c8, c9, c10, c11, c12, c13, c14, c15, -⟩ := own_16 o1
  clear hx
  go_wp2_with fail
  refine (nine_ref a2 _).mono ?_
  rintro e w3 ⟨rfl, hx⟩
  rw [n2]
  clear c0 c1 c2 c3 c4 c5 c6 c7 c8 c9 c10 c11 c12 c13 c14 c15
  replace o1 := o1.below hx
  replace hb := hb.trans (hx.mono hb.size)
  obtain ⟨c0, c1, c2, c3, c4, c5, c6, c7, c8, c9, c10, c11, c12, c13, c14, c15, -⟩ := own_16 o1
  clear hx
  go_wp2_with fail
  refine (nine_ref a3 _).mono ?_
  rintro e w4 ⟨rfl, hx⟩
  rw [n3]
  clear c0 c1 c2 c3 c4 c5 c6 c7 c8 c9 c10 c11 c12 c13 c14 c15
  replace o1 := o1.below hx
  replace hb := hb.trans (hx.mono hb.size)
  obtain ⟨c0, c1, c2, c3, c4, c5, c6, c7, c8, c9, c10, c11, c12, c13, c14, c15, -⟩ := own_16 o1
  clear hx
  go_wp2_with fail
  refine (nine_ref a4 _).mono ?_
  rintro e w5 ⟨rfl, hx⟩
  rw [n4]
  clear c0 c1 c2 c3 c4 c5 c6 c7 c8 c9 c10 c11 c12 c13 c14 c15
  replace o1 := o1.below hx
  replace hb := hb.trans (hx.mono hb.size)
  obtain ⟨c0, c1, c2, c3, c4, c5, c6, c7, c8, c9, c10, c11, c12, c13, c14, c15, -⟩ := own_16 o1
  clear hx
  go_wp2_with fail
  refine (nine_ref a5 _).mono ?_
  rintro e w6 ⟨rfl, hx⟩
  rw [n5]
  clear c0 c1 c2 c3 c4 c5 c6 c7 c8 c9 c10 c11 c12 c13 c14 c15
  replace o1 := o1.below hx
  replace hb := hb.trans (hx.mono hb.size)
  obtain ⟨c0, c1, c2, c3, c4, c5, c6, c7, c8, c9, c10, c11, c12, c13, c14, c15, -⟩ := own_16 o1
  clear hx
  go_wp2_with fail
  refine (nine_ref a6 _).mono ?_
  rintro e w7 ⟨rfl, hx⟩
  rw [n6]
  clear c0 c1 c2 c3 c4 c5 c6 c7 c8 c9 c10 c11 c12 c13 c14 c15
  replace o1 := o1.below hx
  replace hb := hb.trans (hx.mono hb.size)
  obtain ⟨c0, c1, c2, c3, c4, c5, c6, c7, c8, c9, c10, c11, c12, c13, c14, c15, -⟩ := own_16 o1
  clear hx
  go_wp2_with fail
  refine (nine_ref a7 _).mono ?_
  rintro e w8 ⟨rfl, hx⟩
  rw [n7]
  clear c0 c1 c2 c3 c4 c5 c6 c7 c8 c9 c10 c11 c12 c13 c14 c15
  replace o1 := o1.below hx
  replace hb := hb.trans (hx.mono hb.size)
  obtain ⟨c0, c1, c2, c3, c4, c5, c6, c7, c8, c9, c10, c11, c12, c13, c14, c15, -⟩ := own_16 o1
  clear hx
  go_wp2_with fail
  go_ret
  exact Ret.mk rfl hb
theorem vldb_bd9 {n d : Int} (h : vldB n d = true) : 1 ≤ d ∧ d ≤ 1000000 ∧ -1000000000 ≤ n ∧ n ≤ 1000000000 := by
  unfold vldB fitB at h
  simp at h
  omega
theorem kd_facts {d : Int} (h1 : 1 ≤ d) (h2 : d ≤ 1000000) : Int.tmod 100 d = 100 % d ∧ Int.tdiv 100 d = 100 / d ∧ (0 ≤ 100 % d ∧ 100 % d < d) ∧ (0 ≤ 100 / d ∧ 100 / d ≤ 100) := by
  refine ⟨Int.tmod_eq_emod_of_nonneg (by decide), Int.tdiv_eq_ediv_of_nonneg (by decide), ⟨Int.emod_nonneg _ (by omega), Int.emod_lt_of_pos _ (by omega)⟩, Int.ediv_nonneg (by decide) (by omega), ?_⟩
  exact Int.ediv_le_self _ (by decide)
theorem mul_facts {n d : Int} (h1 : 1 ≤ d) (h2 : d ≤ 1000000) (h3 : -1000000000 ≤ n) (h4 : n ≤ 1000000000) : -9223372036854775808 ≤ n * (100 / d) ∧ n * (100 / d) ≤ 9223372036854775807 := by
  obtain ⟨-, -, -, h5, h6⟩ := kd_facts h1 h2
  generalize 100 / d = q at h5 h6
  have a1 := Int.mul_le_mul_of_nonneg_right h4 h5
  have a2 := Int.mul_le_mul_of_nonneg_right h3 h5
  omega
set_option maxHeartbeats 3200000 in
theorem can_keep {Q R : Nat → Prop} (a0 a1 a2 a3 a4 a5 a6 a7 kn kd : Int) (we pe : Xp) (ad1 ad2 : Option Addr) (cap1 cap2 : Nat) (w : World) (hT : Tree Q w we (.agg #[.int .i64 we.o, .int .i64 we.n, .slice ad1 we.ks.length cap1])) (hU : Tree R w pe (.agg #[.int .i64 pe.o, .int .i64 pe.n, .slice ad2 pe.ks.length cap2])) (n0 : nineB a0 = true) (n1 : nineB a1 = true) (n2 : nineB a2 = true) (n3 : nineB a3 = true) (n4 : nineB a4 = true) (n5 : nineB a5 = true) (n6 : nineB a6 = true) (n7 : nineB a7 = true) (hk : vldB kn kd = false) : Calls Tryz.prog 26 #[.agg #[.int .i64 a0, .int .i64 a1, .int .i64 a2, .int .i64 a3, .int .i64 a4, .int .i64 a5, .int .i64 a6, .int .i64 a7, .int .i64 kn, .int .i64 kd, .int .i64 we.o, .int .i64 we.n, .slice ad1 we.ks.length cap1, .int .i64 pe.o, .int .i64 pe.n, .slice ad2 pe.ks.length cap2]] w (Ret (.bool false) w) := by
  obtain ⟨W, hW⟩ : ∃ W, W = w.alloc (.cells #[.int .i64 a0, .int .i64 a1, .int .i64 a2, .int .i64 a3, .int .i64 a4, .int .i64 a5, .int .i64 a6, .int .i64 a7, .int .i64 kn, .int .i64 kd, .int .i64 we.o, .int .i64 we.n, .slice ad1 we.ks.length cap1, .int .i64 pe.o, .int .i64 pe.n, .slice ad2 pe.ks.length cap2] 52) := ⟨_, rfl⟩
  have o1 : Own W w.heap.size [.int .i64 a0, .int .i64 a1, .int .i64 a2, .int .i64 a3, .int .i64 a4, .int .i64 a5, .int .i64 a6, .int .i64 a7, .int .i64 kn, .int .i64 kd, .int .i64 we.o, .int .i64 we.n, .slice ad1 we.ks.length cap1, .int .i64 pe.o, .int .i64 pe.n, .slice ad2 pe.ks.length cap2] := by rw [hW]; exact Own.new w #[.int .i64 a0, .int .i64 a1, .int .i64 a2, .int .i64 a3, .int .i64 a4, .int .i64 a5, .int .i64 a6, .int .i64 a7, .int .i64 kn, .int .i64 kd, .int .i64 we.o, .int .i64 we.n, .slice ad1 we.ks.length cap1, .int .i64 pe.o, .int .i64 pe.n, .slice ad2 pe.ks.length cap2] 52
  have hb : Below w.heap.size w W := by rw [hW]; exact balloc (Below.refl _ _) _
  obtain ⟨c0, c1, c2, c3, c4, c5, c6, c7, c8, c9, c10, c11, c12, c13, c14, c15, -⟩ := own_16 o1
  go_enter Tryz.func26, Tryz.ntmps26
  go_wp2_with fail
  rw [← hW]
  clear hW
  try go_wp2_with fail
  refine (nine_ref a0 _).mono ?_
  rintro e w1 ⟨rfl, hx⟩
  rw [n0]
  clear c0 c1 c2 c3 c4 c5 c6 c7 c8 c9 c10 c11 c12 c13 c14 c15
  replace o1 := o1.below hx
  replace hb := hb.trans (hx.mono hb.size)
  obtain ⟨c0, c1, c2, c3, c4, c5, c6, c7, c8, c9, c10, c11, c12, c13, c14, c15, -⟩ := own_16 o1
  clear hx
  go_wp2_with fail
  refine (nine_ref a1 _).mono ?_
  rintro e w2 ⟨rfl, hx⟩
  rw [n1]
  clear c0 c1 c2 c3 c4 c5 c6 c7 c8 c9 c10 c11 c12 c13 c14 c15
  replace o1 := o1.below hx
  replace hb := hb.trans (hx.mono hb.size)
  obtain ⟨c0, c1, c2, c3, c4, c5, c6, c7, c8, c9, c10, c11, c12, c13, c14, c15, -⟩ := own_16 o1
  clear hx
  go_wp2_with fail
  refine (nine_ref a2 _).mono ?_
  rintro e w3 ⟨rfl, hx⟩
  rw [n2]
  clear c0 c1 c2 c3 c4 c5 c6 c7 c8 c9 c10 c11 c12 c13 c14 c15
  replace o1 := o1.below hx
  replace hb := hb.trans (hx.mono hb.size)
  obtain ⟨c0, c1, c2, c3, c4, c5, c6, c7, c8, c9, c10, c11, c12, c13, c14, c15, -⟩ := own_16 o1
  clear hx
  go_wp2_with fail
  refine (nine_ref a3 _).mono ?_
  rintro e w4 ⟨rfl, hx⟩
  rw [n3]
  clear c0 c1 c2 c3 c4 c5 c6 c7 c8 c9 c10 c11 c12 c13 c14 c15
  replace o1 := o1.below hx
  replace hb := hb.trans (hx.mono hb.size)
  obtain ⟨c0, c1, c2, c3, c4, c5, c6, c7, c8, c9, c10, c11, c12, c13, c14, c15, -⟩ := own_16 o1
  clear hx
  go_wp2_with fail
  refine (nine_ref a4 _).mono ?_
  rintro e w5 ⟨rfl, hx⟩
  rw [n4]
  clear c0 c1 c2 c3 c4 c5 c6 c7 c8 c9 c10 c11 c12 c13 c14 c15
  replace o1 := o1.below hx
  replace hb := hb.trans (hx.mono hb.size)
  obtain ⟨c0, c1, c2, c3, c4, c5, c6, c7, c8, c9, c10, c11, c12, c13, c14, c15, -⟩ := own_16 o1
  clear hx
  go_wp2_with fail
  refine (nine_ref a5 _).mono ?_
  rintro e w6 ⟨rfl, hx⟩
  rw [n5]
  clear c0 c1 c2 c3 c4 c5 c6 c7 c8 c9 c10 c11 c12 c13 c14 c15
  replace o1 := o1.below hx
  replace hb := hb.trans (hx.mono hb.size)
  obtain ⟨c0, c1, c2, c3, c4, c5, c6, c7, c8, c9, c10, c11, c12, c13, c14, c15, -⟩ := own_16 o1
  clear hx
  go_wp2_with fail
  refine (nine_ref a6 _).mono ?_
  rintro e w7 ⟨rfl, hx⟩
  rw [n6]
  clear c0 c1 c2 c3 c4 c5 c6 c7 c8 c9 c10 c11 c12 c13 c14 c15
  replace o1 := o1.below hx
  replace hb := hb.trans (hx.mono hb.size)
  obtain ⟨c0, c1, c2, c3, c4, c5, c6, c7, c8, c9, c10, c11, c12, c13, c14, c15, -⟩ := own_16 o1
  clear hx
  go_wp2_with fail
  refine (nine_ref a7 _).mono ?_
  rintro e w8 ⟨rfl, hx⟩
  rw [n7]
  clear c0 c1 c2 c3 c4 c5 c6 c7 c8 c9 c10 c11 c12 c13 c14 c15
  replace o1 := o1.below hx
  replace hb := hb.trans (hx.mono hb.size)
  obtain ⟨c0, c1, c2, c3, c4, c5, c6, c7, c8, c9, c10, c11, c12, c13, c14, c15, -⟩ := own_16 o1
  clear hx
  go_wp2_with fail
  have hv1 := fun w => r_valid kn kd w
  rw [hk] at hv1
  have cz := o1.lt
  refine wp_region_up (by kernel_rfl) (by kernel_rfl) ?_
  repeat (go_big_quiet_step ((go_at_call 54; exact Ret.up (hv1 _))))
  refine wpQuiet_nil ?_
  rintro x1 ⟨g, rfl⟩
  have hx := up_below _ g
  generalize up _ g = x1 at hx ⊢
  go_wp2_with fail
  go_ret
  exact Ret.mk rfl (hb.trans (hx.mono hb.size))
set_option maxHeartbeats 3200000 in
theorem can_rem {Q R : Nat → Prop} (a0 a1 a2 a3 a4 a5 a6 a7 kn kd : Int) (we pe : Xp) (ad1 ad2 : Option Addr) (cap1 cap2 : Nat) (w : World) (hT : Tree Q w we (.agg #[.int .i64 we.o, .int .i64 we.n, .slice ad1 we.ks.length cap1])) (hU : Tree R w pe (.agg #[.int .i64 pe.o, .int .i64 pe.n, .slice ad2 pe.ks.length cap2])) (n0 : nineB a0 = true) (n1 : nineB a1 = true) (n2 : nineB a2 = true) (n3 : nineB a3 = true) (n4 : nineB a4 = true) (n5 : nineB a5 = true) (n6 : nineB a6 = true) (n7 : nineB a7 = true) (hk : vldB kn kd = true) (h2 : ¬ (100 % kd = 0)) : Calls Tryz.prog 26 #[.agg #[.int .i64 a0, .int .i64 a1, .int .i64 a2, .int .i64 a3, .int .i64 a4, .int .i64 a5, .int .i64 a6, .int .i64 a7, .int .i64 kn, .int .i64 kd, .int .i64 we.o, .int .i64 we.n, .slice ad1 we.ks.length cap1, .int .i64 pe.o, .int .i64 pe.n, .slice ad2 pe.ks.length cap2]] w (Ret (.bool false) w) := by
  obtain ⟨W, hW⟩ : ∃ W, W = w.alloc (.cells #[.int .i64 a0, .int .i64 a1, .int .i64 a2, .int .i64 a3, .int .i64 a4, .int .i64 a5, .int .i64 a6, .int .i64 a7, .int .i64 kn, .int .i64 kd, .int .i64 we.o, .int .i64 we.n, .slice ad1 we.ks.length cap1, .int .i64 pe.o, .int .i64 pe.n, .slice ad2 pe.ks.length cap2] 52) := ⟨_, rfl⟩
  have o1 : Own W w.heap.size [.int .i64 a0, .int .i64 a1, .int .i64 a2, .int .i64 a3, .int .i64 a4, .int .i64 a5, .int .i64 a6, .int .i64 a7, .int .i64 kn, .int .i64 kd, .int .i64 we.o, .int .i64 we.n, .slice ad1 we.ks.length cap1, .int .i64 pe.o, .int .i64 pe.n, .slice ad2 pe.ks.length cap2] := by rw [hW]; exact Own.new w #[.int .i64 a0, .int .i64 a1, .int .i64 a2, .int .i64 a3, .int .i64 a4, .int .i64 a5, .int .i64 a6, .int .i64 a7, .int .i64 kn, .int .i64 kd, .int .i64 we.o, .int .i64 we.n, .slice ad1 we.ks.length cap1, .int .i64 pe.o, .int .i64 pe.n, .slice ad2 pe.ks.length cap2] 52
  have hb : Below w.heap.size w W := by rw [hW]; exact balloc (Below.refl _ _) _
  obtain ⟨c0, c1, c2, c3, c4, c5, c6, c7, c8, c9, c10, c11, c12, c13, c14, c15, -⟩ := own_16 o1
  go_enter Tryz.func26, Tryz.ntmps26
  go_wp2_with fail
  rw [← hW]
  clear hW
  try go_wp2_with fail
  refine (nine_ref a0 _).mono ?_
  rintro e w1 ⟨rfl, hx⟩
  rw [n0]
  clear c0 c1 c2 c3 c4 c5 c6 c7 c8 c9 c10 c11 c12 c13 c14 c15
  replace o1 := o1.below hx
  replace hb := hb.trans (hx.mono hb.size)
  obtain ⟨c0, c1, c2, c3, c4, c5, c6, c7, c8, c9, c10, c11, c12, c13, c14, c15, -⟩ := own_16 o1
  clear hx
  go_wp2_with fail
  refine (nine_ref a1 _).mono ?_
  rintro e w2 ⟨rfl, hx⟩
  rw [n1]
  clear c0 c1 c2 c3 c4 c5 c6 c7 c8 c9 c10 c11 c12 c13 c14 c15
  replace o1 := o1.below hx
  replace hb := hb.trans (hx.mono hb.size)
  obtain ⟨c0, c1, c2, c3, c4, c5, c6, c7, c8, c9, c10, c11, c12, c13, c14, c15, -⟩ := own_16 o1
  clear hx
  go_wp2_with fail
  refine (nine_ref a2 _).mono ?_
  rintro e w3 ⟨rfl, hx⟩
  rw [n2]
  clear c0 c1 c2 c3 c4 c5 c6 c7 c8 c9 c10 c11 c12 c13 c14 c15
  replace o1 := o1.below hx
  replace hb := hb.trans (hx.mono hb.size)
  obtain ⟨c0, c1, c2, c3, c4, c5, c6, c7, c8, c9, c10, c11, c12, c13, c14, c15, -⟩ := own_16 o1
  clear hx
  go_wp2_with fail
  refine (nine_ref a3 _).mono ?_
  rintro e w4 ⟨rfl, hx⟩
  rw [n3]
  clear c0 c1 c2 c3 c4 c5 c6 c7 c8 c9 c10 c11 c12 c13 c14 c15
  replace o1 := o1.below hx
  replace hb := hb.trans (hx.mono hb.size)
  obtain ⟨c0, c1, c2, c3, c4, c5, c6, c7, c8, c9, c10, c11, c12, c13, c14, c15, -⟩ := own_16 o1
  clear hx
  go_wp2_with fail
  refine (nine_ref a4 _).mono ?_
  rintro e w5 ⟨rfl, hx⟩
  rw [n4]
  clear c0 c1 c2 c3 c4 c5 c6 c7 c8 c9 c10 c11 c12 c13 c14 c15
  replace o1 := o1.below hx
  replace hb := hb.trans (hx.mono hb.size)
  obtain ⟨c0, c1, c2, c3, c4, c5, c6, c7, c8, c9, c10, c11, c12, c13, c14, c15, -⟩ := own_16 o1
  clear hx
  go_wp2_with fail
  refine (nine_ref a5 _).mono ?_
  rintro e w6 ⟨rfl, hx⟩
  rw [n5]
  clear c0 c1 c2 c3 c4 c5 c6 c7 c8 c9 c10 c11 c12 c13 c14 c15
  replace o1 := o1.below hx
  replace hb := hb.trans (hx.mono hb.size)
  obtain ⟨c0, c1, c2, c3, c4, c5, c6, c7, c8, c9, c10, c11, c12, c13, c14, c15, -⟩ := own_16 o1
  clear hx
  go_wp2_with fail
  refine (nine_ref a6 _).mono ?_
  rintro e w7 ⟨rfl, hx⟩
  rw [n6]
  clear c0 c1 c2 c3 c4 c5 c6 c7 c8 c9 c10 c11 c12 c13 c14 c15
  replace o1 := o1.below hx
  replace hb := hb.trans (hx.mono hb.size)
  obtain ⟨c0, c1, c2, c3, c4, c5, c6, c7, c8, c9, c10, c11, c12, c13, c14, c15, -⟩ := own_16 o1
  clear hx
  go_wp2_with fail
  refine (nine_ref a7 _).mono ?_
  rintro e w8 ⟨rfl, hx⟩
  rw [n7]
  clear c0 c1 c2 c3 c4 c5 c6 c7 c8 c9 c10 c11 c12 c13 c14 c15
  replace o1 := o1.below hx
  replace hb := hb.trans (hx.mono hb.size)
  obtain ⟨c0, c1, c2, c3, c4, c5, c6, c7, c8, c9, c10, c11, c12, c13, c14, c15, -⟩ := own_16 o1
  clear hx
  go_wp2_with fail
  have hv1 := fun w => r_valid kn kd w
  rw [hk] at hv1
  obtain ⟨b1, b2, b3, b4⟩ := vldb_bd9 hk
  obtain ⟨m1, m2, m3, m4⟩ := kd_facts b1 b2
  have m5 := mul_facts b1 b2 b3 b4
  have m6 : (kd == 0) = false := by rw [beq_eq_false_iff_ne]; omega
  have m7 : IntKind.i64.wrap (kn * (100 / kd)) = kn * (100 / kd) := IntWalk.i64_in _ m5
  have m8 : IntKind.i64.wrap (100 % kd) = 100 % kd := IntWalk.i64_in _ (by omega)
  have m9 : IntKind.i64.wrap (100 / kd) = 100 / kd := IntWalk.i64_in _ (by omega)
  have r1 : (100 % kd != 0) = true := by rw [bne_iff_ne]; exact h2
  have cz := o1.lt
  refine wp_region_up (by kernel_rfl) (by kernel_rfl) ?_
  repeat (go_big_quiet_step ((go_at_call 54; exact Ret.up (hv1 _))))
  refine wpQuiet_nil ?_
  rintro x1 ⟨g, rfl⟩
  have hx := up_below _ g
  generalize up _ g = x1 at hx ⊢
  go_wp2_with fail
  go_ret
  exact Ret.mk rfl (hb.trans (hx.mono hb.size))
set_option maxHeartbeats 3200000 in
theorem can_pct {Q R : Nat → Prop} (a0 a1 a2 a3 a4 a5 a6 a7 kn kd : Int) (we pe : Xp) (ad1 ad2 : Option Addr) (cap1 cap2 : Nat) (w : World) (hT : Tree Q w we (.agg #[.int .i64 we.o, .int .i64 we.n, .slice ad1 we.ks.length cap1])) (hU : Tree R w pe (.agg #[.int .i64 pe.o, .int .i64 pe.n, .slice ad2 pe.ks.length cap2])) (n0 : nineB a0 = true) (n1 : nineB a1 = true) (n2 : nineB a2 = true) (n3 : nineB a3 = true) (n4 : nineB a4 = true) (n5 : nineB a5 = true) (n6 : nineB a6 = true) (n7 : nineB a7 = true) (hk : vldB kn kd = true) (h2 : 100 % kd = 0) (h3 : nineB (kn * (100 / kd)) = false) : Calls Tryz.prog 26 #[.agg #[.int .i64 a0, .int .i64 a1, .int .i64 a2, .int .i64 a3, .int .i64 a4, .int .i64 a5, .int .i64 a6, .int .i64 a7, .int .i64 kn, .int .i64 kd, .int .i64 we.o, .int .i64 we.n, .slice ad1 we.ks.length cap1, .int .i64 pe.o, .int .i64 pe.n, .slice ad2 pe.ks.length cap2]] w (Ret (.bool false) w) := by
  obtain ⟨W, hW⟩ : ∃ W, W = w.alloc (.cells #[.int .i64 a0, .int .i64 a1, .int .i64 a2, .int .i64 a3, .int .i64 a4, .int .i64 a5, .int .i64 a6, .int .i64 a7, .int .i64 kn, .int .i64 kd, .int .i64 we.o, .int .i64 we.n, .slice ad1 we.ks.length cap1, .int .i64 pe.o, .int .i64 pe.n, .slice ad2 pe.ks.length cap2] 52) := ⟨_, rfl⟩
  have o1 : Own W w.heap.size [.int .i64 a0, .int .i64 a1, .int .i64 a2, .int .i64 a3, .int .i64 a4, .int .i64 a5, .int .i64 a6, .int .i64 a7, .int .i64 kn, .int .i64 kd, .int .i64 we.o, .int .i64 we.n, .slice ad1 we.ks.length cap1, .int .i64 pe.o, .int .i64 pe.n, .slice ad2 pe.ks.length cap2] := by rw [hW]; exact Own.new w #[.int .i64 a0, .int .i64 a1, .int .i64 a2, .int .i64 a3, .int .i64 a4, .int .i64 a5, .int .i64 a6, .int .i64 a7, .int .i64 kn, .int .i64 kd, .int .i64 we.o, .int .i64 we.n, .slice ad1 we.ks.length cap1, .int .i64 pe.o, .int .i64 pe.n, .slice ad2 pe.ks.length cap2] 52
  have hb : Below w.heap.size w W := by rw [hW]; exact balloc (Below.refl _ _) _
  obtain ⟨c0, c1, c2, c3, c4, c5, c6, c7, c8, c9, c10, c11, c12, c13, c14, c15, -⟩ := own_16 o1
  go_enter Tryz.func26, Tryz.ntmps26
  go_wp2_with fail
  rw [← hW]
  clear hW
  try go_wp2_with fail
  refine (nine_ref a0 _).mono ?_
  rintro e w1 ⟨rfl, hx⟩
  rw [n0]
  clear c0 c1 c2 c3 c4 c5 c6 c7 c8 c9 c10 c11 c12 c13 c14 c15
  replace o1 := o1.below hx
  replace hb := hb.trans (hx.mono hb.size)
  obtain ⟨c0, c1, c2, c3, c4, c5, c6, c7, c8, c9, c10, c11, c12, c13, c14, c15, -⟩ := own_16 o1
  clear hx
  go_wp2_with fail
  refine (nine_ref a1 _).mono ?_
  rintro e w2 ⟨rfl, hx⟩
  rw [n1]
  clear c0 c1 c2 c3 c4 c5 c6 c7 c8 c9 c10 c11 c12 c13 c14 c15
  replace o1 := o1.below hx
  replace hb := hb.trans (hx.mono hb.size)
  obtain ⟨c0, c1, c2, c3, c4, c5, c6, c7, c8, c9, c10, c11, c12, c13, c14, c15, -⟩ := own_16 o1
  clear hx
  go_wp2_with fail
  refine (nine_ref a2 _).mono ?_
  rintro e w3 ⟨rfl, hx⟩
  rw [n2]
  clear c0 c1 c2 c3 c4 c5 c6 c7 c8 c9 c10 c11 c12 c13 c14 c15
  replace o1 := o1.below hx
  replace hb := hb.trans (hx.mono hb.size)
  obtain ⟨c0, c1, c2, c3, c4, c5, c6, c7, c8, c9, c10, c11, c12, c13, c14, c15, -⟩ := own_16 o1
  clear hx
  go_wp2_with fail
  refine (nine_ref a3 _).mono ?_
  rintro e w4 ⟨rfl, hx⟩
  rw [n3]
  clear c0 c1 c2 c3 c4 c5 c6 c7 c8 c9 c10 c11 c12 c13 c14 c15
  replace o1 := o1.below hx
  replace hb := hb.trans (hx.mono hb.size)
  obtain ⟨c0, c1, c2, c3, c4, c5, c6, c7, c8, c9, c10, c11, c12, c13, c14, c15, -⟩ := own_16 o1
  clear hx
  go_wp2_with fail
  refine (nine_ref a4 _).mono ?_
  rintro e w5 ⟨rfl, hx⟩
  rw [n4]
  clear c0 c1 c2 c3 c4 c5 c6 c7 c8 c9 c10 c11 c12 c13 c14 c15
  replace o1 := o1.below hx
  replace hb := hb.trans (hx.mono hb.size)
  obtain ⟨c0, c1, c2, c3, c4, c5, c6, c7, c8, c9, c10, c11, c12, c13, c14, c15, -⟩ := own_16 o1
  clear hx
  go_wp2_with fail
  refine (nine_ref a5 _).mono ?_
  rintro e w6 ⟨rfl, hx⟩
  rw [n5]
  clear c0 c1 c2 c3 c4 c5 c6 c7 c8 c9 c10 c11 c12 c13 c14 c15
  replace o1 := o1.below hx
  replace hb := hb.trans (hx.mono hb.size)
  obtain ⟨c0, c1, c2, c3, c4, c5, c6, c7, c8, c9, c10, c11, c12, c13, c14, c15, -⟩ := own_16 o1
  clear hx
  go_wp2_with fail
  refine (nine_ref a6 _).mono ?_
  rintro e w7 ⟨rfl, hx⟩
  rw [n6]
  clear c0 c1 c2 c3 c4 c5 c6 c7 c8 c9 c10 c11 c12 c13 c14 c15
  replace o1 := o1.below hx
  replace hb := hb.trans (hx.mono hb.size)
  obtain ⟨c0, c1, c2, c3, c4, c5, c6, c7, c8, c9, c10, c11, c12, c13, c14, c15, -⟩ := own_16 o1
  clear hx
  go_wp2_with fail
  refine (nine_ref a7 _).mono ?_
  rintro e w8 ⟨rfl, hx⟩
  rw [n7]
  clear c0 c1 c2 c3 c4 c5 c6 c7 c8 c9 c10 c11 c12 c13 c14 c15
  replace o1 := o1.below hx
  replace hb := hb.trans (hx.mono hb.size)
  obtain ⟨c0, c1, c2, c3, c4, c5, c6, c7, c8, c9, c10, c11, c12, c13, c14, c15, -⟩ := own_16 o1
  clear hx
  go_wp2_with fail
  have hv1 := fun w => r_valid kn kd w
  rw [hk] at hv1
  have hv2 := fun w => nine_ref (kn * (100 / kd)) w
  rw [h3] at hv2
  obtain ⟨b1, b2, b3, b4⟩ := vldb_bd9 hk
  obtain ⟨m1, m2, m3, m4⟩ := kd_facts b1 b2
  have m5 := mul_facts b1 b2 b3 b4
  have m6 : (kd == 0) = false := by rw [beq_eq_false_iff_ne]; omega
  have m7 : IntKind.i64.wrap (kn * (100 / kd)) = kn * (100 / kd) := IntWalk.i64_in _ m5
  have m8 : IntKind.i64.wrap (100 % kd) = 100 % kd := IntWalk.i64_in _ (by omega)
  have m9 : IntKind.i64.wrap (100 / kd) = 100 / kd := IntWalk.i64_in _ (by omega)
  have r1 : (100 % kd != 0) = false := by rw [bne_eq_false_iff_eq]; exact h2
  have cz := o1.lt
  refine wp_region_up (by kernel_rfl) (by kernel_rfl) ?_
  repeat (go_big_quiet_step (first | (go_at_call 54; exact Ret.up (hv1 _)) | (go_at_call 53; exact Ret.up (hv2 _))))
  refine wpQuiet_nil ?_
  rintro x1 ⟨g, rfl⟩
  have hx := up_below _ g
  generalize up _ g = x1 at hx ⊢
  go_wp2_with fail
  go_ret
  exact Ret.mk rfl (hb.trans (hx.mono hb.size))
set_option maxHeartbeats 3200000 in
theorem can_exprs {Q R : Nat → Prop} (a0 a1 a2 a3 a4 a5 a6 a7 kn kd : Int) (we pe : Xp) (ad1 ad2 : Option Addr) (cap1 cap2 : Nat) (w : World) (hT : Tree Q w we (.agg #[.int .i64 we.o, .int .i64 we.n, .slice ad1 we.ks.length cap1])) (hU : Tree R w pe (.agg #[.int .i64 pe.o, .int .i64 pe.n, .slice ad2 pe.ks.length cap2])) (n0 : nineB a0 = true) (n1 : nineB a1 = true) (n2 : nineB a2 = true) (n3 : nineB a3 = true) (n4 : nineB a4 = true) (n5 : nineB a5 = true) (n6 : nineB a6 = true) (n7 : nineB a7 = true) (hk : vldB kn kd = true) (h2 : 100 % kd = 0) (h3 : nineB (kn * (100 / kd)) = true) : Calls Tryz.prog 26 #[.agg #[.int .i64 a0, .int .i64 a1, .int .i64 a2, .int .i64 a3, .int .i64 a4, .int .i64 a5, .int .i64 a6, .int .i64 a7, .int .i64 kn, .int .i64 kd, .int .i64 we.o, .int .i64 we.n, .slice ad1 we.ks.length cap1, .int .i64 pe.o, .int .i64 pe.n, .slice ad2 pe.ks.length cap2]] w (Ret (.bool (validF we && validF pe)) w) := by
  obtain ⟨W, hW⟩ : ∃ W, W = w.alloc (.cells #[.int .i64 a0, .int .i64 a1, .int .i64 a2, .int .i64 a3, .int .i64 a4, .int .i64 a5, .int .i64 a6, .int .i64 a7, .int .i64 kn, .int .i64 kd, .int .i64 we.o, .int .i64 we.n, .slice ad1 we.ks.length cap1, .int .i64 pe.o, .int .i64 pe.n, .slice ad2 pe.ks.length cap2] 52) := ⟨_, rfl⟩
  have o1 : Own W w.heap.size [.int .i64 a0, .int .i64 a1, .int .i64 a2, .int .i64 a3, .int .i64 a4, .int .i64 a5, .int .i64 a6, .int .i64 a7, .int .i64 kn, .int .i64 kd, .int .i64 we.o, .int .i64 we.n, .slice ad1 we.ks.length cap1, .int .i64 pe.o, .int .i64 pe.n, .slice ad2 pe.ks.length cap2] := by rw [hW]; exact Own.new w #[.int .i64 a0, .int .i64 a1, .int .i64 a2, .int .i64 a3, .int .i64 a4, .int .i64 a5, .int .i64 a6, .int .i64 a7, .int .i64 kn, .int .i64 kd, .int .i64 we.o, .int .i64 we.n, .slice ad1 we.ks.length cap1, .int .i64 pe.o, .int .i64 pe.n, .slice ad2 pe.ks.length cap2] 52
  have hb : Below w.heap.size w W := by rw [hW]; exact balloc (Below.refl _ _) _
  obtain ⟨c0, c1, c2, c3, c4, c5, c6, c7, c8, c9, c10, c11, c12, c13, c14, c15, -⟩ := own_16 o1
  go_enter Tryz.func26, Tryz.ntmps26
  go_wp2_with fail
  rw [← hW]
  clear hW
  try go_wp2_with fail
  refine (nine_ref a0 _).mono ?_
  rintro e w1 ⟨rfl, hx⟩
  rw [n0]
  clear c0 c1 c2 c3 c4 c5 c6 c7 c8 c9 c10 c11 c12 c13 c14 c15
  replace o1 := o1.below hx
  replace hb := hb.trans (hx.mono hb.size)
  obtain ⟨c0, c1, c2, c3, c4, c5, c6, c7, c8, c9, c10, c11, c12, c13, c14, c15, -⟩ := own_16 o1
  clear hx
  go_wp2_with fail
  refine (nine_ref a1 _).mono ?_
  rintro e w2 ⟨rfl, hx⟩
  rw [n1]
  clear c0 c1 c2 c3 c4 c5 c6 c7 c8 c9 c10 c11 c12 c13 c14 c15
  replace o1 := o1.below hx
  replace hb := hb.trans (hx.mono hb.size)
  obtain ⟨c0, c1, c2, c3, c4, c5, c6, c7, c8, c9, c10, c11, c12, c13, c14, c15, -⟩ := own_16 o1
  clear hx
  go_wp2_with fail
  refine (nine_ref a2 _).mono ?_
  rintro e w3 ⟨rfl, hx⟩
  rw [n2]
  clear c0 c1 c2 c3 c4 c5 c6 c7 c8 c9 c10 c11 c12 c13 c14 c15
  replace o1 := o1.below hx
  replace hb := hb.trans (hx.mono hb.size)
  obtain ⟨c0, c1, c2, c3, c4, c5, c6, c7, c8, c9, c10, c11, c12, c13, c14, c15, -⟩ := own_16 o1
  clear hx
  go_wp2_with fail
  refine (nine_ref a3 _).mono ?_
  rintro e w4 ⟨rfl, hx⟩
  rw [n3]
  clear c0 c1 c2 c3 c4 c5 c6 c7 c8 c9 c10 c11 c12 c13 c14 c15
  replace o1 := o1.below hx
  replace hb := hb.trans (hx.mono hb.size)
  obtain ⟨c0, c1, c2, c3, c4, c5, c6, c7, c8, c9, c10, c11, c12, c13, c14, c15, -⟩ := own_16 o1
  clear hx
  go_wp2_with fail
  refine (nine_ref a4 _).mono ?_
  rintro e w5 ⟨rfl, hx⟩
  rw [n4]
  clear c0 c1 c2 c3 c4 c5 c6 c7 c8 c9 c10 c11 c12 c13 c14 c15
  replace o1 := o1.below hx
  replace hb := hb.trans (hx.mono hb.size)
  obtain ⟨c0, c1, c2, c3, c4, c5, c6, c7, c8, c9, c10, c11, c12, c13, c14, c15, -⟩ := own_16 o1
  clear hx
  go_wp2_with fail
  refine (nine_ref a5 _).mono ?_
  rintro e w6 ⟨rfl, hx⟩
  rw [n5]
  clear c0 c1 c2 c3 c4 c5 c6 c7 c8 c9 c10 c11 c12 c13 c14 c15
  replace o1 := o1.below hx
  replace hb := hb.trans (hx.mono hb.size)
  obtain ⟨c0, c1, c2, c3, c4, c5, c6, c7, c8, c9, c10, c11, c12, c13, c14, c15, -⟩ := own_16 o1
  clear hx
  go_wp2_with fail
  refine (nine_ref a6 _).mono ?_
  rintro e w7 ⟨rfl, hx⟩
  rw [n6]
  clear c0 c1 c2 c3 c4 c5 c6 c7 c8 c9 c10 c11 c12 c13 c14 c15
  replace o1 := o1.below hx
  replace hb := hb.trans (hx.mono hb.size)
  obtain ⟨c0, c1, c2, c3, c4, c5, c6, c7, c8, c9, c10, c11, c12, c13, c14, c15, -⟩ := own_16 o1
  clear hx
  go_wp2_with fail
  refine (nine_ref a7 _).mono ?_
  rintro e w8 ⟨rfl, hx⟩
  rw [n7]
  clear c0 c1 c2 c3 c4 c5 c6 c7 c8 c9 c10 c11 c12 c13 c14 c15
  replace o1 := o1.below hx
  replace hb := hb.trans (hx.mono hb.size)
  obtain ⟨c0, c1, c2, c3, c4, c5, c6, c7, c8, c9, c10, c11, c12, c13, c14, c15, -⟩ := own_16 o1
  clear hx
  go_wp2_with fail
  have hv1 := fun w => r_valid kn kd w
  rw [hk] at hv1
  have hv2 := fun w => nine_ref (kn * (100 / kd)) w
  rw [h3] at hv2
  obtain ⟨b1, b2, b3, b4⟩ := vldb_bd9 hk
  obtain ⟨m1, m2, m3, m4⟩ := kd_facts b1 b2
  have m5 := mul_facts b1 b2 b3 b4
  have m6 : (kd == 0) = false := by rw [beq_eq_false_iff_ne]; omega
  have m7 : IntKind.i64.wrap (kn * (100 / kd)) = kn * (100 / kd) := IntWalk.i64_in _ m5
  have m8 : IntKind.i64.wrap (100 % kd) = 100 % kd := IntWalk.i64_in _ (by omega)
  have m9 : IntKind.i64.wrap (100 / kd) = 100 / kd := IntWalk.i64_in _ (by omega)
  have r1 : (100 % kd != 0) = false := by rw [bne_eq_false_iff_eq]; exact h2
  have hw1 := fun w1 (h : Below w.heap.size w w1) => rvalid8_any we _ w1 (hT.below h)
  have hw2 := fun w1 (h : Below w.heap.size w w1) => rvalid8_any pe _ w1 (hU.below h)
  have cz := o1.lt
  refine wp_region_up (by kernel_rfl) (by kernel_rfl) ?_
  repeat (go_big_quiet_step (first | (go_at_call 54; exact Ret.up (hv1 _)) | (go_at_call 53; exact Ret.up (hv2 _))))
  refine wpQuiet_nil ?_
  rintro x1 ⟨g, rfl⟩
  have hx := up_below _ g
  generalize up _ g = x1 at hx ⊢
  replace hb := hb.trans (hx.mono hb.size)
  clear c0 c1 c2 c3 c4 c5 c6 c7 c8 c9 c10 c11 c12 c13 c14 c15 cz
  replace o1 := o1.below hx
  obtain ⟨c0, c1, c2, c3, c4, c5, c6, c7, c8, c9, c10, c11, c12, c13, c14, c15, cz⟩ := own_16 o1
  clear hx hv1 hv2
  go_wp2_with fail
  refine (hw1 _ hb).mono ?_
  rintro e x2 ⟨rfl, hx⟩
  replace hb := hb.trans (hx.mono hb.size)
  clear c0 c1 c2 c3 c4 c5 c6 c7 c8 c9 c10 c11 c12 c13 c14 c15 cz
  replace o1 := o1.below hx
  obtain ⟨c0, c1, c2, c3, c4, c5, c6, c7, c8, c9, c10, c11, c12, c13, c14, c15, cz⟩ := own_16 o1
  clear hx hw1
  cases hv : validF we with
  | false =>
    go_wp2_with fail
    go_ret
    exact Ret.mk (by first | (rw [hv]; rfl) | simp [hv]) hb
  | true =>
    go_wp2_with fail
    refine (hw2 _ hb).mono ?_
    rintro e x3 ⟨rfl, hx⟩
    go_wp2_with fail
    go_ret
    exact Ret.mk (by first | (rw [hv]; rfl) | simp [hv]) (hb.trans (hx.mono hb.size))
theorem can_any {Q R : Nat → Prop} (a0 a1 a2 a3 a4 a5 a6 a7 kn kd : Int) (we pe : Xp) (ad1 ad2 : Option Addr) (cap1 cap2 : Nat) (w : World) (hT : Tree Q w we (.agg #[.int .i64 we.o, .int .i64 we.n, .slice ad1 we.ks.length cap1])) (hU : Tree R w pe (.agg #[.int .i64 pe.o, .int .i64 pe.n, .slice ad2 pe.ks.length cap2])) : Calls Tryz.prog 26 #[.agg #[.int .i64 a0, .int .i64 a1, .int .i64 a2, .int .i64 a3, .int .i64 a4, .int .i64 a5, .int .i64 a6, .int .i64 a7, .int .i64 kn, .int .i64 kd, .int .i64 we.o, .int .i64 we.n, .slice ad1 we.ks.length cap1, .int .i64 pe.o, .int .i64 pe.n, .slice ad2 pe.ks.length cap2]] w (Ret (.bool (canR a0 a1 a2 a3 a4 a5 a6 a7 kn kd we pe)) w) := by
  unfold canR keepB
  cases n0 : nineB a0 with
  | false => simpa using can_n0 a0 a1 a2 a3 a4 a5 a6 a7 kn kd we pe ad1 ad2 cap1 cap2 w hT hU n0
  | true =>
  cases n1 : nineB a1 with
  | false => simpa using can_n1 a0 a1 a2 a3 a4 a5 a6 a7 kn kd we pe ad1 ad2 cap1 cap2 w hT hU n0 n1
  | true =>
  cases n2 : nineB a2 with
  | false => simpa using can_n2 a0 a1 a2 a3 a4 a5 a6 a7 kn kd we pe ad1 ad2 cap1 cap2 w hT hU n0 n1 n2
  | true =>
  cases n3 : nineB a3 with
  | false => simpa using can_n3 a0 a1 a2 a3 a4 a5 a6 a7 kn kd we pe ad1 ad2 cap1 cap2 w hT hU n0 n1 n2 n3
  | true =>
  cases n4 : nineB a4 with
  | false => simpa using can_n4 a0 a1 a2 a3 a4 a5 a6 a7 kn kd we pe ad1 ad2 cap1 cap2 w hT hU n0 n1 n2 n3 n4
  | true =>
  cases n5 : nineB a5 with
  | false => simpa using can_n5 a0 a1 a2 a3 a4 a5 a6 a7 kn kd we pe ad1 ad2 cap1 cap2 w hT hU n0 n1 n2 n3 n4 n5
  | true =>
  cases n6 : nineB a6 with
  | false => simpa using can_n6 a0 a1 a2 a3 a4 a5 a6 a7 kn kd we pe ad1 ad2 cap1 cap2 w hT hU n0 n1 n2 n3 n4 n5 n6
  | true =>
  cases n7 : nineB a7 with
  | false => simpa using can_n7 a0 a1 a2 a3 a4 a5 a6 a7 kn kd we pe ad1 ad2 cap1 cap2 w hT hU n0 n1 n2 n3 n4 n5 n6 n7
  | true =>
  cases hk : vldB kn kd with
  | false => simpa using can_keep a0 a1 a2 a3 a4 a5 a6 a7 kn kd we pe ad1 ad2 cap1 cap2 w hT hU n0 n1 n2 n3 n4 n5 n6 n7 hk
  | true =>
  by_cases h2 : 100 % kd = 0
  · cases h3 : nineB (kn * (100 / kd)) with
    | false => simpa using can_pct a0 a1 a2 a3 a4 a5 a6 a7 kn kd we pe ad1 ad2 cap1 cap2 w hT hU n0 n1 n2 n3 n4 n5 n6 n7 hk h2 h3
    | true => simpa [h2] using can_exprs a0 a1 a2 a3 a4 a5 a6 a7 kn kd we pe ad1 ad2 cap1 cap2 w hT hU n0 n1 n2 n3 n4 n5 n6 n7 hk h2 h3
  · simpa [h2] using can_rem a0 a1 a2 a3 a4 a5 a6 a7 kn kd we pe ad1 ad2 cap1 cap2 w hT hU n0 n1 n2 n3 n4 n5 n6 n7 hk h2
end Go.Proofs.YtlkefcbkpohpgaaGreatDoor
