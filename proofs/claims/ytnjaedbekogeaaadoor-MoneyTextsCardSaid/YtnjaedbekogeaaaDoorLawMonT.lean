/-
  The walk of MoneyTexts.
-/
import Derived.Test.YtnjaedbekogeaaaDoorMonHead
namespace Go.Proofs.YtnjaedbekogeaaaDoor
open Go.RowKit Go.Shelf
set_option maxRecDepth 100000

theorem txt_short (c : Int) (hc : wthB c 1000000000 = true) : (txtOf c).length ≤ 1000 := by
  have hc2 : -1000000000 ≤ c ∧ c ≤ 1000000000 := by simpa [wthB] using hc
  have := dec_len 7 (c.natAbs / 100) (by omega)
  unfold txtOf
  split <;> simp <;> omega
theorem txt_inj {a b : Int} (ha : wthB a 1000000000 = true) (hb : wthB b 1000000000 = true) (h : txtOf a = txtOf b) : a = b := by
  rw [← pN_txt a ha, ← pN_txt b hb, h]
theorem parse_cases (s : List UInt8) : (∃ n, parseF s = (n, 0) ∧ textF n = (s, 0)) ∨ parseF s = (0, 7) := by
  by_cases h : wthB (pN s) 1000000000 = true ∧ txtOf (pN s) = s
  · exact .inl ⟨pN s, by unfold parseF; rw [if_pos h], by rw [textF_ok h.1, h.2]⟩
  · exact .inr (by unfold parseF; rw [if_neg h])

set_option maxHeartbeats 1000000 in
theorem walkT_long (a b : Int) (s : List UInt8) (w : World) (hL : Lay w) (hl : 100 < s.length) : Calls Tryd.prog 8 #[.int .i64 a, .int .i64 b, .string ⟨s.toArray⟩] w (Ret (.bool true) w) := by
  have hsz : (⟨s.toArray⟩ : ByteArray).size = s.length := by simp [ByteArray.size]
  have hb : Below w.heap.size w w := Below.refl _ _
  have hH : ∀ wk, Below w.heap.size w wk → Calls Tryd.prog 9 #[] wk (Ret (.bool true) wk) := fun wk h => mhead_any wk (hL.below h)
  have q0 : decide (100 < (s.length : Int)) = true := by rw [decide_eq_true_iff]; omega
  go_enter Tryd.func8, Tryd.ntmps8
  go_wp2_with fail
  refine (hH _ hb).mono ?_
  rintro e w1 ⟨rfl, hx⟩
  replace hb : Below w.heap.size w w1 := Below.trans (by (repeat (first | exact Below.refl _ _ | assumption | refine Below.drew ?_ | refine below_drewN ?_ _ | refine Below.setCell ?_ (by first | omega | (simp <;> omega)) _ | refine Below.alloc ?_ (by have := hb.size; first | omega | (simp <;> omega)) _))) (hx.mono (by have := hb.size; first | omega | (simp <;> omega)))
  clear hx
  clear hH
  go_wp2_with fail
  go_ret
  exact Ret.mk rfl hb

set_option maxHeartbeats 1000000 in
theorem walkT_ok_a (a b : Int) (s : List UInt8) (w : World) (hL : Lay w) (hl : ¬ 100 < s.length) (n : Int) (hp : parseF s = (n, 0)) (ht : textF n = (s, 0)) (ha : wthB a 1000000000 = false) : Calls Tryd.prog 8 #[.int .i64 a, .int .i64 b, .string ⟨s.toArray⟩] w (Ret (.bool true) w) := by
  have hsz : (⟨s.toArray⟩ : ByteArray).size = s.length := by simp [ByteArray.size]
  have hb : Below w.heap.size w w := Below.refl _ _
  have hH : ∀ wk, Below w.heap.size w wk → Calls Tryd.prog 9 #[] wk (Ret (.bool true) wk) := fun wk h => mhead_any wk (hL.below h)
  have q0 : decide (100 < (s.length : Int)) = false := by rw [decide_eq_false_iff_not]; omega
  have hP : ∀ wk, Below w.heap.size w wk → Calls Tryd.prog 19 #[.string ⟨(s).toArray⟩] wk (Ret (.tuple #[.int .i64 n, .int .i64 0]) wk) := fun wk h => by
    have := mparse_any s (by omega) wk (hL.below h); rw [hp] at this; exact this
  have hT : ∀ wk, Below w.heap.size w wk → Calls Tryd.prog 17 #[.int .i64 n] wk (Ret (.tuple #[.string ⟨(s).toArray⟩, .int .i64 0]) wk) := fun wk h => by
    have := mtext_any n wk (hL.below h).tab; rw [ht] at this; exact this
  have HA := Lib.hid ha
  clear ha hL hp ht
  go_enter Tryd.func8, Tryd.ntmps8
  go_wp2_with fail
  refine (hH _ hb).mono ?_
  rintro e w1 ⟨rfl, hx⟩
  replace hb : Below w.heap.size w w1 := Below.trans (by (repeat (first | exact Below.refl _ _ | assumption | refine Below.drew ?_ | refine below_drewN ?_ _ | refine Below.setCell ?_ (by first | omega | (simp <;> omega)) _ | refine Below.alloc ?_ (by have := hb.size; first | omega | (simp <;> omega)) _))) (hx.mono (by have := hb.size; first | omega | (simp <;> omega)))
  clear hx
  clear hH
  go_wp2_with fail
  refine (hP _ hb).mono ?_
  rintro e w2 ⟨rfl, hx⟩
  replace hb : Below w.heap.size w w2 := Below.trans (by (repeat (first | exact Below.refl _ _ | assumption | refine Below.drew ?_ | refine below_drewN ?_ _ | refine Below.setCell ?_ (by first | omega | (simp <;> omega)) _ | refine Below.alloc ?_ (by have := hb.size; first | omega | (simp <;> omega)) _))) (hx.mono (by have := hb.size; first | omega | (simp <;> omega)))
  clear hx
  clear hP
  go_wp2_with fail
  refine (hT _ hb).mono ?_
  rintro e w3 ⟨rfl, hx⟩
  replace hb : Below w.heap.size w w3 := Below.trans (by (repeat (first | exact Below.refl _ _ | assumption | refine Below.drew ?_ | refine below_drewN ?_ _ | refine Below.setCell ?_ (by first | omega | (simp <;> omega)) _ | refine Below.alloc ?_ (by have := hb.size; first | omega | (simp <;> omega)) _))) (hx.mono (by have := hb.size; first | omega | (simp <;> omega)))
  clear hx
  clear hT
  go_wp2_with fail
  refine (rAmount_at _ _ HA.out).mono ?_
  rintro e w' ⟨rfl, rfl⟩
  go_wp2_with fail
  go_ret
  exact Ret.mk (by first | rfl | simp) hb

set_option maxHeartbeats 1000000 in
theorem walkT_ok_b (a b : Int) (s : List UInt8) (w : World) (hL : Lay w) (hl : ¬ 100 < s.length) (n : Int) (hp : parseF s = (n, 0)) (ht : textF n = (s, 0)) (ha : wthB a 1000000000 = true) (hb2 : wthB b 1000000000 = false) : Calls Tryd.prog 8 #[.int .i64 a, .int .i64 b, .string ⟨s.toArray⟩] w (Ret (.bool true) w) := by
  have hsz : (⟨s.toArray⟩ : ByteArray).size = s.length := by simp [ByteArray.size]
  have hb : Below w.heap.size w w := Below.refl _ _
  have hH : ∀ wk, Below w.heap.size w wk → Calls Tryd.prog 9 #[] wk (Ret (.bool true) wk) := fun wk h => mhead_any wk (hL.below h)
  have q0 : decide (100 < (s.length : Int)) = false := by rw [decide_eq_false_iff_not]; omega
  have hP : ∀ wk, Below w.heap.size w wk → Calls Tryd.prog 19 #[.string ⟨(s).toArray⟩] wk (Ret (.tuple #[.int .i64 n, .int .i64 0]) wk) := fun wk h => by
    have := mparse_any s (by omega) wk (hL.below h); rw [hp] at this; exact this
  have hT : ∀ wk, Below w.heap.size w wk → Calls Tryd.prog 17 #[.int .i64 n] wk (Ret (.tuple #[.string ⟨(s).toArray⟩, .int .i64 0]) wk) := fun wk h => by
    have := mtext_any n wk (hL.below h).tab; rw [ht] at this; exact this
  have HA := Lib.hid ha
  have HB := Lib.hid hb2
  clear ha hL hp hb2 ht
  go_enter Tryd.func8, Tryd.ntmps8
  go_wp2_with fail
  refine (hH _ hb).mono ?_
  rintro e w1 ⟨rfl, hx⟩
  replace hb : Below w.heap.size w w1 := Below.trans (by (repeat (first | exact Below.refl _ _ | assumption | refine Below.drew ?_ | refine below_drewN ?_ _ | refine Below.setCell ?_ (by first | omega | (simp <;> omega)) _ | refine Below.alloc ?_ (by have := hb.size; first | omega | (simp <;> omega)) _))) (hx.mono (by have := hb.size; first | omega | (simp <;> omega)))
  clear hx
  clear hH
  go_wp2_with fail
  refine (hP _ hb).mono ?_
  rintro e w2 ⟨rfl, hx⟩
  replace hb : Below w.heap.size w w2 := Below.trans (by (repeat (first | exact Below.refl _ _ | assumption | refine Below.drew ?_ | refine below_drewN ?_ _ | refine Below.setCell ?_ (by first | omega | (simp <;> omega)) _ | refine Below.alloc ?_ (by have := hb.size; first | omega | (simp <;> omega)) _))) (hx.mono (by have := hb.size; first | omega | (simp <;> omega)))
  clear hx
  clear hP
  go_wp2_with fail
  refine (hT _ hb).mono ?_
  rintro e w3 ⟨rfl, hx⟩
  replace hb : Below w.heap.size w w3 := Below.trans (by (repeat (first | exact Below.refl _ _ | assumption | refine Below.drew ?_ | refine below_drewN ?_ _ | refine Below.setCell ?_ (by first | omega | (simp <;> omega)) _ | refine Below.alloc ?_ (by have := hb.size; first | omega | (simp <;> omega)) _))) (hx.mono (by have := hb.size; first | omega | (simp <;> omega)))
  clear hx
  clear hT
  go_wp2_with fail
  refine (rAmount_at _ _ HA.out).mono ?_
  rintro e w' ⟨rfl, rfl⟩
  go_wp2_with fail
  refine (rAmount_at _ _ HB.out).mono ?_
  rintro e w' ⟨rfl, rfl⟩
  go_wp2_with fail
  go_ret
  exact Ret.mk (by first | rfl | simp) hb

set_option maxHeartbeats 1000000 in
theorem walkT_ok_same (a b : Int) (s : List UInt8) (w : World) (hL : Lay w) (hl : ¬ 100 < s.length) (n : Int) (hp : parseF s = (n, 0)) (ht : textF n = (s, 0)) (ha : wthB a 1000000000 = true) (hb2 : wthB b 1000000000 = true) (he : a = b) : Calls Tryd.prog 8 #[.int .i64 a, .int .i64 b, .string ⟨s.toArray⟩] w (Ret (.bool true) w) := by
  have hsz : (⟨s.toArray⟩ : ByteArray).size = s.length := by simp [ByteArray.size]
  have hb : Below w.heap.size w w := Below.refl _ _
  have hH : ∀ wk, Below w.heap.size w wk → Calls Tryd.prog 9 #[] wk (Ret (.bool true) wk) := fun wk h => mhead_any wk (hL.below h)
  have q0 : decide (100 < (s.length : Int)) = false := by rw [decide_eq_false_iff_not]; omega
  have hP : ∀ wk, Below w.heap.size w wk → Calls Tryd.prog 19 #[.string ⟨(s).toArray⟩] wk (Ret (.tuple #[.int .i64 n, .int .i64 0]) wk) := fun wk h => by
    have := mparse_any s (by omega) wk (hL.below h); rw [hp] at this; exact this
  have hT : ∀ wk, Below w.heap.size w wk → Calls Tryd.prog 17 #[.int .i64 n] wk (Ret (.tuple #[.string ⟨(s).toArray⟩, .int .i64 0]) wk) := fun wk h => by
    have := mtext_any n wk (hL.below h).tab; rw [ht] at this; exact this
  subst he
  have hA : ∀ wk, Below w.heap.size w wk → Calls Tryd.prog 17 #[.int .i64 a] wk (Ret (.tuple #[.string ⟨(txtOf a).toArray⟩, .int .i64 0]) wk) := fun wk h => by
    have := mtext_any a wk (hL.below h).tab; rw [textF_ok ha] at this; exact this
  have hM : ∀ wk, Below w.heap.size w wk → Calls Tryd.prog 19 #[.string ⟨((txtOf a)).toArray⟩] wk (Ret (.tuple #[.int .i64 a, .int .i64 0]) wk) := fun wk h => by
    have := mparse_any (txtOf a) (txt_short a ha) wk (hL.below h); rw [parse_txt ha] at this; exact this
  have HA := Lib.hid ha
  have HB := Lib.hid hb2
  generalize txtOf a = xa at *
  clear ha hL hp hb2 ht
  go_enter Tryd.func8, Tryd.ntmps8
  go_wp2_with fail
  refine (hH _ hb).mono ?_
  rintro e w1 ⟨rfl, hx⟩
  replace hb : Below w.heap.size w w1 := Below.trans (by (repeat (first | exact Below.refl _ _ | assumption | refine Below.drew ?_ | refine below_drewN ?_ _ | refine Below.setCell ?_ (by first | omega | (simp <;> omega)) _ | refine Below.alloc ?_ (by have := hb.size; first | omega | (simp <;> omega)) _))) (hx.mono (by have := hb.size; first | omega | (simp <;> omega)))
  clear hx
  clear hH
  go_wp2_with fail
  refine (hP _ hb).mono ?_
  rintro e w2 ⟨rfl, hx⟩
  replace hb : Below w.heap.size w w2 := Below.trans (by (repeat (first | exact Below.refl _ _ | assumption | refine Below.drew ?_ | refine below_drewN ?_ _ | refine Below.setCell ?_ (by first | omega | (simp <;> omega)) _ | refine Below.alloc ?_ (by have := hb.size; first | omega | (simp <;> omega)) _))) (hx.mono (by have := hb.size; first | omega | (simp <;> omega)))
  clear hx
  clear hP
  go_wp2_with fail
  refine (hT _ hb).mono ?_
  rintro e w3 ⟨rfl, hx⟩
  replace hb : Below w.heap.size w w3 := Below.trans (by (repeat (first | exact Below.refl _ _ | assumption | refine Below.drew ?_ | refine below_drewN ?_ _ | refine Below.setCell ?_ (by first | omega | (simp <;> omega)) _ | refine Below.alloc ?_ (by have := hb.size; first | omega | (simp <;> omega)) _))) (hx.mono (by have := hb.size; first | omega | (simp <;> omega)))
  clear hx
  clear hT
  go_wp2_with fail
  refine (rAmount_at _ _ HA.out).mono ?_
  rintro e w' ⟨rfl, rfl⟩
  go_wp2_with fail
  refine (rAmount_at _ _ HB.out).mono ?_
  rintro e w' ⟨rfl, rfl⟩
  go_wp2_with fail
  refine (hA _ hb).mono ?_
  rintro e w4 ⟨rfl, hx⟩
  replace hb : Below w.heap.size w w4 := Below.trans (by (repeat (first | exact Below.refl _ _ | assumption | refine Below.drew ?_ | refine below_drewN ?_ _ | refine Below.setCell ?_ (by first | omega | (simp <;> omega)) _ | refine Below.alloc ?_ (by have := hb.size; first | omega | (simp <;> omega)) _))) (hx.mono (by have := hb.size; first | omega | (simp <;> omega)))
  clear hx
  go_wp2_with fail
  refine (hA _ hb).mono ?_
  rintro e w5 ⟨rfl, hx⟩
  replace hb : Below w.heap.size w w5 := Below.trans (by (repeat (first | exact Below.refl _ _ | assumption | refine Below.drew ?_ | refine below_drewN ?_ _ | refine Below.setCell ?_ (by first | omega | (simp <;> omega)) _ | refine Below.alloc ?_ (by have := hb.size; first | omega | (simp <;> omega)) _))) (hx.mono (by have := hb.size; first | omega | (simp <;> omega)))
  clear hx
  go_wp2_with fail
  refine (hM _ hb).mono ?_
  rintro e w6 ⟨rfl, hx⟩
  replace hb : Below w.heap.size w w6 := Below.trans (by (repeat (first | exact Below.refl _ _ | assumption | refine Below.drew ?_ | refine below_drewN ?_ _ | refine Below.setCell ?_ (by first | omega | (simp <;> omega)) _ | refine Below.alloc ?_ (by have := hb.size; first | omega | (simp <;> omega)) _))) (hx.mono (by have := hb.size; first | omega | (simp <;> omega)))
  clear hx
  go_wp2_with fail
  go_ret
  exact Ret.mk (by first | rfl | simp) hb

set_option maxHeartbeats 1000000 in
theorem walkT_ok_diff (a b : Int) (s : List UInt8) (w : World) (hL : Lay w) (hl : ¬ 100 < s.length) (n : Int) (hp : parseF s = (n, 0)) (ht : textF n = (s, 0)) (ha : wthB a 1000000000 = true) (hb2 : wthB b 1000000000 = true) (he : ¬ a = b) : Calls Tryd.prog 8 #[.int .i64 a, .int .i64 b, .string ⟨s.toArray⟩] w (Ret (.bool true) w) := by
  have hsz : (⟨s.toArray⟩ : ByteArray).size = s.length := by simp [ByteArray.size]
  have hb : Below w.heap.size w w := Below.refl _ _
  have hH : ∀ wk, Below w.heap.size w wk → Calls Tryd.prog 9 #[] wk (Ret (.bool true) wk) := fun wk h => mhead_any wk (hL.below h)
  have q0 : decide (100 < (s.length : Int)) = false := by rw [decide_eq_false_iff_not]; omega
  have hP : ∀ wk, Below w.heap.size w wk → Calls Tryd.prog 19 #[.string ⟨(s).toArray⟩] wk (Ret (.tuple #[.int .i64 n, .int .i64 0]) wk) := fun wk h => by
    have := mparse_any s (by omega) wk (hL.below h); rw [hp] at this; exact this
  have hT : ∀ wk, Below w.heap.size w wk → Calls Tryd.prog 17 #[.int .i64 n] wk (Ret (.tuple #[.string ⟨(s).toArray⟩, .int .i64 0]) wk) := fun wk h => by
    have := mtext_any n wk (hL.below h).tab; rw [ht] at this; exact this
  have hA : ∀ wk, Below w.heap.size w wk → Calls Tryd.prog 17 #[.int .i64 a] wk (Ret (.tuple #[.string ⟨(txtOf a).toArray⟩, .int .i64 0]) wk) := fun wk h => by
    have := mtext_any a wk (hL.below h).tab; rw [textF_ok ha] at this; exact this
  have hB : ∀ wk, Below w.heap.size w wk → Calls Tryd.prog 17 #[.int .i64 b] wk (Ret (.tuple #[.string ⟨(txtOf b).toArray⟩, .int .i64 0]) wk) := fun wk h => by
    have := mtext_any b wk (hL.below h).tab; rw [textF_ok hb2] at this; exact this
  have hM : ∀ wk, Below w.heap.size w wk → Calls Tryd.prog 19 #[.string ⟨((txtOf a)).toArray⟩] wk (Ret (.tuple #[.int .i64 a, .int .i64 0]) wk) := fun wk h => by
    have := mparse_any (txtOf a) (txt_short a ha) wk (hL.below h); rw [parse_txt ha] at this; exact this
  have e1 : (txtOf a == txtOf b) = false := by rw [beq_eq_false_iff_ne]; exact fun h => he (txt_inj ha hb2 h)
  have e2 : (a == b) = false := by rw [beq_eq_false_iff_ne]; exact he
  have HA := Lib.hid ha
  have HB := Lib.hid hb2
  generalize txtOf a = xa at *
  generalize txtOf b = xb at *
  clear ha hL hp hb2 he ht
  go_enter Tryd.func8, Tryd.ntmps8
  go_wp2_with fail
  refine (hH _ hb).mono ?_
  rintro e w1 ⟨rfl, hx⟩
  replace hb : Below w.heap.size w w1 := Below.trans (by (repeat (first | exact Below.refl _ _ | assumption | refine Below.drew ?_ | refine below_drewN ?_ _ | refine Below.setCell ?_ (by first | omega | (simp <;> omega)) _ | refine Below.alloc ?_ (by have := hb.size; first | omega | (simp <;> omega)) _))) (hx.mono (by have := hb.size; first | omega | (simp <;> omega)))
  clear hx
  clear hH
  go_wp2_with fail
  refine (hP _ hb).mono ?_
  rintro e w2 ⟨rfl, hx⟩
  replace hb : Below w.heap.size w w2 := Below.trans (by (repeat (first | exact Below.refl _ _ | assumption | refine Below.drew ?_ | refine below_drewN ?_ _ | refine Below.setCell ?_ (by first | omega | (simp <;> omega)) _ | refine Below.alloc ?_ (by have := hb.size; first | omega | (simp <;> omega)) _))) (hx.mono (by have := hb.size; first | omega | (simp <;> omega)))
  clear hx
  clear hP
  go_wp2_with fail
  refine (hT _ hb).mono ?_
  rintro e w3 ⟨rfl, hx⟩
  replace hb : Below w.heap.size w w3 := Below.trans (by (repeat (first | exact Below.refl _ _ | assumption | refine Below.drew ?_ | refine below_drewN ?_ _ | refine Below.setCell ?_ (by first | omega | (simp <;> omega)) _ | refine Below.alloc ?_ (by have := hb.size; first | omega | (simp <;> omega)) _))) (hx.mono (by have := hb.size; first | omega | (simp <;> omega)))
  clear hx
  clear hT
  go_wp2_with fail
  refine (rAmount_at _ _ HA.out).mono ?_
  rintro e w' ⟨rfl, rfl⟩
  go_wp2_with fail
  refine (rAmount_at _ _ HB.out).mono ?_
  rintro e w' ⟨rfl, rfl⟩
  go_wp2_with fail
  refine (hA _ hb).mono ?_
  rintro e w4 ⟨rfl, hx⟩
  replace hb : Below w.heap.size w w4 := Below.trans (by (repeat (first | exact Below.refl _ _ | assumption | refine Below.drew ?_ | refine below_drewN ?_ _ | refine Below.setCell ?_ (by first | omega | (simp <;> omega)) _ | refine Below.alloc ?_ (by have := hb.size; first | omega | (simp <;> omega)) _))) (hx.mono (by have := hb.size; first | omega | (simp <;> omega)))
  clear hx
  go_wp2_with fail
  refine (hB _ hb).mono ?_
  rintro e w5 ⟨rfl, hx⟩
  replace hb : Below w.heap.size w w5 := Below.trans (by (repeat (first | exact Below.refl _ _ | assumption | refine Below.drew ?_ | refine below_drewN ?_ _ | refine Below.setCell ?_ (by first | omega | (simp <;> omega)) _ | refine Below.alloc ?_ (by have := hb.size; first | omega | (simp <;> omega)) _))) (hx.mono (by have := hb.size; first | omega | (simp <;> omega)))
  clear hx
  go_wp2_with fail
  refine (hM _ hb).mono ?_
  rintro e w6 ⟨rfl, hx⟩
  replace hb : Below w.heap.size w w6 := Below.trans (by (repeat (first | exact Below.refl _ _ | assumption | refine Below.drew ?_ | refine below_drewN ?_ _ | refine Below.setCell ?_ (by first | omega | (simp <;> omega)) _ | refine Below.alloc ?_ (by have := hb.size; first | omega | (simp <;> omega)) _))) (hx.mono (by have := hb.size; first | omega | (simp <;> omega)))
  clear hx
  go_wp2_with fail
  go_ret
  exact Ret.mk (by first | rfl | simp) hb

set_option maxHeartbeats 1000000 in
theorem walkT_bad_a (a b : Int) (s : List UInt8) (w : World) (hL : Lay w) (hl : ¬ 100 < s.length) (hp : parseF s = (0, 7)) (ha : wthB a 1000000000 = false) : Calls Tryd.prog 8 #[.int .i64 a, .int .i64 b, .string ⟨s.toArray⟩] w (Ret (.bool true) w) := by
  have hsz : (⟨s.toArray⟩ : ByteArray).size = s.length := by simp [ByteArray.size]
  have hb : Below w.heap.size w w := Below.refl _ _
  have hH : ∀ wk, Below w.heap.size w wk → Calls Tryd.prog 9 #[] wk (Ret (.bool true) wk) := fun wk h => mhead_any wk (hL.below h)
  have q0 : decide (100 < (s.length : Int)) = false := by rw [decide_eq_false_iff_not]; omega
  have hP : ∀ wk, Below w.heap.size w wk → Calls Tryd.prog 19 #[.string ⟨(s).toArray⟩] wk (Ret (.tuple #[.int .i64 0, .int .i64 7]) wk) := fun wk h => by
    have := mparse_any s (by omega) wk (hL.below h); rw [hp] at this; exact this
  have HA := Lib.hid ha
  clear ha hL hp
  go_enter Tryd.func8, Tryd.ntmps8
  go_wp2_with fail
  refine (hH _ hb).mono ?_
  rintro e w1 ⟨rfl, hx⟩
  replace hb : Below w.heap.size w w1 := Below.trans (by (repeat (first | exact Below.refl _ _ | assumption | refine Below.drew ?_ | refine below_drewN ?_ _ | refine Below.setCell ?_ (by first | omega | (simp <;> omega)) _ | refine Below.alloc ?_ (by have := hb.size; first | omega | (simp <;> omega)) _))) (hx.mono (by have := hb.size; first | omega | (simp <;> omega)))
  clear hx
  clear hH
  go_wp2_with fail
  refine (hP _ hb).mono ?_
  rintro e w2 ⟨rfl, hx⟩
  replace hb : Below w.heap.size w w2 := Below.trans (by (repeat (first | exact Below.refl _ _ | assumption | refine Below.drew ?_ | refine below_drewN ?_ _ | refine Below.setCell ?_ (by first | omega | (simp <;> omega)) _ | refine Below.alloc ?_ (by have := hb.size; first | omega | (simp <;> omega)) _))) (hx.mono (by have := hb.size; first | omega | (simp <;> omega)))
  clear hx
  clear hP
  go_wp2_with fail
  refine (rAmount_at _ _ HA.out).mono ?_
  rintro e w' ⟨rfl, rfl⟩
  go_wp2_with fail
  go_ret
  exact Ret.mk (by first | rfl | simp) hb

set_option maxHeartbeats 1000000 in
theorem walkT_bad_b (a b : Int) (s : List UInt8) (w : World) (hL : Lay w) (hl : ¬ 100 < s.length) (hp : parseF s = (0, 7)) (ha : wthB a 1000000000 = true) (hb2 : wthB b 1000000000 = false) : Calls Tryd.prog 8 #[.int .i64 a, .int .i64 b, .string ⟨s.toArray⟩] w (Ret (.bool true) w) := by
  have hsz : (⟨s.toArray⟩ : ByteArray).size = s.length := by simp [ByteArray.size]
  have hb : Below w.heap.size w w := Below.refl _ _
  have hH : ∀ wk, Below w.heap.size w wk → Calls Tryd.prog 9 #[] wk (Ret (.bool true) wk) := fun wk h => mhead_any wk (hL.below h)
  have q0 : decide (100 < (s.length : Int)) = false := by rw [decide_eq_false_iff_not]; omega
  have hP : ∀ wk, Below w.heap.size w wk → Calls Tryd.prog 19 #[.string ⟨(s).toArray⟩] wk (Ret (.tuple #[.int .i64 0, .int .i64 7]) wk) := fun wk h => by
    have := mparse_any s (by omega) wk (hL.below h); rw [hp] at this; exact this
  have HA := Lib.hid ha
  have HB := Lib.hid hb2
  clear ha hL hp hb2
  go_enter Tryd.func8, Tryd.ntmps8
  go_wp2_with fail
  refine (hH _ hb).mono ?_
  rintro e w1 ⟨rfl, hx⟩
  replace hb : Below w.heap.size w w1 := Below.trans (by (repeat (first | exact Below.refl _ _ | assumption | refine Below.drew ?_ | refine below_drewN ?_ _ | refine Below.setCell ?_ (by first | omega | (simp <;> omega)) _ | refine Below.alloc ?_ (by have := hb.size; first | omega | (simp <;> omega)) _))) (hx.mono (by have := hb.size; first | omega | (simp <;> omega)))
  clear hx
  clear hH
  go_wp2_with fail
  refine (hP _ hb).mono ?_
  rintro e w2 ⟨rfl, hx⟩
  replace hb : Below w.heap.size w w2 := Below.trans (by (repeat (first | exact Below.refl _ _ | assumption | refine Below.drew ?_ | refine below_drewN ?_ _ | refine Below.setCell ?_ (by first | omega | (simp <;> omega)) _ | refine Below.alloc ?_ (by have := hb.size; first | omega | (simp <;> omega)) _))) (hx.mono (by have := hb.size; first | omega | (simp <;> omega)))
  clear hx
  clear hP
  go_wp2_with fail
  refine (rAmount_at _ _ HA.out).mono ?_
  rintro e w' ⟨rfl, rfl⟩
  go_wp2_with fail
  refine (rAmount_at _ _ HB.out).mono ?_
  rintro e w' ⟨rfl, rfl⟩
  go_wp2_with fail
  go_ret
  exact Ret.mk (by first | rfl | simp) hb

set_option maxHeartbeats 1000000 in
theorem walkT_bad_same (a b : Int) (s : List UInt8) (w : World) (hL : Lay w) (hl : ¬ 100 < s.length) (hp : parseF s = (0, 7)) (ha : wthB a 1000000000 = true) (hb2 : wthB b 1000000000 = true) (he : a = b) : Calls Tryd.prog 8 #[.int .i64 a, .int .i64 b, .string ⟨s.toArray⟩] w (Ret (.bool true) w) := by
  have hsz : (⟨s.toArray⟩ : ByteArray).size = s.length := by simp [ByteArray.size]
  have hb : Below w.heap.size w w := Below.refl _ _
  have hH : ∀ wk, Below w.heap.size w wk → Calls Tryd.prog 9 #[] wk (Ret (.bool true) wk) := fun wk h => mhead_any wk (hL.below h)
  have q0 : decide (100 < (s.length : Int)) = false := by rw [decide_eq_false_iff_not]; omega
  have hP : ∀ wk, Below w.heap.size w wk → Calls Tryd.prog 19 #[.string ⟨(s).toArray⟩] wk (Ret (.tuple #[.int .i64 0, .int .i64 7]) wk) := fun wk h => by
    have := mparse_any s (by omega) wk (hL.below h); rw [hp] at this; exact this
  subst he
  have hA : ∀ wk, Below w.heap.size w wk → Calls Tryd.prog 17 #[.int .i64 a] wk (Ret (.tuple #[.string ⟨(txtOf a).toArray⟩, .int .i64 0]) wk) := fun wk h => by
    have := mtext_any a wk (hL.below h).tab; rw [textF_ok ha] at this; exact this
  have hM : ∀ wk, Below w.heap.size w wk → Calls Tryd.prog 19 #[.string ⟨((txtOf a)).toArray⟩] wk (Ret (.tuple #[.int .i64 a, .int .i64 0]) wk) := fun wk h => by
    have := mparse_any (txtOf a) (txt_short a ha) wk (hL.below h); rw [parse_txt ha] at this; exact this
  have HA := Lib.hid ha
  have HB := Lib.hid hb2
  generalize txtOf a = xa at *
  clear ha hL hp hb2
  go_enter Tryd.func8, Tryd.ntmps8
  go_wp2_with fail
  refine (hH _ hb).mono ?_
  rintro e w1 ⟨rfl, hx⟩
  replace hb : Below w.heap.size w w1 := Below.trans (by (repeat (first | exact Below.refl _ _ | assumption | refine Below.drew ?_ | refine below_drewN ?_ _ | refine Below.setCell ?_ (by first | omega | (simp <;> omega)) _ | refine Below.alloc ?_ (by have := hb.size; first | omega | (simp <;> omega)) _))) (hx.mono (by have := hb.size; first | omega | (simp <;> omega)))
  clear hx
  clear hH
  go_wp2_with fail
  refine (hP _ hb).mono ?_
  rintro e w2 ⟨rfl, hx⟩
  replace hb : Below w.heap.size w w2 := Below.trans (by (repeat (first | exact Below.refl _ _ | assumption | refine Below.drew ?_ | refine below_drewN ?_ _ | refine Below.setCell ?_ (by first | omega | (simp <;> omega)) _ | refine Below.alloc ?_ (by have := hb.size; first | omega | (simp <;> omega)) _))) (hx.mono (by have := hb.size; first | omega | (simp <;> omega)))
  clear hx
  clear hP
  go_wp2_with fail
  refine (rAmount_at _ _ HA.out).mono ?_
  rintro e w' ⟨rfl, rfl⟩
  go_wp2_with fail
  refine (rAmount_at _ _ HB.out).mono ?_
  rintro e w' ⟨rfl, rfl⟩
  go_wp2_with fail
  refine (hA _ hb).mono ?_
  rintro e w4 ⟨rfl, hx⟩
  replace hb : Below w.heap.size w w4 := Below.trans (by (repeat (first | exact Below.refl _ _ | assumption | refine Below.drew ?_ | refine below_drewN ?_ _ | refine Below.setCell ?_ (by first | omega | (simp <;> omega)) _ | refine Below.alloc ?_ (by have := hb.size; first | omega | (simp <;> omega)) _))) (hx.mono (by have := hb.size; first | omega | (simp <;> omega)))
  clear hx
  go_wp2_with fail
  refine (hA _ hb).mono ?_
  rintro e w5 ⟨rfl, hx⟩
  replace hb : Below w.heap.size w w5 := Below.trans (by (repeat (first | exact Below.refl _ _ | assumption | refine Below.drew ?_ | refine below_drewN ?_ _ | refine Below.setCell ?_ (by first | omega | (simp <;> omega)) _ | refine Below.alloc ?_ (by have := hb.size; first | omega | (simp <;> omega)) _))) (hx.mono (by have := hb.size; first | omega | (simp <;> omega)))
  clear hx
  go_wp2_with fail
  refine (hM _ hb).mono ?_
  rintro e w6 ⟨rfl, hx⟩
  replace hb : Below w.heap.size w w6 := Below.trans (by (repeat (first | exact Below.refl _ _ | assumption | refine Below.drew ?_ | refine below_drewN ?_ _ | refine Below.setCell ?_ (by first | omega | (simp <;> omega)) _ | refine Below.alloc ?_ (by have := hb.size; first | omega | (simp <;> omega)) _))) (hx.mono (by have := hb.size; first | omega | (simp <;> omega)))
  clear hx
  go_wp2_with fail
  go_ret
  exact Ret.mk (by first | rfl | simp) hb

set_option maxHeartbeats 1000000 in
theorem walkT_bad_diff (a b : Int) (s : List UInt8) (w : World) (hL : Lay w) (hl : ¬ 100 < s.length) (hp : parseF s = (0, 7)) (ha : wthB a 1000000000 = true) (hb2 : wthB b 1000000000 = true) (he : ¬ a = b) : Calls Tryd.prog 8 #[.int .i64 a, .int .i64 b, .string ⟨s.toArray⟩] w (Ret (.bool true) w) := by
  have hsz : (⟨s.toArray⟩ : ByteArray).size = s.length := by simp [ByteArray.size]
  have hb : Below w.heap.size w w := Below.refl _ _
  have hH : ∀ wk, Below w.heap.size w wk → Calls Tryd.prog 9 #[] wk (Ret (.bool true) wk) := fun wk h => mhead_any wk (hL.below h)
  have q0 : decide (100 < (s.length : Int)) = false := by rw [decide_eq_false_iff_not]; omega
  have hP : ∀ wk, Below w.heap.size w wk → Calls Tryd.prog 19 #[.string ⟨(s).toArray⟩] wk (Ret (.tuple #[.int .i64 0, .int .i64 7]) wk) := fun wk h => by
    have := mparse_any s (by omega) wk (hL.below h); rw [hp] at this; exact this
  have hA : ∀ wk, Below w.heap.size w wk → Calls Tryd.prog 17 #[.int .i64 a] wk (Ret (.tuple #[.string ⟨(txtOf a).toArray⟩, .int .i64 0]) wk) := fun wk h => by
    have := mtext_any a wk (hL.below h).tab; rw [textF_ok ha] at this; exact this
  have hB : ∀ wk, Below w.heap.size w wk → Calls Tryd.prog 17 #[.int .i64 b] wk (Ret (.tuple #[.string ⟨(txtOf b).toArray⟩, .int .i64 0]) wk) := fun wk h => by
    have := mtext_any b wk (hL.below h).tab; rw [textF_ok hb2] at this; exact this
  have hM : ∀ wk, Below w.heap.size w wk → Calls Tryd.prog 19 #[.string ⟨((txtOf a)).toArray⟩] wk (Ret (.tuple #[.int .i64 a, .int .i64 0]) wk) := fun wk h => by
    have := mparse_any (txtOf a) (txt_short a ha) wk (hL.below h); rw [parse_txt ha] at this; exact this
  have e1 : (txtOf a == txtOf b) = false := by rw [beq_eq_false_iff_ne]; exact fun h => he (txt_inj ha hb2 h)
  have e2 : (a == b) = false := by rw [beq_eq_false_iff_ne]; exact he
  have HA := Lib.hid ha
  have HB := Lib.hid hb2
  generalize txtOf a = xa at *
  generalize txtOf b = xb at *
  clear ha hL hp hb2 he
  go_enter Tryd.func8, Tryd.ntmps8
  go_wp2_with fail
  refine (hH _ hb).mono ?_
  rintro e w1 ⟨rfl, hx⟩
  replace hb : Below w.heap.size w w1 := Below.trans (by (repeat (first | exact Below.refl _ _ | assumption | refine Below.drew ?_ | refine below_drewN ?_ _ | refine Below.setCell ?_ (by first | omega | (simp <;> omega)) _ | refine Below.alloc ?_ (by have := hb.size; first | omega | (simp <;> omega)) _))) (hx.mono (by have := hb.size; first | omega | (simp <;> omega)))
  clear hx
  clear hH
  go_wp2_with fail
  refine (hP _ hb).mono ?_
  rintro e w2 ⟨rfl, hx⟩
  replace hb : Below w.heap.size w w2 := Below.trans (by (repeat (first | exact Below.refl _ _ | assumption | refine Below.drew ?_ | refine below_drewN ?_ _ | refine Below.setCell ?_ (by first | omega | (simp <;> omega)) _ | refine Below.alloc ?_ (by have := hb.size; first | omega | (simp <;> omega)) _))) (hx.mono (by have := hb.size; first | omega | (simp <;> omega)))
  clear hx
  clear hP
  go_wp2_with fail
  refine (rAmount_at _ _ HA.out).mono ?_
  rintro e w' ⟨rfl, rfl⟩
  go_wp2_with fail
  refine (rAmount_at _ _ HB.out).mono ?_
  rintro e w' ⟨rfl, rfl⟩
  go_wp2_with fail
  refine (hA _ hb).mono ?_
  rintro e w4 ⟨rfl, hx⟩
  replace hb : Below w.heap.size w w4 := Below.trans (by (repeat (first | exact Below.refl _ _ | assumption | refine Below.drew ?_ | refine below_drewN ?_ _ | refine Below.setCell ?_ (by first | omega | (simp <;> omega)) _ | refine Below.alloc ?_ (by have := hb.size; first | omega | (simp <;> omega)) _))) (hx.mono (by have := hb.size; first | omega | (simp <;> omega)))
  clear hx
  go_wp2_with fail
  refine (hB _ hb).mono ?_
  rintro e w5 ⟨rfl, hx⟩
  replace hb : Below w.heap.size w w5 := Below.trans (by (repeat (first | exact Below.refl _ _ | assumption | refine Below.drew ?_ | refine below_drewN ?_ _ | refine Below.setCell ?_ (by first | omega | (simp <;> omega)) _ | refine Below.alloc ?_ (by have := hb.size; first | omega | (simp <;> omega)) _))) (hx.mono (by have := hb.size; first | omega | (simp <;> omega)))
  clear hx
  go_wp2_with fail
  refine (hM _ hb).mono ?_
  rintro e w6 ⟨rfl, hx⟩
  replace hb : Below w.heap.size w w6 := Below.trans (by (repeat (first | exact Below.refl _ _ | assumption | refine Below.drew ?_ | refine below_drewN ?_ _ | refine Below.setCell ?_ (by first | omega | (simp <;> omega)) _ | refine Below.alloc ?_ (by have := hb.size; first | omega | (simp <;> omega)) _))) (hx.mono (by have := hb.size; first | omega | (simp <;> omega)))
  clear hx
  go_wp2_with fail
  go_ret
  exact Ret.mk (by first | rfl | simp) hb

theorem walkMoneyTexts (a b : Int) (s : List UInt8) (w : World) (hL : Lay w) : Calls Tryd.prog 8 #[.int .i64 a, .int .i64 b, .string ⟨s.toArray⟩] w (Ret (.bool true) w) := by
  by_cases hl : 100 < s.length
  · exact walkT_long a b s w hL hl
  rcases parse_cases s with ⟨n, hp, ht⟩ | hp
  · skip
    cases ha : wthB a 1000000000 with
    | false => exact walkT_ok_a a b s w hL hl n hp ht ha
    | true =>
    cases hb2 : wthB b 1000000000 with
    | false => exact walkT_ok_b a b s w hL hl n hp ht ha hb2
    | true =>
    by_cases he : a = b
    · exact walkT_ok_same a b s w hL hl n hp ht ha hb2 he
    · exact walkT_ok_diff a b s w hL hl n hp ht ha hb2 he
  · skip
    cases ha : wthB a 1000000000 with
    | false => exact walkT_bad_a a b s w hL hl hp ha
    | true =>
    cases hb2 : wthB b 1000000000 with
    | false => exact walkT_bad_b a b s w hL hl hp ha hb2
    | true =>
    by_cases he : a = b
    · exact walkT_bad_same a b s w hL hl hp ha hb2 he
    · exact walkT_bad_diff a b s w hL hl hp ha hb2 he
end Go.Proofs.YtnjaedbekogeaaaDoor
