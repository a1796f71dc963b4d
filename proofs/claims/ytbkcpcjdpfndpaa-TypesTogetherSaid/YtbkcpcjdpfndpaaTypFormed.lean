/-
  A rate that is well-formed, at the program.
-/
import Derived.Test.YtbkcpcjdpfndpaaTypForm
namespace Go.Proofs.Ytbkcpcjdpfndpaa
open Go.RowKit Go.Shelf
set_option maxRecDepth 100000
set_option maxHeartbeats 6400000 in
theorem formed_any {Q : Nat → Prop} (a0 a1 a2 a3 a4 a5 a6 a7 kn kd : Int) (we pe : Xp) (ad1 : Option Addr) (cap1 : Nat) (ad2 : Option Addr) (cap2 : Nat) (w : World) (tw : Tree Q w we (.agg #[.int .i64 we.o, .int .i64 we.n, .slice ad1 we.ks.length cap1])) (tp : Tree Q w pe (.agg #[.int .i64 pe.o, .int .i64 pe.n, .slice ad2 pe.ks.length cap2])) : Calls Try.prog 26 #[.agg #[.int .i64 a0, .int .i64 a1, .int .i64 a2, .int .i64 a3, .int .i64 a4, .int .i64 a5, .int .i64 a6, .int .i64 a7, .int .i64 kn, .int .i64 kd, .int .i64 we.o, .int .i64 we.n, .slice ad1 we.ks.length cap1, .int .i64 pe.o, .int .i64 pe.n, .slice ad2 pe.ks.length cap2]] w (Ret (.bool (formR ⟨a0, a1, a2, a3, a4, a5, a6, a7, kn, kd, we, pe⟩)) w) := by
  have HF : Hid (formR ⟨a0, a1, a2, a3, a4, a5, a6, a7, kn, kd, we, pe⟩ = true ↔ (decide (1 ≤ a0) && decide (a0 ≤ 1000000)) = true ∧ (decide (0 ≤ a1) && decide (a1 ≤ 100)) = true ∧ (decide (1 ≤ a2) && decide (a2 ≤ 20)) = true ∧ (decide (0 ≤ a3) && decide (a3 ≤ a4) && decide (a4 ≤ 366)) = true ∧ (!(a3 == a4)) = true ∧ (decide (1 ≤ a5) && decide (a5 ≤ a6) && decide (a6 ≤ 60)) = true ∧ (decide (1 ≤ a7) && decide (a7 ≤ 127)) = true ∧ (vldB kn kd) = true ∧ (decide (0 ≤ kn) && decide (kn ≤ kd)) = true ∧ (validF we) = true ∧ (validF pe) = true) := Lib.hid (by
    unfold formR
    simp only [Bool.and_eq_true, decide_eq_true_eq, Bool.not_eq_true', beq_eq_false_iff_ne]
    constructor
    · intro h; refine ⟨by omega, by omega, by omega, by omega, by omega, by omega, by omega, ?_, by omega, ?_, ?_⟩
      · exact h.1.1.2.1.1
      · exact h.1.2
      · exact h.2
    · rintro ⟨h0, h1, h2, h3, h4, h5, h6, h7, h8, h9, h10⟩
      exact ⟨⟨⟨⟨⟨⟨⟨⟨h0, h1⟩, h2⟩, ⟨⟨h3.1.1, by omega⟩, h3.2⟩⟩, h5⟩, h6⟩, ⟨⟨h7, h8.1⟩, h8.2⟩⟩, h9⟩, h10⟩)
  generalize formR ⟨a0, a1, a2, a3, a4, a5, a6, a7, kn, kd, we, pe⟩ = F at HF ⊢
  obtain ⟨b0, hb0⟩ : ∃ b, (decide (1 ≤ a0) && decide (a0 ≤ 1000000)) = b := ⟨_, rfl⟩
  obtain ⟨b1, hb1⟩ : ∃ b, (decide (0 ≤ a1) && decide (a1 ≤ 100)) = b := ⟨_, rfl⟩
  obtain ⟨b2, hb2⟩ : ∃ b, (decide (1 ≤ a2) && decide (a2 ≤ 20)) = b := ⟨_, rfl⟩
  obtain ⟨b3, hb3⟩ : ∃ b, (decide (0 ≤ a3) && decide (a3 ≤ a4) && decide (a4 ≤ 366)) = b := ⟨_, rfl⟩
  obtain ⟨b4, hb4⟩ : ∃ b, (!(a3 == a4)) = b := ⟨_, rfl⟩
  obtain ⟨b5, hb5⟩ : ∃ b, (decide (1 ≤ a5) && decide (a5 ≤ a6) && decide (a6 ≤ 60)) = b := ⟨_, rfl⟩
  obtain ⟨b6, hb6⟩ : ∃ b, (decide (1 ≤ a7) && decide (a7 ≤ 127)) = b := ⟨_, rfl⟩
  obtain ⟨b7, hb7⟩ : ∃ b, (vldB kn kd) = b := ⟨_, rfl⟩
  obtain ⟨b8, hb8⟩ : ∃ b, (decide (0 ≤ kn) && decide (kn ≤ kd)) = b := ⟨_, rfl⟩
  obtain ⟨b9, hb9⟩ : ∃ b, (validF we) = b := ⟨_, rfl⟩
  obtain ⟨b10, hb10⟩ : ∃ b, (validF pe) = b := ⟨_, rfl⟩
  rw [hb0, hb1, hb2, hb3, hb4, hb5, hb6, hb7, hb8, hb9, hb10] at HF
  have hEq : F = ((((((((((b0 && b1) && b2) && b3) && b4) && b5) && b6) && b7) && b8) && b9) && b10) := by
    rw [Bool.eq_iff_iff, HF.out]
    simp only [Bool.and_eq_true, and_assoc]
  clear HF
  replace hEq := Lib.hid hEq
  have q0 := Lib.hid (fun (g : Nat) (w1 : World) (h : Own w1 g [.int .i64 1, .int .i64 a0, .int .i64 1000000]) => rising3 1 a0 1000000 w1 h b0 hb0.symm)
  have q1 := Lib.hid (fun (g : Nat) (w1 : World) (h : Own w1 g [.int .i64 0, .int .i64 a1, .int .i64 100]) => rising3 0 a1 100 w1 h b1 hb1.symm)
  have q2 := Lib.hid (fun (g : Nat) (w1 : World) (h : Own w1 g [.int .i64 1, .int .i64 a2, .int .i64 20]) => rising3 1 a2 20 w1 h b2 hb2.symm)
  have q3 := Lib.hid (fun (g : Nat) (w1 : World) (h : Own w1 g [.int .i64 0, .int .i64 a3, .int .i64 a4, .int .i64 366]) => rising4 0 a3 a4 366 w1 h b3 hb3.symm)
  have n4 : (a3 == a4) = !b4 := by rw [← hb4]; simp
  have q5 := Lib.hid (fun (g : Nat) (w1 : World) (h : Own w1 g [.int .i64 1, .int .i64 a5, .int .i64 a6, .int .i64 60]) => rising4 1 a5 a6 60 w1 h b5 hb5.symm)
  have q6 := Lib.hid (fun (g : Nat) (w1 : World) (h : Own w1 g [.int .i64 1, .int .i64 a7, .int .i64 127]) => rising3 1 a7 127 w1 h b6 hb6.symm)
  have q7 := Lib.hid (fun (w1 : World) => valid_at kn kd w1 hb7)
  have q8 := Lib.hid (fun (g : Nat) (w1 : World) (h : Own w1 g [.int .i64 0, .int .i64 kn, .int .i64 kd]) => rising3 0 kn kd w1 h b8 hb8.symm)
  have q9 := fun w1 (h : Below w.heap.size w w1) => pvalid_any we _ w1 (tw.below h)
  rw [hb9] at q9
  replace q9 := Lib.hid q9
  have q10 := fun w1 (h : Below w.heap.size w w1) => pvalid_any pe _ w1 (tp.below h)
  rw [hb10] at q10
  replace q10 := Lib.hid q10
  clear hb0
  clear hb1
  clear hb2
  clear hb3
  clear hb4
  clear hb5
  clear hb6
  clear hb7
  clear hb8
  clear hb9
  clear hb10
  have ob := Own.new w #[.int .i64 a0, .int .i64 a1, .int .i64 a2, .int .i64 a3, .int .i64 a4, .int .i64 a5, .int .i64 a6, .int .i64 a7, .int .i64 kn, .int .i64 kd, .int .i64 we.o, .int .i64 we.n, .slice ad1 we.ks.length cap1, .int .i64 pe.o, .int .i64 pe.n, .slice ad2 pe.ks.length cap2] 30
  have hb : Below w.heap.size w (w.alloc (.cells #[.int .i64 a0, .int .i64 a1, .int .i64 a2, .int .i64 a3, .int .i64 a4, .int .i64 a5, .int .i64 a6, .int .i64 a7, .int .i64 kn, .int .i64 kd, .int .i64 we.o, .int .i64 we.n, .slice ad1 we.ks.length cap1, .int .i64 pe.o, .int .i64 pe.n, .slice ad2 pe.ks.length cap2] 30)) := by (repeat (first | exact Below.refl _ _ | assumption | refine Below.drew ?_ | refine below_drewN ?_ _ | refine Below.setCell ?_ (by first | omega | (simp <;> omega)) _ | refine Below.alloc ?_ (by first | omega | (simp <;> omega)) _))
  clear tw tp
  go_enter Try.func26, Try.ntmps26
  simp only [List.append_eq, List.cons_append, List.nil_append]
  go_wp2_with fail
  refine (q0.out _ _ (by first | exact Own.new _ _ _ | exact Own.at _ _ _ _ (by simp))).mono ?_
  rintro e w0 ⟨rfl, hx⟩
  replace ob := (ob.alloc _).below hx
  replace hb := Below.trans (hb.alloc hb.size _) (hx.mono (by have := hb.size; simp; omega))
  clear hx
  cases b0 with
  | false =>
    have HZ : Hid (F = false) := Lib.hid (by rw [hEq.out]; simp)
    clear hEq ob
    go_wp2_with fail
    go_ret
    exact Ret.mk (by rw [HZ.out]; rfl) hb
  | true =>
  have c1 := ob.cell 1 _ rfl
  go_wp2_with fail
  clear c1
  refine (q1.out _ _ (by first | exact Own.new _ _ _ | exact Own.at _ _ _ _ (by simp))).mono ?_
  rintro e w1 ⟨rfl, hx⟩
  replace ob := (ob.alloc _).below hx
  replace hb := Below.trans (hb.alloc hb.size _) (hx.mono (by have := hb.size; simp; omega))
  clear hx
  cases b1 with
  | false =>
    have HZ : Hid (F = false) := Lib.hid (by rw [hEq.out]; simp)
    clear hEq ob
    go_wp2_with fail
    go_ret
    exact Ret.mk (by rw [HZ.out]; rfl) hb
  | true =>
  have c2 := ob.cell 2 _ rfl
  go_wp2_with fail
  clear c2
  refine (q2.out _ _ (by first | exact Own.new _ _ _ | exact Own.at _ _ _ _ (by simp))).mono ?_
  rintro e w2 ⟨rfl, hx⟩
  replace ob := (ob.alloc _).below hx
  replace hb := Below.trans (hb.alloc hb.size _) (hx.mono (by have := hb.size; simp; omega))
  clear hx
  cases b2 with
  | false =>
    have HZ : Hid (F = false) := Lib.hid (by rw [hEq.out]; simp)
    clear hEq ob
    go_wp2_with fail
    go_ret
    exact Ret.mk (by rw [HZ.out]; rfl) hb
  | true =>
  have c3 := ob.cell 3 _ rfl
  have c4 := ob.cell 4 _ rfl
  go_wp2_with fail
  clear c3 c4
  refine (q3.out _ _ (by first | exact Own.new _ _ _ | exact Own.at _ _ _ _ (by simp))).mono ?_
  rintro e w3 ⟨rfl, hx⟩
  replace ob := (ob.alloc _).below hx
  replace hb := Below.trans (hb.alloc hb.size _) (hx.mono (by have := hb.size; simp; omega))
  clear hx
  cases b3 with
  | false =>
    have HZ : Hid (F = false) := Lib.hid (by rw [hEq.out]; simp)
    clear hEq ob
    go_wp2_with fail
    go_ret
    exact Ret.mk (by rw [HZ.out]; rfl) hb
  | true =>
  have c3 := ob.cell 3 _ rfl
  have c4 := ob.cell 4 _ rfl
  have nx : (a3 != a4) = b4 := by unfold bne; rw [n4]; simp
  cases b4 with
  | false =>
    simp only [Bool.not_false] at n4
    have HZ : Hid (F = false) := Lib.hid (by rw [hEq.out]; simp)
    clear hEq ob
    go_wp2_with fail
    go_ret
    exact Ret.mk (by rw [HZ.out]; rfl) hb
  | true =>
  simp only [Bool.not_true] at n4
  have c5 := ob.cell 5 _ rfl
  have c6 := ob.cell 6 _ rfl
  go_wp2_with fail
  clear c3 c4 c5 c6
  refine (q5.out _ _ (by first | exact Own.new _ _ _ | exact Own.at _ _ _ _ (by simp))).mono ?_
  rintro e w5 ⟨rfl, hx⟩
  replace ob := (ob.alloc _).below hx
  replace hb := Below.trans (hb.alloc hb.size _) (hx.mono (by have := hb.size; simp; omega))
  clear hx
  cases b5 with
  | false =>
    have HZ : Hid (F = false) := Lib.hid (by rw [hEq.out]; simp)
    clear hEq ob
    go_wp2_with fail
    go_ret
    exact Ret.mk (by rw [HZ.out]; rfl) hb
  | true =>
  have c7 := ob.cell 7 _ rfl
  go_wp2_with fail
  clear c7
  refine (q6.out _ _ (by first | exact Own.new _ _ _ | exact Own.at _ _ _ _ (by simp))).mono ?_
  rintro e w6 ⟨rfl, hx⟩
  replace ob := (ob.alloc _).below hx
  replace hb := Below.trans (hb.alloc hb.size _) (hx.mono (by have := hb.size; simp; omega))
  clear hx
  cases b6 with
  | false =>
    have HZ : Hid (F = false) := Lib.hid (by rw [hEq.out]; simp)
    clear hEq ob
    go_wp2_with fail
    go_ret
    exact Ret.mk (by rw [HZ.out]; rfl) hb
  | true =>
  have c8 := ob.cell 8 _ rfl
  have c9 := ob.cell 9 _ rfl
  go_wp2_with fail
  clear c8 c9
  refine (q7.out _).mono ?_
  rintro e w7 ⟨rfl, hx⟩
  replace ob := ob.below hx
  replace hb := hb.trans (hx.mono hb.size)
  clear hx
  cases b7 with
  | false =>
    have HZ : Hid (F = false) := Lib.hid (by rw [hEq.out]; simp)
    clear hEq ob
    go_wp2_with fail
    go_ret
    exact Ret.mk (by rw [HZ.out]; rfl) hb
  | true =>
  have c8 := ob.cell 8 _ rfl
  have c9 := ob.cell 9 _ rfl
  go_wp2_with fail
  clear c8 c9
  refine (q8.out _ _ (by first | exact Own.new _ _ _ | exact Own.at _ _ _ _ (by simp))).mono ?_
  rintro e w8 ⟨rfl, hx⟩
  replace ob := (ob.alloc _).below hx
  replace hb := Below.trans (hb.alloc hb.size _) (hx.mono (by have := hb.size; simp; omega))
  clear hx
  cases b8 with
  | false =>
    have HZ : Hid (F = false) := Lib.hid (by rw [hEq.out]; simp)
    clear hEq ob
    go_wp2_with fail
    go_ret
    exact Ret.mk (by rw [HZ.out]; rfl) hb
  | true =>
  have c10 := ob.cell 10 _ rfl
  have c11 := ob.cell 11 _ rfl
  have c12 := ob.cell 12 _ rfl
  go_wp2_with fail
  clear c10 c11 c12
  refine (q9.out _ (by first | assumption | exact hb.drew)).mono ?_
  rintro e w9 ⟨rfl, hx⟩
  replace ob := ob.below hx
  replace hb := hb.trans (hx.mono hb.size)
  clear hx
  cases b9 with
  | false =>
    have HZ : Hid (F = false) := Lib.hid (by rw [hEq.out]; simp)
    clear hEq ob
    go_wp2_with fail
    go_ret
    exact Ret.mk (by rw [HZ.out]; rfl) hb
  | true =>
  have c13 := ob.cell 13 _ rfl
  have c14 := ob.cell 14 _ rfl
  have c15 := ob.cell 15 _ rfl
  go_wp2_with fail
  clear c13 c14 c15
  refine (q10.out _ (by first | assumption | exact hb.drew)).mono ?_
  rintro e w10 ⟨rfl, hx⟩
  replace ob := ob.below hx
  replace hb := hb.trans (hx.mono hb.size)
  clear hx
  cases b10 with
  | false =>
    have HZ : Hid (F = false) := Lib.hid (by rw [hEq.out]; simp)
    clear hEq ob
    go_wp2_with fail
    go_ret
    exact Ret.mk (by rw [HZ.out]; rfl) hb
  | true =>
  have HZ : Hid (F = true) := Lib.hid (by rw [hEq.out]; rfl)
  clear hEq ob
  go_wp2_with fail
  go_ret
  exact Ret.mk (by rw [HZ.out]; rfl) hb
end Go.Proofs.Ytbkcpcjdpfndpaa
