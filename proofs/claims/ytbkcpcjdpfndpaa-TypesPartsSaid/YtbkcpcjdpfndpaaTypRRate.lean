/-
  Infer, and rates, at the reference.
-/
import Derived.Test.YtbkcpcjdpfndpaaTypRef
import Derived.Test.YtbkcpcjdpfndpaaTypRate
import Derived.Test.YtbkcpcjdpfndpaaRef01B
namespace Go.Proofs.Ytbkcpcjdpfndpaa
open Go.RowKit Go.Shelf
set_option maxRecDepth 100000

theorem ok_valid {x : Xp} (h : validF x = true) : okE x = true := by
  unfold validF at h
  simp only [Bool.and_eq_true] at h
  exact h.1.1
set_option maxHeartbeats 1600000 in
theorem rinfer_any {Q : Nat → Prop} (x : Xp) (v : Value) (w : World) (ht : Tree Q w x v) : Calls Try.prog 12 #[v] w (Ret (.tuple #[.int .i64 (inferT x), .int .i64 (inferE x)]) w) := by
  have hv := fun w1 h => rvalid8_any x v w1 (Tree.below ht (w' := w1) h)
  obtain ⟨ad, cap, rfl, -, -⟩ := ht.shape
  have ht2 := fun w1 h => Tree.below ht (w' := w1) h
  have o2 := Own.new w #[.int .i64 x.o, .int .i64 x.n, .slice ad x.ks.length cap] 24
  cases hb : validF x with
  | false =>
    rw [hb] at hv
    have HI : Hid (inferT x = 0 ∧ inferE x = 1) := Lib.hid ⟨by unfold inferT; rw [hb]; rfl, by unfold inferE; rw [hb]; rfl⟩
    clear hb ht2 ht
    go_enter Try.func12, Try.ntmps12
    go_wp2_with fail
    refine (hv _ (by (repeat (first | exact Below.refl _ _ | assumption | refine Below.drew ?_ | refine below_drewN ?_ _ | refine Below.setCell ?_ (by first | omega | (simp <;> omega)) _ | refine Below.alloc ?_ (by first | omega | (simp <;> omega)) _)))).mono ?_
    rintro e w1 ⟨rfl, hb1⟩
    go_wp2_with fail
    go_ret2
    exact Ret.mk (by rw [HI.out.1, HI.out.2]; rfl) (Below.trans (by (repeat (first | exact Below.refl _ _ | assumption | refine Below.drew ?_ | refine below_drewN ?_ _ | refine Below.setCell ?_ (by first | omega | (simp <;> omega)) _ | refine Below.alloc ?_ (by first | omega | (simp <;> omega)) _))) (hb1.mono (by simp)))
  | true =>
    rw [hb] at hv
    have HI : Hid (inferT x = typE x ∧ inferE x = if typE x = 0 then 20 else 0) := Lib.hid ⟨by unfold inferT; rw [if_pos hb], by unfold inferE; rw [if_pos hb]⟩
    have HA := fun w1 h => rtype_any Q x _ w1 (ok_valid hb) (ht2 w1 h)
    clear hb ht2 ht
    generalize typE x = t at *
    by_cases h0 : t = 0
    · have HJ : Hid (inferT x = 0 ∧ inferE x = 20) := Lib.hid ⟨by rw [HI.out.1, h0]; rfl, by rw [HI.out.2, if_pos h0]⟩
      subst h0
      clear HI
      go_enter Try.func12, Try.ntmps12
      go_wp2_with fail
      refine (hv _ (by (repeat (first | exact Below.refl _ _ | assumption | refine Below.drew ?_ | refine below_drewN ?_ _ | refine Below.setCell ?_ (by first | omega | (simp <;> omega)) _ | refine Below.alloc ?_ (by first | omega | (simp <;> omega)) _)))).mono ?_
      rintro e w1 ⟨rfl, hb1⟩
      have hb2 : Below w.heap.size w w1 := Below.trans (by (repeat (first | exact Below.refl _ _ | assumption | refine Below.drew ?_ | refine below_drewN ?_ _ | refine Below.setCell ?_ (by first | omega | (simp <;> omega)) _ | refine Below.alloc ?_ (by first | omega | (simp <;> omega)) _))) (hb1.mono (by simp))
      obtain ⟨c0, c1, c2, -, -, -, hz⟩ := (o2.below hb1).three
      clear hb1
      go_wp2_with fail
      refine (HA _ hb2).mono ?_
      rintro e w2 ⟨rfl, hb3⟩
      clear c0 c1 c2
      go_wp2_with fail
      go_ret2
      exact Ret.mk (by rw [HJ.out.1, HJ.out.2]; rfl) (hb2.trans (hb3.mono hb2.size))
    · have HJ : Hid (inferT x = t ∧ inferE x = 0) := Lib.hid ⟨HI.out.1, by rw [HI.out.2, if_neg h0]⟩
      have e1 : ((t : Int) == 0) = false := by rw [beq_eq_false_iff_ne]; omega
      have e2 : (t == 0) = false := by rw [beq_eq_false_iff_ne]; exact h0
      clear HI h0
      go_enter Try.func12, Try.ntmps12
      go_wp2_with fail
      refine (hv _ (by (repeat (first | exact Below.refl _ _ | assumption | refine Below.drew ?_ | refine below_drewN ?_ _ | refine Below.setCell ?_ (by first | omega | (simp <;> omega)) _ | refine Below.alloc ?_ (by first | omega | (simp <;> omega)) _)))).mono ?_
      rintro e w1 ⟨rfl, hb1⟩
      have hb2 : Below w.heap.size w w1 := Below.trans (by (repeat (first | exact Below.refl _ _ | assumption | refine Below.drew ?_ | refine below_drewN ?_ _ | refine Below.setCell ?_ (by first | omega | (simp <;> omega)) _ | refine Below.alloc ?_ (by first | omega | (simp <;> omega)) _))) (hb1.mono (by simp))
      obtain ⟨c0, c1, c2, -, -, -, hz⟩ := (o2.below hb1).three
      clear hb1
      go_wp2_with fail
      refine (HA _ hb2).mono ?_
      rintro e w2 ⟨rfl, hb3⟩
      clear c0 c1 c2
      go_wp2_with fail
      go_ret2
      exact Ret.mk (by rw [HJ.out.1, HJ.out.2]; rfl) (hb2.trans (hb3.mono hb2.size))
theorem rin10_any (n a b : Int) (t : Bool) (ht : (decide (a ≤ n) && decide (n ≤ b)) = t) (w : World) : Calls Try.prog 37 #[.int .i64 n, .int .i64 a, .int .i64 b] w (Ret (.bool t) w) := by
  subst ht
  by_cases h : a ≤ n
  · have h1 : decide (a ≤ n) = true := by simpa using h
    generalize hq : decide (n ≤ b) = q
    go_enter Try.func37, Try.ntmps37
    go_wp2_with fail
    go_ret
    exact Ret.mk (by rw [h1]; rfl) (Below.refl _ _)
  · have h1 : decide (a ≤ n) = false := by simpa using h
    rw [h1]
    go_enter Try.func37, Try.ntmps37
    go_wp2_with fail
    go_ret
    exact Ret.mk rfl (Below.refl _ _)
set_option maxHeartbeats 12800000 in
theorem rform_any {Q : Nat → Prop} (a0 a1 a2 a3 a4 a5 a6 a7 kn kd : Int) (we pe : Xp) (ad1 : Option Addr) (cap1 : Nat) (ad2 : Option Addr) (cap2 : Nat) (w : World) (tw : Tree Q w we (.agg #[.int .i64 we.o, .int .i64 we.n, .slice ad1 we.ks.length cap1])) (tp : Tree Q w pe (.agg #[.int .i64 pe.o, .int .i64 pe.n, .slice ad2 pe.ks.length cap2])) : Calls Try.prog 28 #[.agg #[.int .i64 a0, .int .i64 a1, .int .i64 a2, .int .i64 a3, .int .i64 a4, .int .i64 a5, .int .i64 a6, .int .i64 a7, .int .i64 kn, .int .i64 kd, .int .i64 we.o, .int .i64 we.n, .slice ad1 we.ks.length cap1, .int .i64 pe.o, .int .i64 pe.n, .slice ad2 pe.ks.length cap2]] w (Ret (.bool (formR ⟨a0, a1, a2, a3, a4, a5, a6, a7, kn, kd, we, pe⟩)) w) := by
  obtain ⟨F, hF⟩ : ∃ F, formR ⟨a0, a1, a2, a3, a4, a5, a6, a7, kn, kd, we, pe⟩ = F := ⟨_, rfl⟩
  rw [hF]
  have ob := Own.new w #[.int .i64 a0, .int .i64 a1, .int .i64 a2, .int .i64 a3, .int .i64 a4, .int .i64 a5, .int .i64 a6, .int .i64 a7, .int .i64 kn, .int .i64 kd, .int .i64 we.o, .int .i64 we.n, .slice ad1 we.ks.length cap1, .int .i64 pe.o, .int .i64 pe.n, .slice ad2 pe.ks.length cap2] 30
  have hb : Below w.heap.size w (w.alloc (.cells #[.int .i64 a0, .int .i64 a1, .int .i64 a2, .int .i64 a3, .int .i64 a4, .int .i64 a5, .int .i64 a6, .int .i64 a7, .int .i64 kn, .int .i64 kd, .int .i64 we.o, .int .i64 we.n, .slice ad1 we.ks.length cap1, .int .i64 pe.o, .int .i64 pe.n, .slice ad2 pe.ks.length cap2] 30)) := by (repeat (first | exact Below.refl _ _ | assumption | refine Below.drew ?_ | refine below_drewN ?_ _ | refine Below.setCell ?_ (by first | omega | (simp <;> omega)) _ | refine Below.alloc ?_ (by first | omega | (simp <;> omega)) _))
  have HFF : Hid (F = true ↔ ((1 ≤ a0 ∧ a0 ≤ 1000000) ∧ (0 ≤ a1 ∧ a1 ≤ 100) ∧ (1 ≤ a2 ∧ a2 ≤ 20) ∧ 0 ≤ a3 ∧ a3 < a4 ∧ a4 ≤ 366) ∧ (1 ≤ a5 ∧ a5 ≤ a6 ∧ a6 ≤ 60 ∧ (1 ≤ a7 ∧ a7 ≤ 127)) ∧ vldB kn kd = true ∧ 0 ≤ kn ∧ kn ≤ kd ∧ validF we = true ∧ validF pe = true) := Lib.hid (by
    rw [← hF]
    unfold formR
    simp only [Bool.and_eq_true, decide_eq_true_eq]
    constructor
    · intro h
      exact ⟨by omega, by omega, h.1.1.2.1.1, by omega, by omega, h.1.2, h.2⟩
    · rintro ⟨h1, h2, h3, h4, h5, h6, h7⟩
      exact ⟨⟨⟨⟨⟨⟨⟨⟨⟨by omega, by omega⟩, by omega, by omega⟩, by omega, by omega⟩, ⟨by omega, by omega⟩, by omega⟩, ⟨by omega, by omega⟩, by omega⟩, by omega, by omega⟩, ⟨h3, by omega⟩, by omega⟩, h6⟩, h7⟩)
  clear hF
  have hv1 := fun w1 h => rvalid8_any we _ w1 (tw.below (w' := w1) h)
  have hv2 := fun w1 h => rvalid8_any pe _ w1 (tp.below (w' := w1) h)
  have hvk := fun w1 => r_valid kn kd w1
  generalize hbw : validF we = bw at hv1
  generalize hbp : validF pe = bp at hv2
  generalize hbk : vldB kn kd = bk at hvk
  rw [hbw, hbp, hbk] at HFF
  clear hbw hbp hbk tw tp
  replace hv1 := Lib.hid hv1
  replace hv2 := Lib.hid hv2
  replace hvk := Lib.hid hvk
  obtain ⟨i0, hi0⟩ : ∃ b, (decide (1 ≤ a0) && decide (a0 ≤ 1000000)) = b := ⟨_, rfl⟩
  obtain ⟨i1, hi1⟩ : ∃ b, (decide (0 ≤ a1) && decide (a1 ≤ 100)) = b := ⟨_, rfl⟩
  obtain ⟨i2, hi2⟩ : ∃ b, (decide (1 ≤ a2) && decide (a2 ≤ 20)) = b := ⟨_, rfl⟩
  obtain ⟨i7, hi7⟩ : ∃ b, (decide (1 ≤ a7) && decide (a7 ≤ 127)) = b := ⟨_, rfl⟩
  have n0 := Lib.hid (fun w => rin10_any a0 1 1000000 i0 hi0 w)
  have J0 : Hid (i0 = true ↔ (1 ≤ a0 ∧ a0 ≤ 1000000)) := Lib.hid (by rw [← hi0]; simp)
  clear hi0
  have n1 := Lib.hid (fun w => rin10_any a1 0 100 i1 hi1 w)
  have J1 : Hid (i1 = true ↔ (0 ≤ a1 ∧ a1 ≤ 100)) := Lib.hid (by rw [← hi1]; simp)
  clear hi1
  have n2 := Lib.hid (fun w => rin10_any a2 1 20 i2 hi2 w)
  have J2 : Hid (i2 = true ↔ (1 ≤ a2 ∧ a2 ≤ 20)) := Lib.hid (by rw [← hi2]; simp)
  clear hi2
  have n7 := Lib.hid (fun w => rin10_any a7 1 127 i7 hi7 w)
  have J7 : Hid (i7 = true ↔ (1 ≤ a7 ∧ a7 ≤ 127)) := Lib.hid (by rw [← hi7]; simp)
  clear hi7
  go_enter Try.func28, Try.ntmps28
  go_wp2_with fail
  refine (n0.out _).mono ?_
  rintro e wn ⟨rfl, hx⟩
  replace ob := ob.below hx
  replace hb := hb.trans (hx.mono hb.size)
  clear hx
  obtain ⟨wk, rfl⟩ : ∃ wk, wk = wn := ⟨_, rfl⟩
  cases i0 with
  | false =>
    have HZ : Hid (F = false) := Lib.hid (by rw [Bool.eq_false_iff]; intro h; have h2 := HFF.out.1 h; have h3 := J0.out.2 h2.1.1; exact absurd h3 (by decide))
    clear HFF ob
    go_wp2_with fail
    go_ret
    exact Ret.mk (by rw [HZ.out]; rfl) hb
  | true =>
  have c1 := ob.cell 1 _ rfl
  have hzz := ob.lt
  go_wp2_with fail
  clear c1
  clear hzz
  refine (n1.out _).mono ?_
  rintro e wn ⟨rfl, hx⟩
  replace ob := ob.below hx
  replace hb := hb.trans (hx.mono hb.size)
  clear hx
  obtain ⟨wk, rfl⟩ : ∃ wk, wk = wn := ⟨_, rfl⟩
  cases i1 with
  | false =>
    have HZ : Hid (F = false) := Lib.hid (by rw [Bool.eq_false_iff]; intro h; have h2 := HFF.out.1 h; have h3 := J1.out.2 h2.1.2.1; exact absurd h3 (by decide))
    clear HFF ob
    go_wp2_with fail
    go_ret
    exact Ret.mk (by rw [HZ.out]; rfl) hb
  | true =>
  have c2 := ob.cell 2 _ rfl
  have hzz := ob.lt
  go_wp2_with fail
  clear c2
  clear hzz
  refine (n2.out _).mono ?_
  rintro e wn ⟨rfl, hx⟩
  replace ob := ob.below hx
  replace hb := hb.trans (hx.mono hb.size)
  clear hx
  obtain ⟨wk, rfl⟩ : ∃ wk, wk = wn := ⟨_, rfl⟩
  cases i2 with
  | false =>
    have HZ : Hid (F = false) := Lib.hid (by rw [Bool.eq_false_iff]; intro h; have h2 := HFF.out.1 h; have h3 := J2.out.2 h2.1.2.2.1; exact absurd h3 (by decide))
    clear HFF ob
    go_wp2_with fail
    go_ret
    exact Ret.mk (by rw [HZ.out]; rfl) hb
  | true =>
  have c3 := ob.cell 3 _ rfl
  have c4 := ob.cell 4 _ rfl
  by_cases t1 : a3 < 0
  · have HP := Lib.hid t1
    have z1 : decide (a3 < 0) = true := by simp; omega
    clear t1
    have HZ : Hid (F = false) := Lib.hid (by rw [Bool.eq_false_iff]; intro h; have h2 := HFF.out.1 h; have h3 := HP.out; omega)
    clear HFF ob
    go_wp2_with fail
    go_ret
    exact Ret.mk (by rw [HZ.out]; rfl) hb
  have z1 : decide (a3 < 0) = false := by simp; omega
  by_cases t2 : a4 ≤ a3
  · have HP := Lib.hid t2
    have z2 : decide (a3 ≥ a4) = true := by simp; omega
    clear t2
    have HZ : Hid (F = false) := Lib.hid (by rw [Bool.eq_false_iff]; intro h; have h2 := HFF.out.1 h; have h3 := HP.out; omega)
    clear HFF ob
    go_wp2_with fail
    go_ret
    exact Ret.mk (by rw [HZ.out]; rfl) hb
  have z2 : decide (a3 ≥ a4) = false := by simp; omega
  by_cases t3 : 366 < a4
  · have HP := Lib.hid t3
    have z3 : decide (a4 > 366) = true := by simp; omega
    clear t3
    have HZ : Hid (F = false) := Lib.hid (by rw [Bool.eq_false_iff]; intro h; have h2 := HFF.out.1 h; have h3 := HP.out; omega)
    clear HFF ob
    go_wp2_with fail
    go_ret
    exact Ret.mk (by rw [HZ.out]; rfl) hb
  have z3 : decide (a4 > 366) = false := by simp; omega
  have HT := Lib.hid (And.intro t1 (And.intro t2 t3))
  clear t1 t2 t3
  have c5 := ob.cell 5 _ rfl
  have c6 := ob.cell 6 _ rfl
  have c7 := ob.cell 7 _ rfl
  by_cases t4 : a5 < 1
  · have HP := Lib.hid t4
    have z4 : decide (a5 < 1) = true := by simp; omega
    clear t4
    have HZ : Hid (F = false) := Lib.hid (by rw [Bool.eq_false_iff]; intro h; have h2 := HFF.out.1 h; have h3 := HP.out; omega)
    clear HFF ob
    go_wp2_with fail
    go_ret
    exact Ret.mk (by rw [HZ.out]; rfl) hb
  have z4 : decide (a5 < 1) = false := by simp; omega
  by_cases t5 : a6 < a5
  · have HP := Lib.hid t5
    have z5 : decide (a5 > a6) = true := by simp; omega
    clear t5
    have HZ : Hid (F = false) := Lib.hid (by rw [Bool.eq_false_iff]; intro h; have h2 := HFF.out.1 h; have h3 := HP.out; omega)
    clear HFF ob
    go_wp2_with fail
    go_ret
    exact Ret.mk (by rw [HZ.out]; rfl) hb
  have z5 : decide (a5 > a6) = false := by simp; omega
  by_cases t6 : 60 < a6
  · have HP := Lib.hid t6
    have z6 : decide (a6 > 60) = true := by simp; omega
    clear t6
    have HZ : Hid (F = false) := Lib.hid (by rw [Bool.eq_false_iff]; intro h; have h2 := HFF.out.1 h; have h3 := HP.out; omega)
    clear HFF ob
    go_wp2_with fail
    go_ret
    exact Ret.mk (by rw [HZ.out]; rfl) hb
  have z6 : decide (a6 > 60) = false := by simp; omega
  have HT2 := Lib.hid (And.intro t4 (And.intro t5 t6))
  clear t4 t5 t6
  have hzz := ob.lt
  go_wp2_with fail
  clear c3 c4 c5 c6 c7
  refine (n7.out _).mono ?_
  rintro e wn ⟨rfl, hx⟩
  replace ob := ob.below hx
  replace hb := hb.trans (hx.mono hb.size)
  clear hx
  obtain ⟨wk, rfl⟩ : ∃ wk, wk = wn := ⟨_, rfl⟩
  cases i7 with
  | false =>
    have HZ : Hid (F = false) := Lib.hid (by rw [Bool.eq_false_iff]; intro h; have h2 := HFF.out.1 h; have h3 := J7.out.2 h2.2.1.2.2.2; exact absurd h3 (by decide))
    clear HFF ob
    go_wp2_with fail
    go_ret
    exact Ret.mk (by rw [HZ.out]; rfl) hb
  | true =>
  have c8 := ob.cell 8 _ rfl
  have c9 := ob.cell 9 _ rfl
  have hzz2 := ob.lt
  go_wp2_with fail
  clear c8 c9
  refine (hvk.out _).mono ?_
  rintro e wn ⟨rfl, hx⟩
  replace ob := ob.below hx
  replace hb := hb.trans (hx.mono hb.size)
  clear hx
  obtain ⟨wk, rfl⟩ : ∃ wk, wk = wn := ⟨_, rfl⟩
  have c10 := ob.cell 10 _ rfl
  have c11 := ob.cell 11 _ rfl
  have c12 := ob.cell 12 _ rfl
  have hzz3 := ob.lt
  go_wp2_with fail
  clear c10 c11 c12
  refine (hv1.out _ hb).mono ?_
  rintro e wn ⟨rfl, hx⟩
  replace ob := ob.below hx
  replace hb := hb.trans (hx.mono hb.size)
  clear hx
  obtain ⟨wk, rfl⟩ : ∃ wk, wk = wn := ⟨_, rfl⟩
  have c13 := ob.cell 13 _ rfl
  have c14 := ob.cell 14 _ rfl
  have c15 := ob.cell 15 _ rfl
  have hzz4 := ob.lt
  go_wp2_with fail
  clear c13 c14 c15
  refine (hv2.out _ hb).mono ?_
  rintro e wn ⟨rfl, hx⟩
  replace ob := ob.below hx
  replace hb := hb.trans (hx.mono hb.size)
  clear hx
  obtain ⟨wk, rfl⟩ : ∃ wk, wk = wn := ⟨_, rfl⟩
  cases bk with
  | false =>
    have HZ : Hid (F = false) := Lib.hid (by rw [Bool.eq_false_iff]; intro h; have h2 := HFF.out.1 h; exact absurd h2.2.2.1 (by decide))
    clear HFF ob
    go_wp2_with fail
    go_ret
    exact Ret.mk (by rw [HZ.out]; rfl) hb
  | true =>
  have c8 := ob.cell 8 _ rfl
  have c9 := ob.cell 9 _ rfl
  by_cases t1 : 0 ≤ kn
  · have z7 : decide (kn ≥ 0) = true := by simpa using t1
    by_cases t2 : kn ≤ kd
    · have z8 : decide (kn ≤ kd) = true := by simpa using t2
      have HK := Lib.hid (And.intro t1 t2)
      clear t1 t2
      cases bw with
      | false =>
        have HZ : Hid (F = false) := Lib.hid (by rw [Bool.eq_false_iff]; intro h; have h2 := HFF.out.1 h; exact absurd h2.2.2.2.2.2.1 (by decide))
        clear HFF ob
        go_wp2_with fail
        go_ret
        exact Ret.mk (by rw [HZ.out]; rfl) hb
      | true =>
      have HZ : Hid (F = bp) := Lib.hid (by
        rw [Bool.eq_iff_iff, HFF.out]
        have g0 := J0.out.1 (by simp)
        have g1 := J1.out.1 (by simp)
        have g2 := J2.out.1 (by simp)
        have g7 := J7.out.1 (by simp)
        have g3 := HT.out
        have g4 := HT2.out
        have g5 := HK.out
        exact ⟨fun h => h.2.2.2.2.2.2, fun h => ⟨by omega, by omega, by simp, by omega, by omega, by simp, h⟩⟩)
      clear HFF ob
      go_wp2_with fail
      go_ret
      exact Ret.mk (by rw [HZ.out]; rfl) hb
    · have z8 : decide (kn ≤ kd) = false := by simp; omega
      have HP := Lib.hid t2
      clear t1 t2
      have HZ : Hid (F = false) := Lib.hid (by rw [Bool.eq_false_iff]; intro h; have h2 := HFF.out.1 h; have h3 := HP.out; omega)
      clear HFF ob
      go_wp2_with fail
      go_ret
      exact Ret.mk (by rw [HZ.out]; rfl) hb
  · have z7 : decide (kn ≥ 0) = false := by simp; omega
    have HP := Lib.hid t1
    clear t1
    have HZ : Hid (F = false) := Lib.hid (by rw [Bool.eq_false_iff]; intro h; have h2 := HFF.out.1 h; have h3 := HP.out; omega)
    clear HFF ob
    go_wp2_with fail
    go_ret
    exact Ret.mk (by rw [HZ.out]; rfl) hb
set_option maxHeartbeats 3200000 in
theorem rrate10_any {Q : Nat → Prop} (a0 a1 a2 a3 a4 a5 a6 a7 kn kd : Int) (we pe : Xp) (ad1 : Option Addr) (cap1 : Nat) (ad2 : Option Addr) (cap2 : Nat) (w : World) (tw : Tree Q w we (.agg #[.int .i64 we.o, .int .i64 we.n, .slice ad1 we.ks.length cap1])) (tp : Tree Q w pe (.agg #[.int .i64 pe.o, .int .i64 pe.n, .slice ad2 pe.ks.length cap2])) : Calls Try.prog 14 #[.agg #[.int .i64 a0, .int .i64 a1, .int .i64 a2, .int .i64 a3, .int .i64 a4, .int .i64 a5, .int .i64 a6, .int .i64 a7, .int .i64 kn, .int .i64 kd, .int .i64 we.o, .int .i64 we.n, .slice ad1 we.ks.length cap1, .int .i64 pe.o, .int .i64 pe.n, .slice ad2 pe.ks.length cap2]] w (Ret (.tuple #[.bool (rateB ⟨a0, a1, a2, a3, a4, a5, a6, a7, kn, kd, we, pe⟩), .int .i64 (rateE ⟨a0, a1, a2, a3, a4, a5, a6, a7, kn, kd, we, pe⟩)]) w) := by
  obtain ⟨B, hB⟩ : ∃ B, rateB ⟨a0, a1, a2, a3, a4, a5, a6, a7, kn, kd, we, pe⟩ = B := ⟨_, rfl⟩
  obtain ⟨E, hE⟩ : ∃ E, rateE ⟨a0, a1, a2, a3, a4, a5, a6, a7, kn, kd, we, pe⟩ = E := ⟨_, rfl⟩
  rw [hB, hE]
  have hf := fun w1 h => rform_any a0 a1 a2 a3 a4 a5 a6 a7 kn kd we pe ad1 cap1 ad2 cap2 w1 (tw.below (w' := w1) h) (tp.below h)
  have ob := Own.new w #[.int .i64 a0, .int .i64 a1, .int .i64 a2, .int .i64 a3, .int .i64 a4, .int .i64 a5, .int .i64 a6, .int .i64 a7, .int .i64 kn, .int .i64 kd, .int .i64 we.o, .int .i64 we.n, .slice ad1 we.ks.length cap1, .int .i64 pe.o, .int .i64 pe.n, .slice ad2 pe.ks.length cap2] 30
  have hb : Below w.heap.size w (w.alloc (.cells #[.int .i64 a0, .int .i64 a1, .int .i64 a2, .int .i64 a3, .int .i64 a4, .int .i64 a5, .int .i64 a6, .int .i64 a7, .int .i64 kn, .int .i64 kd, .int .i64 we.o, .int .i64 we.n, .slice ad1 we.ks.length cap1, .int .i64 pe.o, .int .i64 pe.n, .slice ad2 pe.ks.length cap2] 30)) := by (repeat (first | exact Below.refl _ _ | assumption | refine Below.drew ?_ | refine below_drewN ?_ _ | refine Below.setCell ?_ (by first | omega | (simp <;> omega)) _ | refine Below.alloc ?_ (by first | omega | (simp <;> omega)) _))
  cases hF : formR ⟨a0, a1, a2, a3, a4, a5, a6, a7, kn, kd, we, pe⟩ with
  | false =>
    rw [hF] at hf
    have HZ : Hid (B = false ∧ E = 1) := Lib.hid ⟨by rw [← hB]; unfold rateB; rw [hF]; rfl, by rw [← hE]; unfold rateE; rw [hF]; rfl⟩
    clear hF hB hE tw tp
    go_enter Try.func14, Try.ntmps14
    go_wp2_with fail
    refine (hf _ hb).mono ?_
    rintro e w1 ⟨rfl, hx⟩
    go_wp2_with fail
    go_ret2
    exact Ret.mk (by rw [HZ.out.1, HZ.out.2]; rfl) (hb.trans (hx.mono hb.size))
  | true =>
  rw [hF] at hf
  obtain ⟨v1, v2⟩ := form_valid hF
  have HB : Hid ((typE we = 3 ∧ typE pe = 2 → B = true ∧ E = 0) ∧ (¬ (typE we = 3 ∧ typE pe = 2) → B = false ∧ E = 20)) := Lib.hid ⟨fun h => ⟨by rw [← hB]; unfold rateB; rw [hF, h.1, h.2]; rfl, by rw [← hE]; unfold rateE; rw [hF, if_pos rfl, if_pos h]⟩, fun h => ⟨by rw [← hB, Bool.eq_false_iff]; unfold rateB; rw [hF]; simpa using fun h1 h2 => h ⟨h1, h2⟩, by rw [← hE]; unfold rateE; rw [hF, if_pos rfl, if_neg h]⟩⟩
  have h1 := fun w1 h => rtype_any Q we _ w1 (ok_valid v1) (tw.below (w' := w1) h)
  have h2 := fun w1 h => rtype_any Q pe _ w1 (ok_valid v2) (tp.below (w' := w1) h)
  clear hB hE hF v1 v2 tw tp
  generalize typE we = t1 at *
  generalize typE pe = t2 at *
  go_enter Try.func14, Try.ntmps14
  go_wp2_with fail
  refine (hf _ hb).mono ?_
  rintro e w1 ⟨rfl, hx⟩
  replace ob := ob.below hx
  replace hb := hb.trans (hx.mono hb.size)
  clear hx hf
  have c10 := ob.cell 10 _ rfl
  have c11 := ob.cell 11 _ rfl
  have c12 := ob.cell 12 _ rfl
  have hz := ob.lt
  go_wp2_with fail
  refine (h1 _ hb).mono ?_
  rintro e w2 ⟨rfl, hx⟩
  replace ob := ob.below hx
  replace hb := hb.trans (hx.mono hb.size)
  clear hx h1 c10 c11 c12
  by_cases ht1 : t1 = 3
  · skip
    have et1a : ((t1 : Int) == 3) = true := by rw [beq_iff_eq]; omega
    have et1b : (t1 == 3) = true := by rw [beq_iff_eq]; omega
    have et1c : ((t1 : Int) != 3) = false := by unfold bne; rw [et1a]; rfl
    have et1d : (t1 != 3) = false := by unfold bne; rw [et1b]; rfl
    have c13 := ob.cell 13 _ rfl
    have c14 := ob.cell 14 _ rfl
    have c15 := ob.cell 15 _ rfl
    have HT := Lib.hid ht1
    clear ht1
    go_wp2_with fail
    refine (h2 _ hb).mono ?_
    rintro e w3 ⟨rfl, hx⟩
    replace hb := hb.trans (hx.mono hb.size)
    clear hx h2 c13 c14 c15 ob
    by_cases ht2 : t2 = 2
    · have HZ := Lib.hid (HB.out.1 ⟨HT.out, ht2⟩)
      have et2a : ((t2 : Int) == 2) = true := by rw [beq_iff_eq]; omega
      have et2b : (t2 == 2) = true := by rw [beq_iff_eq]; omega
      have et2c : ((t2 : Int) != 2) = false := by unfold bne; rw [et2a]; rfl
      have et2d : (t2 != 2) = false := by unfold bne; rw [et2b]; rfl
      clear ht2
      go_wp2_with fail
      go_ret2
      exact Ret.mk (by rw [HZ.out.1, HZ.out.2]; rfl) hb
    · have HZ := Lib.hid (HB.out.2 (fun h => ht2 h.2))
      have et2a : ((t2 : Int) == 2) = false := by rw [beq_eq_false_iff_ne]; omega
      have et2b : (t2 == 2) = false := by rw [beq_eq_false_iff_ne]; omega
      have et2c : ((t2 : Int) != 2) = true := by unfold bne; rw [et2a]; rfl
      have et2d : (t2 != 2) = true := by unfold bne; rw [et2b]; rfl
      clear ht2
      go_wp2_with fail
      go_ret2
      exact Ret.mk (by rw [HZ.out.1, HZ.out.2]; rfl) hb
  · have HZ := Lib.hid (HB.out.2 (fun h => ht1 h.1))
    have et1a : ((t1 : Int) == 3) = false := by rw [beq_eq_false_iff_ne]; omega
    have et1b : (t1 == 3) = false := by rw [beq_eq_false_iff_ne]; omega
    have et1c : ((t1 : Int) != 3) = true := by unfold bne; rw [et1a]; rfl
    have et1d : (t1 != 3) = true := by unfold bne; rw [et1b]; rfl
    clear ht1 ob
    go_wp2_with fail
    go_ret2
    exact Ret.mk (by rw [HZ.out.1, HZ.out.2]; rfl) hb
end Go.Proofs.Ytbkcpcjdpfndpaa
