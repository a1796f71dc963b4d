/-
  The walk of TypesRates.
-/
import Derived.Test.YtbkcpcjdpfndpaaLawTypM
import Derived.Test.YtbkcpcjdpfndpaaTypRow
import Derived.Deep.RegionHeld3
import Derived.Deep.DeepCutAuto
namespace Go.Proofs.Ytbkcpcjdpfndpaa
open Go.RowKit Go.Shelf
set_option maxRecDepth 100000
set_option linter.unusedVariables false

theorem rate_false {r : Rg} (h : formR r = false) : rateB r = false ∧ rateE r = 1 := ⟨by unfold rateB; rw [h]; rfl, by unfold rateE; rw [h]; rfl⟩
theorem rate_swap {r : Rg} (h : rateB r = true) : rateB { r with when := r.price, price := r.when } = false ∧ rateE { r with when := r.price, price := r.when } = 20 := by
  unfold rateB at h
  simp only [Bool.and_eq_true, decide_eq_true_eq] at h
  obtain ⟨⟨hf, h1⟩, h2⟩ := h
  have hg : formR { r with when := r.price, price := r.when } = true := by
    unfold formR at hf ⊢
    simp only [Bool.and_eq_true] at hf ⊢
    exact ⟨⟨hf.1.1, hf.2⟩, hf.1.2⟩
  exact ⟨by unfold rateB; rw [hg]; simp [h2], by unfold rateE; rw [hg]; simp [h2]⟩
theorem form_bd {r : Rg} (h : rateB r = true) : (1 ≤ r.a0 ∧ r.a0 ≤ 1000000) ∧ (0 ≤ r.a1 ∧ r.a1 ≤ 100) ∧ (1 ≤ r.a2 ∧ r.a2 ≤ 20) ∧ (0 ≤ r.a3 ∧ r.a3 < r.a4 ∧ r.a4 ≤ 366) ∧ (1 ≤ r.a5 ∧ r.a5 ≤ r.a6 ∧ r.a6 ≤ 60) ∧ (1 ≤ r.a7 ∧ r.a7 ≤ 127) ∧ (1 ≤ r.kd ∧ r.kd ≤ 1000000) := by
  unfold rateB formR vldB fitB at h
  simp only [Bool.and_eq_true, decide_eq_true_eq] at h
  omega
theorem form_no {r : Rg} (h : ¬ ((1 ≤ r.a0 ∧ r.a0 ≤ 1000000) ∧ (0 ≤ r.a1 ∧ r.a1 ≤ 100) ∧ (1 ≤ r.a2 ∧ r.a2 ≤ 20) ∧ (0 ≤ r.a3 ∧ r.a3 < r.a4 ∧ r.a4 ≤ 366) ∧ (1 ≤ r.a5 ∧ r.a5 ≤ r.a6 ∧ r.a6 ≤ 60) ∧ (1 ≤ r.a7 ∧ r.a7 ≤ 127) ∧ r.kn ≤ r.kd)) : formR r = false := by
  rw [Bool.eq_false_iff]
  intro hf
  unfold formR at hf
  simp only [Bool.and_eq_true, decide_eq_true_eq] at hf
  apply h
  omega
theorem form_mod0 {r : Rg} (h : (1 ≤ r.a0 ∧ r.a0 ≤ 1000000) ∧ (0 ≤ r.a1 ∧ r.a1 ≤ 100) ∧ (1 ≤ r.a2 ∧ r.a2 ≤ 20) ∧ (0 ≤ r.a3 ∧ r.a3 < r.a4 ∧ r.a4 ≤ 366) ∧ (1 ≤ r.a5 ∧ r.a5 ≤ r.a6 ∧ r.a6 ≤ 60) ∧ (1 ≤ r.a7 ∧ r.a7 ≤ 127) ∧ (1 ≤ r.kd ∧ r.kd ≤ 1000000)) : formR { r with a0 := 0 } = false := form_no (by simp <;> omega)
theorem form_mod1 {r : Rg} (h : (1 ≤ r.a0 ∧ r.a0 ≤ 1000000) ∧ (0 ≤ r.a1 ∧ r.a1 ≤ 100) ∧ (1 ≤ r.a2 ∧ r.a2 ≤ 20) ∧ (0 ≤ r.a3 ∧ r.a3 < r.a4 ∧ r.a4 ≤ 366) ∧ (1 ≤ r.a5 ∧ r.a5 ≤ r.a6 ∧ r.a6 ≤ 60) ∧ (1 ≤ r.a7 ∧ r.a7 ≤ 127) ∧ (1 ≤ r.kd ∧ r.kd ≤ 1000000)) : formR { r with a0 := 1000001 } = false := form_no (by simp <;> omega)
theorem form_mod2 {r : Rg} (h : (1 ≤ r.a0 ∧ r.a0 ≤ 1000000) ∧ (0 ≤ r.a1 ∧ r.a1 ≤ 100) ∧ (1 ≤ r.a2 ∧ r.a2 ≤ 20) ∧ (0 ≤ r.a3 ∧ r.a3 < r.a4 ∧ r.a4 ≤ 366) ∧ (1 ≤ r.a5 ∧ r.a5 ≤ r.a6 ∧ r.a6 ≤ 60) ∧ (1 ≤ r.a7 ∧ r.a7 ≤ 127) ∧ (1 ≤ r.kd ∧ r.kd ≤ 1000000)) : formR { r with a1 := -1 } = false := form_no (by simp <;> omega)
theorem form_mod3 {r : Rg} (h : (1 ≤ r.a0 ∧ r.a0 ≤ 1000000) ∧ (0 ≤ r.a1 ∧ r.a1 ≤ 100) ∧ (1 ≤ r.a2 ∧ r.a2 ≤ 20) ∧ (0 ≤ r.a3 ∧ r.a3 < r.a4 ∧ r.a4 ≤ 366) ∧ (1 ≤ r.a5 ∧ r.a5 ≤ r.a6 ∧ r.a6 ≤ 60) ∧ (1 ≤ r.a7 ∧ r.a7 ≤ 127) ∧ (1 ≤ r.kd ∧ r.kd ≤ 1000000)) : formR { r with a1 := 101 } = false := form_no (by simp <;> omega)
theorem form_mod4 {r : Rg} (h : (1 ≤ r.a0 ∧ r.a0 ≤ 1000000) ∧ (0 ≤ r.a1 ∧ r.a1 ≤ 100) ∧ (1 ≤ r.a2 ∧ r.a2 ≤ 20) ∧ (0 ≤ r.a3 ∧ r.a3 < r.a4 ∧ r.a4 ≤ 366) ∧ (1 ≤ r.a5 ∧ r.a5 ≤ r.a6 ∧ r.a6 ≤ 60) ∧ (1 ≤ r.a7 ∧ r.a7 ≤ 127) ∧ (1 ≤ r.kd ∧ r.kd ≤ 1000000)) : formR { r with a2 := 21 } = false := form_no (by simp <;> omega)
theorem form_mod5 {r : Rg} (h : (1 ≤ r.a0 ∧ r.a0 ≤ 1000000) ∧ (0 ≤ r.a1 ∧ r.a1 ≤ 100) ∧ (1 ≤ r.a2 ∧ r.a2 ≤ 20) ∧ (0 ≤ r.a3 ∧ r.a3 < r.a4 ∧ r.a4 ≤ 366) ∧ (1 ≤ r.a5 ∧ r.a5 ≤ r.a6 ∧ r.a6 ≤ 60) ∧ (1 ≤ r.a7 ∧ r.a7 ≤ 127) ∧ (1 ≤ r.kd ∧ r.kd ≤ 1000000)) : formR { r with a4 := r.a3 } = false := form_no (by simp <;> omega)
theorem form_mod6 {r : Rg} (h : (1 ≤ r.a0 ∧ r.a0 ≤ 1000000) ∧ (0 ≤ r.a1 ∧ r.a1 ≤ 100) ∧ (1 ≤ r.a2 ∧ r.a2 ≤ 20) ∧ (0 ≤ r.a3 ∧ r.a3 < r.a4 ∧ r.a4 ≤ 366) ∧ (1 ≤ r.a5 ∧ r.a5 ≤ r.a6 ∧ r.a6 ≤ 60) ∧ (1 ≤ r.a7 ∧ r.a7 ≤ 127) ∧ (1 ≤ r.kd ∧ r.kd ≤ 1000000)) : formR { r with a4 := 367 } = false := form_no (by simp <;> omega)
theorem form_mod7 {r : Rg} (h : (1 ≤ r.a0 ∧ r.a0 ≤ 1000000) ∧ (0 ≤ r.a1 ∧ r.a1 ≤ 100) ∧ (1 ≤ r.a2 ∧ r.a2 ≤ 20) ∧ (0 ≤ r.a3 ∧ r.a3 < r.a4 ∧ r.a4 ≤ 366) ∧ (1 ≤ r.a5 ∧ r.a5 ≤ r.a6 ∧ r.a6 ≤ 60) ∧ (1 ≤ r.a7 ∧ r.a7 ≤ 127) ∧ (1 ≤ r.kd ∧ r.kd ≤ 1000000)) : formR { r with a5 := r.a6 + 1 } = false := form_no (by simp <;> omega)
theorem form_mod8 {r : Rg} (h : (1 ≤ r.a0 ∧ r.a0 ≤ 1000000) ∧ (0 ≤ r.a1 ∧ r.a1 ≤ 100) ∧ (1 ≤ r.a2 ∧ r.a2 ≤ 20) ∧ (0 ≤ r.a3 ∧ r.a3 < r.a4 ∧ r.a4 ≤ 366) ∧ (1 ≤ r.a5 ∧ r.a5 ≤ r.a6 ∧ r.a6 ≤ 60) ∧ (1 ≤ r.a7 ∧ r.a7 ≤ 127) ∧ (1 ≤ r.kd ∧ r.kd ≤ 1000000)) : formR { r with a6 := 61 } = false := form_no (by simp <;> omega)
theorem form_mod9 {r : Rg} (h : (1 ≤ r.a0 ∧ r.a0 ≤ 1000000) ∧ (0 ≤ r.a1 ∧ r.a1 ≤ 100) ∧ (1 ≤ r.a2 ∧ r.a2 ≤ 20) ∧ (0 ≤ r.a3 ∧ r.a3 < r.a4 ∧ r.a4 ≤ 366) ∧ (1 ≤ r.a5 ∧ r.a5 ≤ r.a6 ∧ r.a6 ≤ 60) ∧ (1 ≤ r.a7 ∧ r.a7 ≤ 127) ∧ (1 ≤ r.kd ∧ r.kd ≤ 1000000)) : formR { r with a7 := 128 } = false := form_no (by simp <;> omega)
theorem form_mod10 {r : Rg} (h : (1 ≤ r.a0 ∧ r.a0 ≤ 1000000) ∧ (0 ≤ r.a1 ∧ r.a1 ≤ 100) ∧ (1 ≤ r.a2 ∧ r.a2 ≤ 20) ∧ (0 ≤ r.a3 ∧ r.a3 < r.a4 ∧ r.a4 ≤ 366) ∧ (1 ≤ r.a5 ∧ r.a5 ≤ r.a6 ∧ r.a6 ≤ 60) ∧ (1 ≤ r.a7 ∧ r.a7 ≤ 127) ∧ (1 ≤ r.kd ∧ r.kd ≤ 1000000)) : formR { r with kn := r.kd + 1 } = false := form_no (by simp <;> omega)
theorem form_mod11 {r : Rg} (h : (1 ≤ r.a0 ∧ r.a0 ≤ 1000000) ∧ (0 ≤ r.a1 ∧ r.a1 ≤ 100) ∧ (1 ≤ r.a2 ∧ r.a2 ≤ 20) ∧ (0 ≤ r.a3 ∧ r.a3 < r.a4 ∧ r.a4 ≤ 366) ∧ (1 ≤ r.a5 ∧ r.a5 ≤ r.a6 ∧ r.a6 ≤ 60) ∧ (1 ≤ r.a7 ∧ r.a7 ≤ 127) ∧ (1 ≤ r.kd ∧ r.kd ≤ 1000000)) : formR { r with a5 := 0 } = false := form_no (by simp <;> omega)
theorem valid_rr {r : Rg} : validG [r, r] = false := validG_twice (l := [r]) (by simp)
set_option maxHeartbeats 6400000 in
theorem lawTR_any (hHd : HeadT) {r : Rg} {v0 : Value} {w : World} (m0 : RgAt w v0 r) (n : Nat) (hn : n ≤ 255) : Calls Try.prog 6 #[v0, .int .u8 (n : Nat)] w (Ret (.bool true) w) := by
  obtain ⟨c, rfl, hc⟩ := m0
  obtain ⟨ad1, cap1, ad2, cap2, rfl, t1, t2⟩ := id hc
  unfold rgC at hc ⊢
  have orr := Own.new w #[.int .i64 r.a0, .int .i64 r.a1, .int .i64 r.a2, .int .i64 r.a3, .int .i64 r.a4, .int .i64 r.a5, .int .i64 r.a6, .int .i64 r.a7, .int .i64 r.kn, .int .i64 r.kd, .int .i64 r.when.o, .int .i64 r.when.n, .slice ad1 r.when.ks.length cap1, .int .i64 r.price.o, .int .i64 r.price.n, .slice ad2 r.price.ks.length cap2] 30
  have hb := alT w (.cells #[.int .i64 r.a0, .int .i64 r.a1, .int .i64 r.a2, .int .i64 r.a3, .int .i64 r.a4, .int .i64 r.a5, .int .i64 r.a6, .int .i64 r.a7, .int .i64 r.kn, .int .i64 r.kd, .int .i64 r.when.o, .int .i64 r.when.n, .slice ad1 r.when.ks.length cap1, .int .i64 r.price.o, .int .i64 r.price.n, .slice ad2 r.price.ks.length cap2] 30)
  have ur := hc.below hb
  obtain ⟨W, hW⟩ : ∃ W, W = w.alloc (.cells #[.int .i64 r.a0, .int .i64 r.a1, .int .i64 r.a2, .int .i64 r.a3, .int .i64 r.a4, .int .i64 r.a5, .int .i64 r.a6, .int .i64 r.a7, .int .i64 r.kn, .int .i64 r.kd, .int .i64 r.when.o, .int .i64 r.when.n, .slice ad1 r.when.ks.length cap1, .int .i64 r.price.o, .int .i64 r.price.n, .slice ad2 r.price.ks.length cap2] 30) := ⟨_, rfl⟩
  rw [← hW] at orr hb ur
  have hH := hHd W
  go_enter Try.func6, Try.ntmps6
  go_wp2_with fail
  rw [← hW]
  clear hW
  refine hH.mono ?_
  rintro e w1 ⟨rfl, hx⟩
  clear hH t1 t2 hc hHd
  replace orr := orr.below hx
  replace ur := ur.below hx
  replace hb := hb.trans (hx.mono hb.size)
  clear hx
  have rr := Lib.hid orr.rangeT
  have rz := orr.lt
  go_wp2_with (first | refine wpList_load_atT rfl 30 _ rfl _ rfl _ _ rr.out Try.underlying30 rfl Try.sizeRateT ?_ | refine wpList_load_atG (by kernel_rfl) 30 _ rfl _ rfl _ _ rr.out Try.underlying30 rfl Try.sizeRateT ?_)
  have os := Own.new w1 #[.int .i64 r.a0, .int .i64 r.a1, .int .i64 r.a2, .int .i64 r.a3, .int .i64 r.a4, .int .i64 r.a5, .int .i64 r.a6, .int .i64 r.a7, .int .i64 r.kn, .int .i64 r.kd, .int .i64 r.when.o, .int .i64 r.when.n, .slice ad1 r.when.ks.length cap1, .int .i64 r.price.o, .int .i64 r.price.n, .slice ad2 r.price.ks.length cap2] 30
  have h1 := few_any [r] _ _ (rgs_new (Q := (fun _ => False)) os (ur.below (alT _ _)) 1)
  cases hf1 : fewR [r] with
  | false =>
    rw [hf1] at h1
    refine (h1).mono ?_
    rintro e w3 ⟨rfl, hx⟩
    replace orr := (orr.below (alT _ _)).below hx
    replace ur := (ur.below (alT _ _)).below hx
    replace hb := (ballocT hb _).trans (hx.mono (ballocT hb _).size)
    clear hx
    clear rr rz
    clear os
    go_wp2_with fail
    go_ret
    exact Ret.mk rfl hb
  | true =>
  rw [hf1] at h1
  refine (h1).mono ?_
  rintro e w3 ⟨rfl, hx⟩
  replace orr := (orr.below (alT _ _)).below hx
  replace ur := (ur.below (alT _ _)).below hx
  replace hb := (ballocT hb _).trans (hx.mono (ballocT hb _).size)
  clear hx
  clear rr rz
  clear h1 hf1 os
  have rr := Lib.hid orr.rangeT
  have rz := orr.lt
  go_wp2_with (first | refine wpList_load_atT rfl 30 _ rfl _ rfl _ _ rr.out Try.underlying30 rfl Try.sizeRateT ?_ | refine wpList_load_atG (by kernel_rfl) 30 _ rfl _ rfl _ _ rr.out Try.underlying30 rfl Try.sizeRateT ?_)
  obtain ⟨_, _, _, _, hc, t1, t2⟩ := id ur
  simp only [List.cons.injEq, Value.slice.injEq, and_true, true_and, rgC] at hc
  obtain ⟨⟨rfl, rfl⟩, rfl, rfl⟩ := hc
  have h1 := trate_any r.a0 r.a1 r.a2 r.a3 r.a4 r.a5 r.a6 r.a7 r.kn r.kd r.when r.price _ _ _ _ _ t1 t2
  cases hB : rateB r with
  | false =>
    have hne : rateE r ≠ 0 := fun h => by rw [rateE_zero.1 h] at hB; cases hB
    change Calls _ _ _ _ (Ret (.tuple #[.bool (rateB r), .int .i64 (rateE r)]) _) at h1
    rw [hB] at h1
    generalize rateE r = E at *
    refine (h1).mono ?_
    rintro e w4 ⟨rfl, hx⟩
    replace orr := orr.below hx
    replace ur := ur.below hx
    replace hb := hb.trans (hx.mono hb.size)
    clear hx
    clear rr rz
    clear t1 t2 h1 hB
    have n1 : (E != 0) = true := by rw [bne_iff_ne]; exact hne
    have n2 : (E == 0) = false := by rw [beq_eq_false_iff_ne]; exact hne
    have n3 := Lib.hid hne
    clear hne
    go_wp2_with fail
    go_ret
    exact Ret.mk rfl hb
  | true =>
  have hE := rateE_zero.2 hB
  change Calls _ _ _ _ (Ret (.tuple #[.bool (rateB r), .int .i64 (rateE r)]) _) at h1
  rw [hB, hE] at h1
  refine (h1).mono ?_
  rintro e w4 ⟨rfl, hx⟩
  replace orr := orr.below hx
  replace ur := ur.below hx
  replace hb := hb.trans (hx.mono hb.size)
  clear hx
  clear rr rz
  clear t1 t2 h1 hE
  have HBD := Lib.hid (form_bd hB)
  have HB := Lib.hid hB
  clear hB
  have rr := Lib.hid orr.rangeT
  have rz := orr.lt
  go_upto_region 8 with (first | refine wpList_load_atT rfl 30 _ rfl _ rfl _ _ rr.out Try.underlying30 rfl Try.sizeRateT ?_ | refine wpList_load_atG (by kernel_rfl) 30 _ rfl _ rfl _ _ rr.out Try.underlying30 rfl Try.sizeRateT ?_)
  clear rr rz
  obtain ⟨V, hV⟩ : ∃ V, V = w4.alloc (.cells #[.int .i64 r.a0, .int .i64 r.a1, .int .i64 r.a2, .int .i64 r.a3, .int .i64 r.a4, .int .i64 r.a5, .int .i64 r.a6, .int .i64 r.a7, .int .i64 r.kn, .int .i64 r.kd, .int .i64 r.when.o, .int .i64 r.when.n, .slice ad1 r.when.ks.length cap1, .int .i64 r.price.o, .int .i64 r.price.n, .slice ad2 r.price.ks.length cap2] 30) := ⟨_, rfl⟩
  have oX := Own.new w4 #[.int .i64 r.a0, .int .i64 r.a1, .int .i64 r.a2, .int .i64 r.a3, .int .i64 r.a4, .int .i64 r.a5, .int .i64 r.a6, .int .i64 r.a7, .int .i64 r.kn, .int .i64 r.kd, .int .i64 r.when.o, .int .i64 r.when.n, .slice ad1 r.when.ks.length cap1, .int .i64 r.price.o, .int .i64 r.price.n, .slice ad2 r.price.ks.length cap2] 30
  have or4 := orr
  replace orr := orr.alloc (.cells #[.int .i64 r.a0, .int .i64 r.a1, .int .i64 r.a2, .int .i64 r.a3, .int .i64 r.a4, .int .i64 r.a5, .int .i64 r.a6, .int .i64 r.a7, .int .i64 r.kn, .int .i64 r.kd, .int .i64 r.when.o, .int .i64 r.when.n, .slice ad1 r.when.ks.length cap1, .int .i64 r.price.o, .int .i64 r.price.n, .slice ad2 r.price.ks.length cap2] 30)
  have hk := alT w4 (.cells #[.int .i64 r.a0, .int .i64 r.a1, .int .i64 r.a2, .int .i64 r.a3, .int .i64 r.a4, .int .i64 r.a5, .int .i64 r.a6, .int .i64 r.a7, .int .i64 r.kn, .int .i64 r.kd, .int .i64 r.when.o, .int .i64 r.when.n, .slice ad1 r.when.ks.length cap1, .int .i64 r.price.o, .int .i64 r.price.n, .slice ad2 r.price.ks.length cap2] 30)
  rw [← hV] at oX orr hk
  rw [← hV]
  go_cut [] (fun wx => Own wx w4.heap.size [.int .i64 r.a0, .int .i64 r.a1, .int .i64 r.a2, .int .i64 r.a3, .int .i64 r.a4, .int .i64 r.a5, .int .i64 r.a6, .int .i64 r.a7, .int .i64 r.kn, .int .i64 r.kd, .int .i64 r.price.o, .int .i64 r.price.n, .slice ad2 r.price.ks.length cap2, .int .i64 r.when.o, .int .i64 r.when.n, .slice ad1 r.when.ks.length cap1] ∧ Below w4.heap.size w4 wx)
  case first =>
    have r10 := orr.cell 10 _ rfl
    have r11 := orr.cell 11 _ rfl
    have r12 := orr.cell 12 _ rfl
    have r13 := orr.cell 13 _ rfl
    have r14 := orr.cell 14 _ rfl
    have r15 := orr.cell 15 _ rfl
    have x10 := oX.cell 10 _ rfl
    have x11 := oX.cell 11 _ rfl
    have x12 := oX.cell 12 _ rfl
    have x13 := oX.cell 13 _ rfl
    have x14 := oX.cell 14 _ rfl
    have x15 := oX.cell 15 _ rfl
    have f10 := oX.fro 10 _ rfl
    have f11 := oX.fro 11 _ rfl
    have f12 := oX.fro 12 _ rfl
    have f13 := oX.fro 13 _ rfl
    have f14 := oX.fro 14 _ rfl
    have f15 := oX.fro 15 _ rfl
    have pd10 := (orr.drewT).cell 10 _ rfl
    have pk10 := fun o => ((or4.alloc o).drewT).cell 10 _ rfl
    have pd11 := (orr.drewT).cell 11 _ rfl
    have pk11 := fun o => ((or4.alloc o).drewT).cell 11 _ rfl
    have pd12 := (orr.drewT).cell 12 _ rfl
    have pk12 := fun o => ((or4.alloc o).drewT).cell 12 _ rfl
    have pd13 := (orr.drewT).cell 13 _ rfl
    have pk13 := fun o => ((or4.alloc o).drewT).cell 13 _ rfl
    have pd14 := (orr.drewT).cell 14 _ rfl
    have pk14 := fun o => ((or4.alloc o).drewT).cell 14 _ rfl
    have pd15 := (orr.drewT).cell 15 _ rfl
    have pk15 := fun o => ((or4.alloc o).drewT).cell 15 _ rfl
    go_region_held3 (fun w' => w'.cell? ⟨w.heap.size, 10, none⟩ = some (.int .i64 r.when.o) ∧ w'.cell? ⟨w.heap.size, 11, none⟩ = some (.int .i64 r.when.n) ∧ w'.cell? ⟨w.heap.size, 12, none⟩ = some (.slice ad1 r.when.ks.length cap1) ∧ w'.cell? ⟨w.heap.size, 13, none⟩ = some (.int .i64 r.price.o) ∧ w'.cell? ⟨w.heap.size, 14, none⟩ = some (.int .i64 r.price.n) ∧ w'.cell? ⟨w.heap.size, 15, none⟩ = some (.slice ad2 r.price.ks.length cap2)) (first | exact ⟨pd10, pd11, pd12, pd13, pd14, pd15⟩ | exact ⟨pk10 _, pk11 _, pk12 _, pk13 _, pk14 _, pk15 _⟩ | fail) (first | fail)
    all_goals (
      go_wp2_with fail
      go_meet
      exact ⟨(Own.new w4 #[.int .i64 r.a0, .int .i64 r.a1, .int .i64 r.a2, .int .i64 r.a3, .int .i64 r.a4, .int .i64 r.a5, .int .i64 r.a6, .int .i64 r.a7, .int .i64 r.kn, .int .i64 r.kd, .int .i64 r.price.o, .int .i64 r.price.n, .slice ad2 r.price.ks.length cap2, .int .i64 r.when.o, .int .i64 r.when.n, .slice ad1 r.when.ks.length cap1] 30).drewT, (alT w4 (.cells #[.int .i64 r.a0, .int .i64 r.a1, .int .i64 r.a2, .int .i64 r.a3, .int .i64 r.a4, .int .i64 r.a5, .int .i64 r.a6, .int .i64 r.a7, .int .i64 r.kn, .int .i64 r.kd, .int .i64 r.price.o, .int .i64 r.price.n, .slice ad2 r.price.ks.length cap2, .int .i64 r.when.o, .int .i64 r.when.n, .slice ad1 r.when.ks.length cap1] 30)).drew⟩)
  case rest =>
    clear hV oX hk orr V
    obtain ⟨oX, hk⟩ := hcut
    have orr := or4.below hk
    replace ur := ur.below hk
    replace hb := hb.trans (hk.mono hb.size)
    clear hk or4
    generalize w4.heap.size = bX at *
    have xr := Lib.hid oX.rangeT
    have xz := oX.lt
    go_wp2_with (first | refine wpList_load_atT rfl 30 _ rfl _ rfl _ _ xr.out Try.underlying30 rfl Try.sizeRateT ?_ | refine wpList_load_atG (by kernel_rfl) 30 _ rfl _ rfl _ _ xr.out Try.underlying30 rfl Try.sizeRateT ?_)
    clear xr xz
    obtain ⟨_, _, _, _, hc, t1, t2⟩ := id ur
    simp only [List.cons.injEq, Value.slice.injEq, and_true, true_and, rgC] at hc
    obtain ⟨⟨rfl, rfl⟩, rfl, rfl⟩ := hc
    have h1 := trate_any r.a0 r.a1 r.a2 r.a3 r.a4 r.a5 r.a6 r.a7 r.kn r.kd r.price r.when _ _ _ _ _ t2 t1
    change Calls _ _ _ _ (Ret (.tuple #[.bool (rateB { r with when := r.price, price := r.when }), .int .i64 (rateE { r with when := r.price, price := r.when })]) _) at h1
    rw [(rate_swap HB.out).1, (rate_swap HB.out).2] at h1
    refine (h1).mono ?_
    rintro e w5 ⟨rfl, hx⟩
    replace orr := orr.below hx
    replace ur := ur.below hx
    replace hb := hb.trans (hx.mono hb.size)
    clear hx
    clear h1 oX t1 t2
    have rr := Lib.hid orr.rangeT
    have rz := orr.lt
    go_upto_region 10 with (fail)
    go_cut [11] (fun s11 wx => s11 = .pointer (some ⟨w5.heap.size, 0, none⟩) ∧ wx = w5.alloc (.cells #[.int .i64 r.a0, .int .i64 r.a1, .int .i64 r.a2, .int .i64 r.a3, .int .i64 r.a4, .int .i64 r.a5, .int .i64 r.a6, .int .i64 r.a7, .int .i64 r.kn, .int .i64 r.kd, .int .i64 r.when.o, .int .i64 r.when.n, .slice ad1 r.when.ks.length cap1, .int .i64 r.price.o, .int .i64 r.price.n, .slice ad2 r.price.ks.length cap2] 30))
    case first =>
      go_wp2_with (first | refine wpList_load_atT rfl 30 _ rfl _ rfl _ _ rr.out Try.underlying30 rfl Try.sizeRateT ?_ | refine wpList_load_atG (by kernel_rfl) 30 _ rfl _ rfl _ _ rr.out Try.underlying30 rfl Try.sizeRateT ?_)
      go_meet
      exact ⟨rfl, rfl⟩
    case rest =>
      obtain ⟨rfl, rfl⟩ := hcut
      clear rr rz
      go_step
      go_step
      go_cut [] (fun wx => ∃ r2 : Rg, r2.when = r.when ∧ r2.price = r.price ∧ formR r2 = false ∧ Own wx w5.heap.size (rgC r2 (.slice ad1 r.when.ks.length cap1) (.slice ad2 r.price.ks.length cap2)) ∧ Below w5.heap.size w5 wx)
      case first =>
        have oY := Own.new w5 #[.int .i64 r.a0, .int .i64 r.a1, .int .i64 r.a2, .int .i64 r.a3, .int .i64 r.a4, .int .i64 r.a5, .int .i64 r.a6, .int .i64 r.a7, .int .i64 r.kn, .int .i64 r.kd, .int .i64 r.when.o, .int .i64 r.when.n, .slice ad1 r.when.ks.length cap1, .int .i64 r.price.o, .int .i64 r.price.n, .slice ad2 r.price.ks.length cap2] 30
        have hY := alT w5 (.cells #[.int .i64 r.a0, .int .i64 r.a1, .int .i64 r.a2, .int .i64 r.a3, .int .i64 r.a4, .int .i64 r.a5, .int .i64 r.a6, .int .i64 r.a7, .int .i64 r.kn, .int .i64 r.kd, .int .i64 r.when.o, .int .i64 r.when.n, .slice ad1 r.when.ks.length cap1, .int .i64 r.price.o, .int .i64 r.price.n, .slice ad2 r.price.ks.length cap2] 30)
        have hbd := HBD.out
        have hwa : IntKind.i64.wrap (r.a6 + 1) = r.a6 + 1 := IntWalk.i64_in _ (by omega)
        have hwb : IntKind.i64.wrap (r.kd + 1) = r.kd + 1 := IntWalk.i64_in _ (by omega)
        clear hbd
        rcases (by omega : (n : Int) % 12 = 0 ∨ (n : Int) % 12 = 1 ∨ (n : Int) % 12 = 2 ∨ (n : Int) % 12 = 3 ∨ (n : Int) % 12 = 4 ∨ (n : Int) % 12 = 5 ∨ (n : Int) % 12 = 6 ∨ (n : Int) % 12 = 7 ∨ (n : Int) % 12 = 8 ∨ (n : Int) % 12 = 9 ∨ (n : Int) % 12 = 10 ∨ (n : Int) % 12 = 11) with hq | hq | hq | hq | hq | hq | hq | hq | hq | hq | hq | hq
        · have HNO := Lib.hid (form_mod0 HBD.out)
          go_wp2_with fail
          go_meet
          exact ⟨{ r with a0 := 0 }, rfl, rfl, HNO.out, Own.new w5 _ _, alT w5 _⟩
        · have HNO := Lib.hid (form_mod1 HBD.out)
          go_wp2_with fail
          go_meet
          exact ⟨{ r with a0 := 1000001 }, rfl, rfl, HNO.out, Own.new w5 _ _, alT w5 _⟩
        · have HNO := Lib.hid (form_mod2 HBD.out)
          go_wp2_with fail
          go_meet
          exact ⟨{ r with a1 := -1 }, rfl, rfl, HNO.out, Own.new w5 _ _, alT w5 _⟩
        · have HNO := Lib.hid (form_mod3 HBD.out)
          go_wp2_with fail
          go_meet
          exact ⟨{ r with a1 := 101 }, rfl, rfl, HNO.out, Own.new w5 _ _, alT w5 _⟩
        · have HNO := Lib.hid (form_mod4 HBD.out)
          go_wp2_with fail
          go_meet
          exact ⟨{ r with a2 := 21 }, rfl, rfl, HNO.out, Own.new w5 _ _, alT w5 _⟩
        · have HNO := Lib.hid (form_mod5 HBD.out)
          go_wp2_with fail
          go_meet
          exact ⟨{ r with a4 := r.a3 }, rfl, rfl, HNO.out, Own.new w5 _ _, alT w5 _⟩
        · have HNO := Lib.hid (form_mod6 HBD.out)
          go_wp2_with fail
          go_meet
          exact ⟨{ r with a4 := 367 }, rfl, rfl, HNO.out, Own.new w5 _ _, alT w5 _⟩
        · have HNO := Lib.hid (form_mod7 HBD.out)
          go_wp2_with fail
          go_meet
          exact ⟨{ r with a5 := r.a6 + 1 }, rfl, rfl, HNO.out, Own.new w5 _ _, alT w5 _⟩
        · have HNO := Lib.hid (form_mod8 HBD.out)
          go_wp2_with fail
          go_meet
          exact ⟨{ r with a6 := 61 }, rfl, rfl, HNO.out, Own.new w5 _ _, alT w5 _⟩
        · have HNO := Lib.hid (form_mod9 HBD.out)
          go_wp2_with fail
          go_meet
          exact ⟨{ r with a7 := 128 }, rfl, rfl, HNO.out, Own.new w5 _ _, alT w5 _⟩
        · have HNO := Lib.hid (form_mod10 HBD.out)
          go_wp2_with fail
          go_meet
          exact ⟨{ r with kn := r.kd + 1 }, rfl, rfl, HNO.out, Own.new w5 _ _, alT w5 _⟩
        · have HNO := Lib.hid (form_mod11 HBD.out)
          go_wp2_with fail
          go_meet
          exact ⟨{ r with a5 := 0 }, rfl, rfl, HNO.out, Own.new w5 _ _, alT w5 _⟩
      case rest =>
        obtain ⟨r2, hw2, hp2, hno, oY, hk⟩ := hcut
        have orr := orr.below hk
        replace ur := ur.below hk
        replace hb := hb.trans (hk.mono hb.size)
        clear hk
        generalize w5.heap.size = bY at *
        obtain ⟨b0, b1, b2, b3, b4, b5, b6, b7, bn, bd, we2, pe2⟩ := r2
        simp only at hw2 hp2
        subst hw2 hp2
        unfold rgC at oY
        simp only at oY
        have yr := Lib.hid oY.rangeT
        have yz := oY.lt
        go_wp2_with (first | refine wpList_load_atT rfl 30 _ rfl _ rfl _ _ yr.out Try.underlying30 rfl Try.sizeRateT ?_ | refine wpList_load_atG (by kernel_rfl) 30 _ rfl _ rfl _ _ yr.out Try.underlying30 rfl Try.sizeRateT ?_)
        clear yr yz
        obtain ⟨_, _, _, _, hc, t1, t2⟩ := id ur
        simp only [List.cons.injEq, Value.slice.injEq, and_true, true_and, rgC] at hc
        obtain ⟨⟨rfl, rfl⟩, rfl, rfl⟩ := hc
        have h1 := trate_any b0 b1 b2 b3 b4 b5 b6 b7 bn bd r.when r.price _ _ _ _ _ t1 t2
        rw [(rate_false hno).1, (rate_false hno).2] at h1
        refine (h1).mono ?_
        rintro e w6 ⟨rfl, hx⟩
        replace orr := orr.below hx
        replace ur := ur.below hx
        replace hb := hb.trans (hx.mono hb.size)
        clear hx
        clear h1 oY t1 t2 hno
        have rr := Lib.hid orr.rangeT
        have rz := orr.lt
        go_wp2_with (first | refine wpList_load_atT rfl 30 _ rfl _ rfl _ _ rr.out Try.underlying30 rfl Try.sizeRateT ?_ | refine wpList_load_atG (by kernel_rfl) 30 _ rfl _ rfl _ _ rr.out Try.underlying30 rfl Try.sizeRateT ?_)
        clear rr rz
        have os := Own.new w6 #[.int .i64 r.a0, .int .i64 r.a1, .int .i64 r.a2, .int .i64 r.a3, .int .i64 r.a4, .int .i64 r.a5, .int .i64 r.a6, .int .i64 r.a7, .int .i64 r.kn, .int .i64 r.kd, .int .i64 r.when.o, .int .i64 r.when.n, .slice ad1 r.when.ks.length cap1, .int .i64 r.price.o, .int .i64 r.price.n, .slice ad2 r.price.ks.length cap2] 30
        have h1 := tvalid_any [r] _ _ (rgs_new (Q := (fun _ => False)) os (ur.below (alT _ _)) 1)
        rw [validG_one HB.out] at h1
        refine (h1).mono ?_
        rintro e w7 ⟨rfl, hx⟩
        replace orr := (orr.below (alT _ _)).below hx
        replace ur := (ur.below (alT _ _)).below hx
        replace hb := (ballocT hb _).trans (hx.mono (ballocT hb _).size)
        clear hx
        clear h1 os
        have rr := Lib.hid orr.rangeT
        have rz := orr.lt
        go_wp2_with (first | refine wpList_load_atT rfl 30 _ rfl _ rfl _ _ rr.out Try.underlying30 rfl Try.sizeRateT ?_ | refine wpList_load_atG (by kernel_rfl) 30 _ rfl _ rfl _ _ rr.out Try.underlying30 rfl Try.sizeRateT ?_)
        clear rr rz
        have os := Own.new w7 #[.int .i64 r.a0, .int .i64 r.a1, .int .i64 r.a2, .int .i64 r.a3, .int .i64 r.a4, .int .i64 r.a5, .int .i64 r.a6, .int .i64 r.a7, .int .i64 r.kn, .int .i64 r.kd, .int .i64 r.when.o, .int .i64 r.when.n, .slice ad1 r.when.ks.length cap1, .int .i64 r.price.o, .int .i64 r.price.n, .slice ad2 r.price.ks.length cap2, .int .i64 r.a0, .int .i64 r.a1, .int .i64 r.a2, .int .i64 r.a3, .int .i64 r.a4, .int .i64 r.a5, .int .i64 r.a6, .int .i64 r.a7, .int .i64 r.kn, .int .i64 r.kd, .int .i64 r.when.o, .int .i64 r.when.n, .slice ad1 r.when.ks.length cap1, .int .i64 r.price.o, .int .i64 r.price.n, .slice ad2 r.price.ks.length cap2] 30
        have ur2 := ur.below (alT w7 (.cells #[.int .i64 r.a0, .int .i64 r.a1, .int .i64 r.a2, .int .i64 r.a3, .int .i64 r.a4, .int .i64 r.a5, .int .i64 r.a6, .int .i64 r.a7, .int .i64 r.kn, .int .i64 r.kd, .int .i64 r.when.o, .int .i64 r.when.n, .slice ad1 r.when.ks.length cap1, .int .i64 r.price.o, .int .i64 r.price.n, .slice ad2 r.price.ks.length cap2, .int .i64 r.a0, .int .i64 r.a1, .int .i64 r.a2, .int .i64 r.a3, .int .i64 r.a4, .int .i64 r.a5, .int .i64 r.a6, .int .i64 r.a7, .int .i64 r.kn, .int .i64 r.kd, .int .i64 r.when.o, .int .i64 r.when.n, .slice ad1 r.when.ks.length cap1, .int .i64 r.price.o, .int .i64 r.price.n, .slice ad2 r.price.ks.length cap2] 30))
        have h1 := tvalid_any [r, r] _ _ ⟨some ⟨w7.heap.size, 0, none⟩, 2, _, rfl, by simp, ⟨_, _, rfl, ur2, ⟨_, _, (List.append_nil _).symm, ur2, rfl⟩⟩, .inr ⟨_, rfl, os.lt, fun j u hj => by rw [xadd_zero0]; exact os.cell j u hj⟩⟩
        rw [valid_rr] at h1
        refine (h1).mono ?_
        rintro e w8 ⟨rfl, hx⟩
        replace orr := (orr.below (alT _ _)).below hx
        replace ur := (ur.below (alT _ _)).below hx
        replace hb := (ballocT hb _).trans (hx.mono (ballocT hb _).size)
        clear hx
        clear h1 os ur2
        go_wp2_with fail
        go_ret
        exact Ret.mk rfl hb
end Go.Proofs.Ytbkcpcjdpfndpaa
