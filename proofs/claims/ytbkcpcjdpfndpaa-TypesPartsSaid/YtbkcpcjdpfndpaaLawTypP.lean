/-
  The walk of TypesParts.
-/
import Derived.Test.YtbkcpcjdpfndpaaTypRen
import Derived.Test.YtbkcpcjdpfndpaaLawTypM
namespace Go.Proofs.Ytbkcpcjdpfndpaa
open Go.RowKit Go.Shelf
set_option maxRecDepth 100000
set_option linter.unusedVariables false
set_option linter.unusedSimpArgs false

theorem valid_ok {x : Xp} (h : validF x = true) : okE x = true ∧ depE x ≤ 30 := by
  unfold validF at h
  simp only [Bool.and_eq_true, decide_eq_true_eq] at h
  exact ⟨h.1.1, h.2⟩
theorem infer_bad {x : Xp} (h : validF x = true) (he : inferE x ≠ 0) : inferT x = 0 ∧ inferE x = 20 := by
  refine ⟨inferT_of he, ?_⟩
  unfold inferE at he ⊢
  rw [if_pos h] at he ⊢
  by_cases ht : typE x = 0
  · rw [if_pos ht]
  · rw [if_neg ht] at he; exact absurd rfl he
theorem kid_typ {x : Xp} (h : validF x = true) (he : inferE x = 0) {k : Nat} (hk : k < x.ks.length) : inferE x.ks[k] = 0 ∧ 1 ≤ inferT x.ks[k] ∧ inferT x.ks[k] ≤ 3 := by
  obtain ⟨-, ht⟩ := inferE_zero.1 he
  obtain ⟨o, n, l⟩ := x
  simp only [Xp.ks] at hk ⊢
  have hv := valid_kid h (List.getElem_mem hk)
  have ht2 := typ_parts ht _ (List.getElem_mem hk)
  have ht3 := typE_le l[k]
  refine ⟨inferE_zero.2 ⟨hv, ht2⟩, ?_⟩
  unfold inferT
  rw [if_pos hv]
  omega
theorem ren_typ {x : Xp} (h : validF x = true) (he : inferE x = 0) {n : Nat} (hn : n ≤ 65535) : inferE (renE x n) = 0 ∧ inferT (renE x n) = inferT x := by
  obtain ⟨-, ht⟩ := inferE_zero.1 he
  have hv := valid_ren (n := n) h (by omega)
  refine ⟨inferE_zero.2 ⟨hv, by rw [typ_ren]; exact ht⟩, ?_⟩
  unfold inferT
  rw [if_pos h, if_pos hv, typ_ren]
set_option maxHeartbeats 6400000 in
theorem lawTP_any (hHd : HeadT) {Q : Nat → Prop} {x : Xp} {v0 : Value} {w : World} (t0 : Tree Q w x v0) (n : Nat) (hn : n ≤ 65535) : Calls Try.prog 4 #[v0, .int .u16 (n : Nat)] w (Ret (.bool true) w) := by
  obtain ⟨adx, capx, rfl, hcx, -⟩ := t0.shape
  obtain ⟨W, hW⟩ : ∃ W, W = w.alloc (.cells #[.int .i64 x.o, .int .i64 x.n, .slice adx x.ks.length capx] 24) := ⟨_, rfl⟩
  have ox := Own.new w #[.int .i64 x.o, .int .i64 x.n, .slice adx x.ks.length capx] 24
  have hb := alT w (.cells #[.int .i64 x.o, .int .i64 x.n, .slice adx x.ks.length capx] 24)
  rw [← hW] at ox hb
  have hH := hHd W
  have u0 := t0.below hb
  go_enter Try.func4, Try.ntmps4
  go_wp2_with fail
  rw [← hW]
  clear hW
  refine hH.mono ?_
  rintro e w1 ⟨rfl, hx⟩
  clear hH t0 hHd
  replace ox := ox.below hx
  replace u0 := u0.below hx
  replace hb := hb.trans (hx.mono hb.size)
  clear hx
  obtain ⟨x0, x1, x2, -, -, -, xz⟩ := ox.three
  go_wp2_with fail
  have h1 := fewx_any x _ _ u0
  cases hq : fewX x with
  | false =>
    rw [hq] at h1
    refine (h1).mono ?_
    rintro e w2 ⟨rfl, hx⟩
    replace ox := ox.below hx
    replace u0 := u0.below hx
    replace hb := hb.trans (hx.mono hb.size)
    clear hx
    clear x0 x1 x2 xz
    clear h1 hq
    go_wp2_with fail
    go_ret
    exact Ret.mk rfl hb
  | true =>
  rw [hq] at h1
  refine (h1).mono ?_
  rintro e w2 ⟨rfl, hx⟩
  replace ox := ox.below hx
  replace u0 := u0.below hx
  replace hb := hb.trans (hx.mono hb.size)
  clear hx
  clear x0 x1 x2 xz
  clear h1
  clear hq
  obtain ⟨x0, x1, x2, -, -, -, xz⟩ := ox.three
  go_wp2_with fail
  have h1 := rvalid8_any x _ _ u0
  cases hq : validF x with
  | false =>
    rw [hq] at h1
    refine (h1).mono ?_
    rintro e w3 ⟨rfl, hx⟩
    replace ox := ox.below hx
    replace u0 := u0.below hx
    replace hb := hb.trans (hx.mono hb.size)
    clear hx
    clear x0 x1 x2 xz
    clear h1 hq
    go_wp2_with fail
    go_ret
    exact Ret.mk rfl hb
  | true =>
  rw [hq] at h1
  refine (h1).mono ?_
  rintro e w3 ⟨rfl, hx⟩
  replace ox := ox.below hx
  replace u0 := u0.below hx
  replace hb := hb.trans (hx.mono hb.size)
  clear hx
  clear x0 x1 x2 xz
  clear h1
  have HV := Lib.hid hq
  have hk3 := valid_le hq
  clear hq
  obtain ⟨x0, x1, x2, -, -, -, xz⟩ := ox.three
  go_wp2_with fail
  have h1 := tinfer_any x _ _ u0
  refine (h1).mono ?_
  rintro e w4 ⟨rfl, hx⟩
  replace ox := ox.below hx
  replace u0 := u0.below hx
  replace hb := hb.trans (hx.mono hb.size)
  clear hx
  clear x0 x1 x2 xz
  clear h1
  have HB := Lib.hid (infer_bad HV.out)
  have HK : Hid (inferE x = 0 → ∀ (k : Nat) (hk : k < x.ks.length), inferE x.ks[k] = 0 ∧ 1 ≤ inferT x.ks[k] ∧ inferT x.ks[k] ≤ 3) := Lib.hid (fun h k hk => kid_typ HV.out h hk)
  have HR : Hid (inferE x = 0 → inferE (renE x n) = 0 ∧ inferT (renE x n) = inferT x) := Lib.hid (fun h => ren_typ HV.out h (by omega))
  generalize inferE x = E at *
  generalize inferT x = T at *
  by_cases q1 : E = 0
  · skip
    replace HK := Lib.hid (HK.out q1)
    replace HR := Lib.hid (HR.out q1)
    have e1 : (E != 0) = false := by rw [bne_eq_false_iff_eq]; exact q1
    clear q1 HB
    obtain ⟨x0, x1, x2, -, -, -, xz⟩ := ox.three
    go_wp2_with fail
    clear x0 x1 x2 xz
    go_loopw [44] (fun i wr => ∃ k : Nat, i = .int .i64 k ∧ k ≤ x.ks.length ∧ Own wr w.heap.size [.int .i64 x.o, .int .i64 x.n, .slice adx x.ks.length capx] ∧ Tree Q wr x (.agg #[.int .i64 x.o, .int .i64 x.n, .slice adx x.ks.length capx]) ∧ Below w.heap.size w wr) (fun i _ => x.ks.length - (intOf i).toNat)
    case atStart => exact ⟨0, rfl, Nat.zero_le _, ox, u0, hb⟩
    case round =>
      clear ox u0 hb
      obtain ⟨k, rfl, hkl, ox, u0, hb⟩ := hrel
      by_cases hk : k < x.ks.length
      · skip
        obtain ⟨_, _, hv, -, uk⟩ := id u0.shape
        simp only [Value.agg.injEq, Array.mk.injEq, List.cons.injEq, Value.slice.injEq, and_true, true_and] at hv
        obtain ⟨rfl, rfl⟩ := hv
        obtain ⟨a, _, _, rfl, -⟩ := uk.reads k hk
        obtain ⟨ad2, cap2, n0, n1, n2, tk, hab⟩ := uk.reads0 k hk
        clear uk
        have hwk : IntKind.i64.wrap ((k : Int) + 1) = (k : Int) + 1 := IntWalk.i64_in _ (by omega)
        obtain ⟨f1, f2, f3⟩ := HK.out k hk
        generalize x.ks[k] = z at *
        have hz := Own.new wr #[.int .i64 z.o, .int .i64 z.n, .slice ad2 z.ks.length cap2] 24
        have hcall := tinfer_any z _ _ (tk.alloc (.cells #[.int .i64 z.o, .int .i64 z.n, .slice ad2 z.ks.length cap2] 24))
        replace ox := ox.alloc (.cells #[.int .i64 z.o, .int .i64 z.n, .slice ad2 z.ks.length cap2] 24)
        replace u0 := u0.alloc (.cells #[.int .i64 z.o, .int .i64 z.n, .slice ad2 z.ks.length cap2] 24)
        replace hb := ballocT hb (.cells #[.int .i64 z.o, .int .i64 z.n, .slice ad2 z.ks.length cap2] 24)
        have F1 := Lib.hid f1
        have F2 := Lib.hid f2
        have F3 := Lib.hid f3
        clear f1 f2 f3
        generalize inferE z = E1 at *
        generalize inferT z = T1 at *
        go_wp2_with fail
        refine (hcall).mono ?_
        rintro e w5 ⟨rfl, hx⟩
        replace ox := ox.below hx
        replace u0 := u0.below hx
        replace hb := hb.trans (hx.mono hb.size)
        clear hx
        clear hcall hz tk n0 n1 n2 hab
        have g1 : (E1 != 0) = false := by rw [bne_eq_false_iff_eq]; exact F1.out
        have g2 : decide (T1 < 1) = false := by rw [decide_eq_false_iff_not]; have := F2.out; omega
        have g3 : decide (T1 > 3) = false := by rw [decide_eq_false_iff_not]; have := F3.out; omega
        have g4 : decide (3 < T1) = false := g3
        go_wp2_with fail
        go_roundw
        case rel => exact ⟨k + 1, by go_num, by omega, ox, u0, hb⟩
        case measure => simp [intOf]; omega
      · have hkE : k = x.ks.length := by omega
        subst hkE
        obtain ⟨hok, hdep⟩ := valid_ok HV.out
        obtain ⟨x0, x1, x2, -, -, -, xz⟩ := ox.three
        have hcall := ren_any x n _ _ hok (by omega) u0.free
        obtain ⟨s1, s2⟩ := HR.out
        generalize renE x n = y at *
        go_wp2_with fail
        refine hcall.mono ?_
        rintro e w5 ⟨ad3, cap3, rfl, ty, hx⟩
        replace ox := ox.below hx
        replace u0 := u0.below hx
        replace hb := hb.trans (hx.mono hb.size)
        clear hx
        clear x0 x1 x2 xz
        clear hcall
        have oy := Own.new w5 #[.int .i64 y.o, .int .i64 y.n, .slice ad3 y.ks.length cap3] 24
        replace ty := ty.alloc (.cells #[.int .i64 y.o, .int .i64 y.n, .slice ad3 y.ks.length cap3] 24)
        replace hb := ballocT hb (.cells #[.int .i64 y.o, .int .i64 y.n, .slice ad3 y.ks.length cap3] 24)
        have hcall := tinfer_any y _ _ ty
        obtain ⟨y0, y1, y2, -, -, -, yz⟩ := oy.three
        have g1 : (inferE y == 0) = true := by rw [beq_iff_eq]; exact s1
        have g2 : (inferT y == T) = true := by rw [beq_iff_eq]; exact s2
        clear s1 s2 HR
        generalize inferE y = E2 at *
        generalize inferT y = T2 at *
        go_wp2_with fail
        refine (hcall).mono ?_
        rintro e w6 ⟨rfl, hx⟩
        replace hb := hb.trans (hx.mono hb.size)
        clear hx
        clear hcall ty oy y0 y1 y2 yz
        go_wp2_with fail
        go_ret
        exact Ret.mk rfl hb
  · obtain ⟨b1, b2⟩ := HB.out q1
    have e1 : (E != 0) = true := by rw [bne_iff_ne]; exact q1
    have e2 : (T == 0) = true := by rw [beq_iff_eq]; exact b1
    have e3 : (E == 20) = true := by rw [beq_iff_eq]; exact b2
    clear b1 b2 q1 HB HK HR
    go_wp2_with fail
    go_ret
    exact Ret.mk rfl hb
end Go.Proofs.Ytbkcpcjdpfndpaa
