/-
  The walk of TypesMatchesReference.
-/
import Derived.Test.YtbkcpcjdpfndpaaTypPln
namespace Go.Proofs.Ytbkcpcjdpfndpaa
open Go.RowKit Go.Shelf
set_option maxRecDepth 100000
set_option linter.unusedVariables false

abbrev HeadT : Prop := ∀ w, Calls Try.prog 8 #[] w (Ret (.bool true) w)
theorem tinferB {Q : Nat → Prop} {x : Xp} {v : Value} {w : World} (ht : Tree Q w x v) (w1 : World) (hb : Below w.heap.size w w1) : Calls Try.prog 11 #[v] w1 (Ret (.tuple #[.int .i64 (inferT x), .int .i64 (inferE x)]) w1) := tinfer_any x v w1 (ht.below hb)
set_option maxHeartbeats 6400000 in
theorem lawTM_any (hHd : HeadT) {x : Xp} {r : Rg} {l : List Rg} {v0 v1 v2 : Value} {w : World} (t0 : Tree (fun _ => False) w x v0) (m1 : RgAt w v1 r) (s2 : RgS w v2 l) : Calls Try.prog 3 #[v0, v1, v2] w (Ret (.bool true) w) := by
  obtain ⟨adx, capx, rfl, -, -⟩ := t0.shape
  obtain ⟨c, rfl, hc⟩ := m1
  obtain ⟨ad1, cap1, ad2, cap2, rfl, t1, t2⟩ := id hc
  unfold rgC at hc ⊢
  obtain ⟨W, hW⟩ : ∃ W, W = ((w.alloc (.cells #[.int .i64 x.o, .int .i64 x.n, .slice adx x.ks.length capx] 24)).alloc (.cells #[.int .i64 r.a0, .int .i64 r.a1, .int .i64 r.a2, .int .i64 r.a3, .int .i64 r.a4, .int .i64 r.a5, .int .i64 r.a6, .int .i64 r.a7, .int .i64 r.kn, .int .i64 r.kd, .int .i64 r.when.o, .int .i64 r.when.n, .slice ad1 r.when.ks.length cap1, .int .i64 r.price.o, .int .i64 r.price.n, .slice ad2 r.price.ks.length cap2] 30)) := ⟨_, rfl⟩
  have ox := (Own.new w #[.int .i64 x.o, .int .i64 x.n, .slice adx x.ks.length capx] 24).alloc (.cells #[.int .i64 r.a0, .int .i64 r.a1, .int .i64 r.a2, .int .i64 r.a3, .int .i64 r.a4, .int .i64 r.a5, .int .i64 r.a6, .int .i64 r.a7, .int .i64 r.kn, .int .i64 r.kd, .int .i64 r.when.o, .int .i64 r.when.n, .slice ad1 r.when.ks.length cap1, .int .i64 r.price.o, .int .i64 r.price.n, .slice ad2 r.price.ks.length cap2] 30)
  have orr := Own.new (w.alloc (.cells #[.int .i64 x.o, .int .i64 x.n, .slice adx x.ks.length capx] 24)) #[.int .i64 r.a0, .int .i64 r.a1, .int .i64 r.a2, .int .i64 r.a3, .int .i64 r.a4, .int .i64 r.a5, .int .i64 r.a6, .int .i64 r.a7, .int .i64 r.kn, .int .i64 r.kd, .int .i64 r.when.o, .int .i64 r.when.n, .slice ad1 r.when.ks.length cap1, .int .i64 r.price.o, .int .i64 r.price.n, .slice ad2 r.price.ks.length cap2] 30
  rw [World.size_alloc] at orr
  have hb : Below w.heap.size w ((w.alloc (.cells #[.int .i64 x.o, .int .i64 x.n, .slice adx x.ks.length capx] 24)).alloc (.cells #[.int .i64 r.a0, .int .i64 r.a1, .int .i64 r.a2, .int .i64 r.a3, .int .i64 r.a4, .int .i64 r.a5, .int .i64 r.a6, .int .i64 r.a7, .int .i64 r.kn, .int .i64 r.kd, .int .i64 r.when.o, .int .i64 r.when.n, .slice ad1 r.when.ks.length cap1, .int .i64 r.price.o, .int .i64 r.price.n, .slice ad2 r.price.ks.length cap2] 30)) := ((Below.refl _ _).alloc (Nat.le_refl _) _).alloc (by simp) _
  rw [← hW] at ox orr hb
  have hH := hHd W
  have u0 := t0.below hb
  have ur := hc.below hb
  have u2 := s2.below hb
  go_enter Try.func3, Try.ntmps3
  go_wp2_with fail
  rw [← hW]
  clear hW
  refine hH.mono ?_
  rintro e w1 ⟨rfl, hx⟩
  clear hH t0 hc t1 t2 s2 hHd
  replace ox := ox.below hx
  replace orr := orr.below hx
  replace u0 := u0.below hx
  replace ur := ur.below hx
  replace u2 := u2.below hx
  replace hb := hb.trans (hx.mono hb.size)
  clear hx
  obtain ⟨x0, x1, x2, -, -, -, xz⟩ := ox.three
  go_wp2_with fail
  have h1 := fewx_any x _ _ u0
  cases hf0 : fewX x with
  | false =>
    rw [hf0] at h1
    refine (h1).mono ?_
    rintro e w2 ⟨rfl, hx⟩
    replace ox := ox.below hx
    replace orr := orr.below hx
    replace u0 := u0.below hx
    replace ur := ur.below hx
    replace u2 := u2.below hx
    replace hb := hb.trans (hx.mono hb.size)
    clear hx
    clear x0 x1 x2 xz
    obtain ⟨x0, x1, x2, -, -, -, xz⟩ := ox.three
    go_wp2_with fail
    go_ret
    exact Ret.mk rfl hb
  | true =>
  rw [hf0] at h1
  refine (h1).mono ?_
  rintro e w2 ⟨rfl, hx⟩
  replace ox := ox.below hx
  replace orr := orr.below hx
  replace u0 := u0.below hx
  replace ur := ur.below hx
  replace u2 := u2.below hx
  replace hb := hb.trans (hx.mono hb.size)
  clear hx
  clear x0 x1 x2 xz
  clear h1 hf0
  have r0 := orr.cell 0 _ rfl
  have r1 := orr.cell 1 _ rfl
  have r2 := orr.cell 2 _ rfl
  have r3 := orr.cell 3 _ rfl
  have r4 := orr.cell 4 _ rfl
  have r5 := orr.cell 5 _ rfl
  have r6 := orr.cell 6 _ rfl
  have r7 := orr.cell 7 _ rfl
  have r8 := orr.cell 8 _ rfl
  have r9 := orr.cell 9 _ rfl
  have r10 := orr.cell 10 _ rfl
  have r11 := orr.cell 11 _ rfl
  have r12 := orr.cell 12 _ rfl
  have r13 := orr.cell 13 _ rfl
  have r14 := orr.cell 14 _ rfl
  have r15 := orr.cell 15 _ rfl
  have rz := orr.lt
  go_wp2_with fail
  have os := Own.new w2 #[.int .i64 r.a0, .int .i64 r.a1, .int .i64 r.a2, .int .i64 r.a3, .int .i64 r.a4, .int .i64 r.a5, .int .i64 r.a6, .int .i64 r.a7, .int .i64 r.kn, .int .i64 r.kd, .int .i64 r.when.o, .int .i64 r.when.n, .slice ad1 r.when.ks.length cap1, .int .i64 r.price.o, .int .i64 r.price.n, .slice ad2 r.price.ks.length cap2] 30
  have h1 := few_any [r] _ _ (rgs_new (Q := (fun _ => False)) os (ur.below (alT _ _)) 1)
  cases hf1 : fewR [r] with
  | false =>
    rw [hf1] at h1
    refine (h1).mono ?_
    rintro e w3 ⟨rfl, hx⟩
    replace ox := (ox.below (alT _ _)).below hx
    replace orr := (orr.below (alT _ _)).below hx
    replace u0 := (u0.below (alT _ _)).below hx
    replace ur := (ur.below (alT _ _)).below hx
    replace u2 := (u2.below (alT _ _)).below hx
    replace hb := (ballocT hb _).trans (hx.mono (ballocT hb _).size)
    clear hx
    clear r0 r1 r2 r3 r4 r5 r6 r7 r8 r9 r10 r11 r12 r13 r14 r15 rz
    clear os
    go_wp2_with fail
    go_ret
    exact Ret.mk rfl hb
  | true =>
  rw [hf1] at h1
  refine (h1).mono ?_
  rintro e w3 ⟨rfl, hx⟩
  replace ox := (ox.below (alT _ _)).below hx
  replace orr := (orr.below (alT _ _)).below hx
  replace u0 := (u0.below (alT _ _)).below hx
  replace ur := (ur.below (alT _ _)).below hx
  replace u2 := (u2.below (alT _ _)).below hx
  replace hb := (ballocT hb _).trans (hx.mono (ballocT hb _).size)
  clear hx
  clear r0 r1 r2 r3 r4 r5 r6 r7 r8 r9 r10 r11 r12 r13 r14 r15 rz
  clear h1 hf1 os
  go_wp2_with fail
  have h1 := few_any l _ _ u2
  cases hf2 : fewR l with
  | false =>
    rw [hf2] at h1
    refine (h1).mono ?_
    rintro e w4 ⟨rfl, hx⟩
    replace ox := ox.below hx
    replace orr := orr.below hx
    replace u0 := u0.below hx
    replace ur := ur.below hx
    replace u2 := u2.below hx
    replace hb := hb.trans (hx.mono hb.size)
    clear hx
    go_wp2_with fail
    go_ret
    exact Ret.mk rfl hb
  | true =>
  rw [hf2] at h1
  refine (h1).mono ?_
  rintro e w4 ⟨rfl, hx⟩
  replace ox := ox.below hx
  replace orr := orr.below hx
  replace u0 := u0.below hx
  replace ur := ur.below hx
  replace u2 := u2.below hx
  replace hb := hb.trans (hx.mono hb.size)
  clear hx
  clear h1 hf2
  obtain ⟨x0, x1, x2, -, -, -, xz⟩ := ox.three
  have h1 := tinfer_any x _ _ u0
  go_wp2_with fail
  refine (h1).mono ?_
  rintro e w5 ⟨rfl, hx⟩
  replace ox := ox.below hx
  replace orr := orr.below hx
  replace u0 := u0.below hx
  replace ur := ur.below hx
  replace u2 := u2.below hx
  replace hb := hb.trans (hx.mono hb.size)
  clear hx
  clear x0 x1 x2 xz
  clear h1
  obtain ⟨x0, x1, x2, -, -, -, xz⟩ := ox.three
  go_wp2_with fail
  have h1 := rinfer_any x _ _ u0
  refine (h1).mono ?_
  rintro e w6 ⟨rfl, hx⟩
  replace ox := ox.below hx
  replace orr := orr.below hx
  replace u0 := u0.below hx
  replace ur := ur.below hx
  replace u2 := u2.below hx
  replace hb := hb.trans (hx.mono hb.size)
  clear hx
  clear x0 x1 x2 xz
  clear h1 ox u0
  have r0 := orr.cell 0 _ rfl
  have r1 := orr.cell 1 _ rfl
  have r2 := orr.cell 2 _ rfl
  have r3 := orr.cell 3 _ rfl
  have r4 := orr.cell 4 _ rfl
  have r5 := orr.cell 5 _ rfl
  have r6 := orr.cell 6 _ rfl
  have r7 := orr.cell 7 _ rfl
  have r8 := orr.cell 8 _ rfl
  have r9 := orr.cell 9 _ rfl
  have r10 := orr.cell 10 _ rfl
  have r11 := orr.cell 11 _ rfl
  have r12 := orr.cell 12 _ rfl
  have r13 := orr.cell 13 _ rfl
  have r14 := orr.cell 14 _ rfl
  have r15 := orr.cell 15 _ rfl
  have rz := orr.lt
  go_wp2_with fail
  obtain ⟨_, _, _, _, hc, t1, t2⟩ := id ur
  simp only [List.cons.injEq, Value.slice.injEq, and_true, true_and, rgC] at hc
  obtain ⟨⟨rfl, rfl⟩, rfl, rfl⟩ := hc
  have h1 := trate_any r.a0 r.a1 r.a2 r.a3 r.a4 r.a5 r.a6 r.a7 r.kn r.kd r.when r.price _ _ _ _ _ t1 t2
  have t1b := t1
  have t2b := t2
  refine (h1).mono ?_
  rintro e w7 ⟨rfl, hx⟩
  replace orr := orr.below hx
  replace ur := ur.below hx
  replace u2 := u2.below hx
  replace hb := hb.trans (hx.mono hb.size)
  clear hx
  clear r0 r1 r2 r3 r4 r5 r6 r7 r8 r9 r10 r11 r12 r13 r14 r15 rz
  clear h1 t1 t2 t1b t2b
  have r0 := orr.cell 0 _ rfl
  have r1 := orr.cell 1 _ rfl
  have r2 := orr.cell 2 _ rfl
  have r3 := orr.cell 3 _ rfl
  have r4 := orr.cell 4 _ rfl
  have r5 := orr.cell 5 _ rfl
  have r6 := orr.cell 6 _ rfl
  have r7 := orr.cell 7 _ rfl
  have r8 := orr.cell 8 _ rfl
  have r9 := orr.cell 9 _ rfl
  have r10 := orr.cell 10 _ rfl
  have r11 := orr.cell 11 _ rfl
  have r12 := orr.cell 12 _ rfl
  have r13 := orr.cell 13 _ rfl
  have r14 := orr.cell 14 _ rfl
  have r15 := orr.cell 15 _ rfl
  have rz := orr.lt
  go_wp2_with fail
  obtain ⟨_, _, _, _, hc, t1, t2⟩ := id ur
  simp only [List.cons.injEq, Value.slice.injEq, and_true, true_and, rgC] at hc
  obtain ⟨⟨rfl, rfl⟩, rfl, rfl⟩ := hc
  have h1 := rrate10_any r.a0 r.a1 r.a2 r.a3 r.a4 r.a5 r.a6 r.a7 r.kn r.kd r.when r.price _ _ _ _ _ t1 t2
  refine (h1).mono ?_
  rintro e w8 ⟨rfl, hx⟩
  replace orr := orr.below hx
  replace ur := ur.below hx
  replace u2 := u2.below hx
  replace hb := hb.trans (hx.mono hb.size)
  clear hx
  clear r0 r1 r2 r3 r4 r5 r6 r7 r8 r9 r10 r11 r12 r13 r14 r15 rz
  clear h1 t1 t2 orr ur
  go_wp2_with fail
  have h1 := tvalid_any l _ _ u2
  refine (h1).mono ?_
  rintro e w9 ⟨rfl, hx⟩
  replace u2 := u2.below hx
  replace hb := hb.trans (hx.mono hb.size)
  clear hx
  clear h1
  go_wp2_with fail
  have h1 := rvalid10_any l _ _ u2
  refine (h1).mono ?_
  rintro e w10 ⟨rfl, hx⟩
  replace u2 := u2.below hx
  replace hb := hb.trans (hx.mono hb.size)
  clear hx
  clear h1
  go_wp2_with fail
  go_ret
  exact Ret.mk (by first | rfl | simp) hb
end Go.Proofs.Ytbkcpcjdpfndpaa
