/-
  The reference's parser: an atom with parts, or none.
-/
import Derived.Test.YthnlenbfknbmcaaGreatDoorParR6
namespace Go.Proofs.YthnlenbfknbmcaaGreatDoor
open Go.RowKit Go.Shelf
set_option maxRecDepth 100000
set_option linter.unusedVariables false
set_option linter.unusedSimpArgs false
variable {W0 : World} {ad : Option Addr} {cap : Nat} {L : List Tok}
set_option maxHeartbeats 3200000 in
theorem ratom_min (hE : REnv W0 ad cap L) {n : Nat} (HX : ∀ m, m < n → MethR W0 ad cap L 28 .expr m) (i : Nat) (w : World) (hW : Below W0.heap.size W0 w) (hlt : i < L.length) (hn : L.length < i + n) (hk2 : (L[i]).k ≠ 2) (hk3 : (L[i]).k ≠ 3) (ht : (L[i]).t = wMin) : Calls Tryz.prog 72 #[pv ad cap L i false] w (XEnd ad cap L .atom i false w) := by
  obtain ⟨a, e0, d0, d1, d2, hab⟩ := hE.reads hW hlt
  subst e0
  have hdr := List.drop_eq_getElem_cons hlt
  have hnum := hE.nums _ (List.getElem_mem hlt)
  have hsh := hE.short
  have hd : decide ((L.length : Int) ≤ (i : Int)) = false := by simpa using hlt
  have hix : ¬ ((i : Int) < 0) := by omega
  have hw : IntKind.i64.wrap ((i : Int) + 1) = (i : Int) + 1 := IntWalk.i64_in _ (by omega)
  generalize L[i] = x at *
  obtain ⟨xk, xn, xt⟩ := x
  simp only at *
  have hV := fun w1 => rvariable_any xt w1
  have hv : varF xt = 0 := by rw [ht]; decide
  have hk2b : ((xk : Int) == 2) = false := by simpa using (by omega : ¬ (xk : Int) = 2)
  have hk3b : ((xk : Int) == 3) = false := by simpa using (by omega : ¬ (xk : Int) = 3)
  rw [hv] at hV
  have e1 : (xt == [109, 105, 110]) = true := by rw [ht]; rfl
  have hT := fun w1 (h : Below w.heap.size w w1) => rtwo_any hE HX 8 i w1 (hW.trans (h.mono hW.size)) hlt hn
  have HDR := Lib.hid hdr
  replace hk2 := Lib.hid hk2
  replace hk3 := Lib.hid hk3
  replace ht := Lib.hid ht
  clear hE hW HX hnum hn hv hdr
  have hb3 : Below w.heap.size w (((w.alloc (.cells #[.slice (some a) L.length cap, .int .i64 (i : Nat), .bool false] 67)).alloc (.cells #[.slice none 0 0, .int .i64 0, .bool false] 67)).alloc (.cells #[.int .i64 0, .int .i64 0, .slice none 0 0] 24)) := balloc (balloc (balloc (Below.refl _ _) _) _) _
  have j0 := (hb3.cell (p := a.add (i * 3)) hab).trans d0
  have j1 := (hb3.cell (p := { block := (a.add (i * 3)).block, off := (a.add (i * 3)).off + 1 }) hab).trans d1
  have j2 := (hb3.cell (p := { block := (a.add (i * 3)).block, off := (a.add (i * 3)).off + 2 }) hab).trans d2
  clear hb3
  go_enter Tryz.func72, Tryz.ntmps72
  go_wp2_with fail
  refine (hV _).mono ?_
  rintro e w1 ⟨rfl, hx⟩
  have op : Own w1 w.heap.size [.slice (some a) L.length cap, .int .i64 (i : Nat), .bool false] := by have := ((((Own.new w #[.slice (some a) L.length cap, .int .i64 (i : Nat), .bool false] 67).alloc (.cells #[.slice none 0 0, .int .i64 0, .bool false] 67)).alloc (.cells #[.int .i64 0, .int .i64 0, .slice none 0 0] 24)).alloc (.cells #[.int .i64 xk, .int .i64 xn, .string ⟨xt.toArray⟩] 87)).below hx; simpa using this
  have r1 : Own w1 (w.heap.size + 1) [.slice none 0 0, .int .i64 0, .bool false] := by have := (((Own.new (w.alloc (.cells #[.slice (some a) L.length cap, .int .i64 (i : Nat), .bool false] 67)) #[.slice none 0 0, .int .i64 0, .bool false] 67).alloc (.cells #[.int .i64 0, .int .i64 0, .slice none 0 0] 24)).alloc (.cells #[.int .i64 xk, .int .i64 xn, .string ⟨xt.toArray⟩] 87)).below hx; simpa using this
  have r2 : Own w1 (w.heap.size + 1 + 1) [.int .i64 0, .int .i64 0, .slice none 0 0] := by have := ((Own.new ((w.alloc (.cells #[.slice (some a) L.length cap, .int .i64 (i : Nat), .bool false] 67)).alloc (.cells #[.slice none 0 0, .int .i64 0, .bool false] 67)) #[.int .i64 0, .int .i64 0, .slice none 0 0] 24).alloc (.cells #[.int .i64 xk, .int .i64 xn, .string ⟨xt.toArray⟩] 87)).below hx; simpa using this
  have ot : Own w1 (w.heap.size + 1 + 1 + 1) [.int .i64 xk, .int .i64 xn, .string ⟨xt.toArray⟩] := by have := (Own.new (((w.alloc (.cells #[.slice (some a) L.length cap, .int .i64 (i : Nat), .bool false] 67)).alloc (.cells #[.slice none 0 0, .int .i64 0, .bool false] 67)).alloc (.cells #[.int .i64 0, .int .i64 0, .slice none 0 0] 24)) #[.int .i64 xk, .int .i64 xn, .string ⟨xt.toArray⟩] 87).below hx; simpa using this
  have hb : Below w.heap.size w w1 := (balloc (balloc (balloc (balloc (Below.refl _ _) _) _) _) _).trans (hx.mono (balloc (balloc (balloc (balloc (Below.refl _ _) _) _) _) _).size)
  clear hx hV
  have yw1 := hb.size
  have zw1 := r2.lt
  obtain ⟨op0, op1, op2, op3, op4, op5, op6⟩ := op.three
  obtain ⟨r10, r11, r12, r13, r14, r15, r16⟩ := r1.three
  obtain ⟨r20, r21, r22, r23, r24, r25, r26⟩ := r2.three
  obtain ⟨ot0, ot1, ot2, ot3, ot4, ot5, ot6⟩ := ot.three
  go_wp2_with fail
  clear op0 op1 op2 op3 op4 op5 op6
  clear r10 r11 r12 r13 r14 r15 r16
  clear r20 r21 r22 r23 r24 r25 r26
  clear ot0 ot1 ot2 ot3 ot4 ot5 ot6
  refine (hT _ hb).mono ?_
  rintro e w2 ⟨x2, j2, d2, tv2, rfl, T, hx, l2, m2, g2, k2⟩
  obtain ⟨ad2, cap2, rfl, -, -⟩ := T.shape
  have hk := (Kept.refl (some w.heap.size) _).later hx
  replace op := op.below hx
  replace r1 := hk.own r1 (by simp <;> omega)
  replace r2 := hk.own r2 (by simp <;> omega)
  replace ot := hk.own ot (by simp <;> omega)
  replace hb := hb.trans (hk.below (Nat.le_refl _) hb.size)
  skip
  clear hk
  have yw2 := hb.size
  have zw2 := r2.lt
  clear hx hT
  replace T := T.lo (b := w.heap.size + 1 + 1 + 1) (by omega)
  obtain ⟨r10, r11, r12, r13, r14, r15, r16⟩ := r1.three
  obtain ⟨r20, r21, r22, r23, r24, r25, r26⟩ := r2.three
  go_wp2_with fail
  clear r10 r11 r12 r13 r14 r15 r16
  clear r20 r21 r22 r23 r24 r25 r26
  refine bodyPost_ret (results_cc rfl rfl rfl (loadVar_at (vs := [.slice (some a) L.length cap, .int .i64 (j2 : Nat), .bool d2]) Tryz.underlying67 rfl (by kernel_rfl) ((r1.put3 _ _ _).off3 (by omega) _ _ _)) (loadVar_at (vs := [.int .i64 x2.o, .int .i64 x2.n, .slice ad2 x2.ks.length cap2]) Tryz.underlying24 rfl (by kernel_rfl) ((r2.off3 (by omega) _ _ _).put3 _ _ _))) rfl ?_
  exact ⟨x2, j2, d2, _, rfl, ((T.set3 (by show _ < _; omega) _ _ _).set3 (by show _ < _; omega) _ _ _).lo (by omega), bset3 (bset3 hb (by omega) _ _ _) (by omega) _ _ _, by omega, m2, fun h => .inr ⟨rfl, by rw [HDR.out]; exact g_aMinBad hk2.out hk3.out ht.out (g2 h)⟩, fun h => ⟨rfl, by obtain ⟨l, rfl, gg⟩ := k2 h; rw [HDR.out]; exact g_aMin hk2.out hk3.out ht.out gg⟩⟩
set_option maxHeartbeats 3200000 in
theorem ratom_max (hE : REnv W0 ad cap L) {n : Nat} (HX : ∀ m, m < n → MethR W0 ad cap L 28 .expr m) (i : Nat) (w : World) (hW : Below W0.heap.size W0 w) (hlt : i < L.length) (hn : L.length < i + n) (hk2 : (L[i]).k ≠ 2) (hk3 : (L[i]).k ≠ 3) (ht : (L[i]).t = wMax) : Calls Tryz.prog 72 #[pv ad cap L i false] w (XEnd ad cap L .atom i false w) := by
  obtain ⟨a, e0, d0, d1, d2, hab⟩ := hE.reads hW hlt
  subst e0
  have hdr := List.drop_eq_getElem_cons hlt
  have hnum := hE.nums _ (List.getElem_mem hlt)
  have hsh := hE.short
  have hd : decide ((L.length : Int) ≤ (i : Int)) = false := by simpa using hlt
  have hix : ¬ ((i : Int) < 0) := by omega
  have hw : IntKind.i64.wrap ((i : Int) + 1) = (i : Int) + 1 := IntWalk.i64_in _ (by omega)
  generalize L[i] = x at *
  obtain ⟨xk, xn, xt⟩ := x
  simp only at *
  have hV := fun w1 => rvariable_any xt w1
  have hv : varF xt = 0 := by rw [ht]; decide
  have hk2b : ((xk : Int) == 2) = false := by simpa using (by omega : ¬ (xk : Int) = 2)
  have hk3b : ((xk : Int) == 3) = false := by simpa using (by omega : ¬ (xk : Int) = 3)
  rw [hv] at hV
  have e1 : (xt == [109, 105, 110]) = false := by rw [ht]; rfl
  have e2 : (xt == [109, 97, 120]) = true := by rw [ht]; rfl
  have hT := fun w1 (h : Below w.heap.size w w1) => rtwo_any hE HX 9 i w1 (hW.trans (h.mono hW.size)) hlt hn
  have HDR := Lib.hid hdr
  replace hk2 := Lib.hid hk2
  replace hk3 := Lib.hid hk3
  replace ht := Lib.hid ht
  clear hE hW HX hnum hn hv hdr
  have hb3 : Below w.heap.size w (((w.alloc (.cells #[.slice (some a) L.length cap, .int .i64 (i : Nat), .bool false] 67)).alloc (.cells #[.slice none 0 0, .int .i64 0, .bool false] 67)).alloc (.cells #[.int .i64 0, .int .i64 0, .slice none 0 0] 24)) := balloc (balloc (balloc (Below.refl _ _) _) _) _
  have j0 := (hb3.cell (p := a.add (i * 3)) hab).trans d0
  have j1 := (hb3.cell (p := { block := (a.add (i * 3)).block, off := (a.add (i * 3)).off + 1 }) hab).trans d1
  have j2 := (hb3.cell (p := { block := (a.add (i * 3)).block, off := (a.add (i * 3)).off + 2 }) hab).trans d2
  clear hb3
  go_enter Tryz.func72, Tryz.ntmps72
  go_wp2_with fail
  refine (hV _).mono ?_
  rintro e w1 ⟨rfl, hx⟩
  have op : Own w1 w.heap.size [.slice (some a) L.length cap, .int .i64 (i : Nat), .bool false] := by have := ((((Own.new w #[.slice (some a) L.length cap, .int .i64 (i : Nat), .bool false] 67).alloc (.cells #[.slice none 0 0, .int .i64 0, .bool false] 67)).alloc (.cells #[.int .i64 0, .int .i64 0, .slice none 0 0] 24)).alloc (.cells #[.int .i64 xk, .int .i64 xn, .string ⟨xt.toArray⟩] 87)).below hx; simpa using this
  have r1 : Own w1 (w.heap.size + 1) [.slice none 0 0, .int .i64 0, .bool false] := by have := (((Own.new (w.alloc (.cells #[.slice (some a) L.length cap, .int .i64 (i : Nat), .bool false] 67)) #[.slice none 0 0, .int .i64 0, .bool false] 67).alloc (.cells #[.int .i64 0, .int .i64 0, .slice none 0 0] 24)).alloc (.cells #[.int .i64 xk, .int .i64 xn, .string ⟨xt.toArray⟩] 87)).below hx; simpa using this
  have r2 : Own w1 (w.heap.size + 1 + 1) [.int .i64 0, .int .i64 0, .slice none 0 0] := by have := ((Own.new ((w.alloc (.cells #[.slice (some a) L.length cap, .int .i64 (i : Nat), .bool false] 67)).alloc (.cells #[.slice none 0 0, .int .i64 0, .bool false] 67)) #[.int .i64 0, .int .i64 0, .slice none 0 0] 24).alloc (.cells #[.int .i64 xk, .int .i64 xn, .string ⟨xt.toArray⟩] 87)).below hx; simpa using this
  have ot : Own w1 (w.heap.size + 1 + 1 + 1) [.int .i64 xk, .int .i64 xn, .string ⟨xt.toArray⟩] := by have := (Own.new (((w.alloc (.cells #[.slice (some a) L.length cap, .int .i64 (i : Nat), .bool false] 67)).alloc (.cells #[.slice none 0 0, .int .i64 0, .bool false] 67)).alloc (.cells #[.int .i64 0, .int .i64 0, .slice none 0 0] 24)) #[.int .i64 xk, .int .i64 xn, .string ⟨xt.toArray⟩] 87).below hx; simpa using this
  have hb : Below w.heap.size w w1 := (balloc (balloc (balloc (balloc (Below.refl _ _) _) _) _) _).trans (hx.mono (balloc (balloc (balloc (balloc (Below.refl _ _) _) _) _) _).size)
  clear hx hV
  have yw1 := hb.size
  have zw1 := r2.lt
  obtain ⟨op0, op1, op2, op3, op4, op5, op6⟩ := op.three
  obtain ⟨r10, r11, r12, r13, r14, r15, r16⟩ := r1.three
  obtain ⟨r20, r21, r22, r23, r24, r25, r26⟩ := r2.three
  obtain ⟨ot0, ot1, ot2, ot3, ot4, ot5, ot6⟩ := ot.three
  go_wp2_with fail
  clear op0 op1 op2 op3 op4 op5 op6
  clear r10 r11 r12 r13 r14 r15 r16
  clear r20 r21 r22 r23 r24 r25 r26
  clear ot0 ot1 ot2 ot3 ot4 ot5 ot6
  refine (hT _ hb).mono ?_
  rintro e w2 ⟨x2, j2, d2, tv2, rfl, T, hx, l2, m2, g2, k2⟩
  obtain ⟨ad2, cap2, rfl, -, -⟩ := T.shape
  have hk := (Kept.refl (some w.heap.size) _).later hx
  replace op := op.below hx
  replace r1 := hk.own r1 (by simp <;> omega)
  replace r2 := hk.own r2 (by simp <;> omega)
  replace ot := hk.own ot (by simp <;> omega)
  replace hb := hb.trans (hk.below (Nat.le_refl _) hb.size)
  skip
  clear hk
  have yw2 := hb.size
  have zw2 := r2.lt
  clear hx hT
  replace T := T.lo (b := w.heap.size + 1 + 1 + 1) (by omega)
  obtain ⟨r10, r11, r12, r13, r14, r15, r16⟩ := r1.three
  obtain ⟨r20, r21, r22, r23, r24, r25, r26⟩ := r2.three
  go_wp2_with fail
  clear r10 r11 r12 r13 r14 r15 r16
  clear r20 r21 r22 r23 r24 r25 r26
  refine bodyPost_ret (results_cc rfl rfl rfl (loadVar_at (vs := [.slice (some a) L.length cap, .int .i64 (j2 : Nat), .bool d2]) Tryz.underlying67 rfl (by kernel_rfl) ((r1.put3 _ _ _).off3 (by omega) _ _ _)) (loadVar_at (vs := [.int .i64 x2.o, .int .i64 x2.n, .slice ad2 x2.ks.length cap2]) Tryz.underlying24 rfl (by kernel_rfl) ((r2.off3 (by omega) _ _ _).put3 _ _ _))) rfl ?_
  exact ⟨x2, j2, d2, _, rfl, ((T.set3 (by show _ < _; omega) _ _ _).set3 (by show _ < _; omega) _ _ _).lo (by omega), bset3 (bset3 hb (by omega) _ _ _) (by omega) _ _ _, by omega, m2, fun h => .inr ⟨rfl, by rw [HDR.out]; exact g_aMaxBad hk2.out hk3.out ht.out (g2 h)⟩, fun h => ⟨rfl, by obtain ⟨l, rfl, gg⟩ := k2 h; rw [HDR.out]; exact g_aMax hk2.out hk3.out ht.out gg⟩⟩
theorem drB' (w : World) {n : Nat} (h : n ≤ w.heap.size) : Below n w w.drew := (Below.refl w.heap.size w).drew.mono h
set_option maxHeartbeats 3200000 in
theorem ratom_open (hE : REnv W0 ad cap L) {n : Nat} (HX : ∀ m, m < n → MethR W0 ad cap L 28 .expr m) (i : Nat) (w : World) (hW : Below W0.heap.size W0 w) (hlt : i < L.length) (hn : L.length < i + n) (hk2 : (L[i]).k ≠ 2) (hk3 : (L[i]).k ≠ 3) (ht : (L[i]).t = wOpen) : Calls Tryz.prog 72 #[pv ad cap L i false] w (XEnd ad cap L .atom i false w) := by
  obtain ⟨a, e0, d0, d1, d2, hab⟩ := hE.reads hW hlt
  subst e0
  have hdr := List.drop_eq_getElem_cons hlt
  have hnum := hE.nums _ (List.getElem_mem hlt)
  have hsh := hE.short
  have hd : decide ((L.length : Int) ≤ (i : Int)) = false := by simpa using hlt
  have hix : ¬ ((i : Int) < 0) := by omega
  have hw : IntKind.i64.wrap ((i : Int) + 1) = (i : Int) + 1 := IntWalk.i64_in _ (by omega)
  generalize L[i] = x at *
  obtain ⟨xk, xn, xt⟩ := x
  simp only at *
  have hV := fun w1 => rvariable_any xt w1
  have hv : varF xt = 0 := by rw [ht]; decide
  have hk2b : ((xk : Int) == 2) = false := by simpa using (by omega : ¬ (xk : Int) = 2)
  have hk3b : ((xk : Int) == 3) = false := by simpa using (by omega : ¬ (xk : Int) = 3)
  rw [hv] at hV
  have f1 : (xt == [109, 105, 110]) = false := by rw [ht]; rfl
  have f2 : (xt == [109, 97, 120]) = false := by rw [ht]; rfl
  have f3 : (xt == [40]) = true := by rw [ht]; rfl
  have hM := fun t j c w1 (hj : j ≤ L.length) (h : Below w.heap.size w w1) => must_any hE t j hj c w1 (hW.trans (h.mono hW.size))
  have hX := fun j c w1 (hj : j ≤ L.length) (hij : i + 1 ≤ j) (h : Below w.heap.size w w1) => HX (n - 1) (by omega) j c w1 (hW.trans (h.mono hW.size)) hj (.inr (by omega))
  have sq0 : SQ L brI (i + 1) [.ex, .lit wShut] [] (i + 1) false := SQ.start hlt
  have HDR := Lib.hid hdr
  replace hk2 := Lib.hid hk2
  replace hk3 := Lib.hid hk3
  replace ht := Lib.hid ht
  clear hE hW HX hnum hn hv hdr
  have hb3 : Below w.heap.size w (((w.alloc (.cells #[.slice (some a) L.length cap, .int .i64 (i : Nat), .bool false] 67)).alloc (.cells #[.slice none 0 0, .int .i64 0, .bool false] 67)).alloc (.cells #[.int .i64 0, .int .i64 0, .slice none 0 0] 24)) := balloc (balloc (balloc (Below.refl _ _) _) _) _
  have j0 := (hb3.cell (p := a.add (i * 3)) hab).trans d0
  have j1 := (hb3.cell (p := { block := (a.add (i * 3)).block, off := (a.add (i * 3)).off + 1 }) hab).trans d1
  have j2 := (hb3.cell (p := { block := (a.add (i * 3)).block, off := (a.add (i * 3)).off + 2 }) hab).trans d2
  clear hb3
  go_enter Tryz.func72, Tryz.ntmps72
  go_wp2_with fail
  refine (hV _).mono ?_
  rintro e w1 ⟨rfl, hx⟩
  have op : Own w1 w.heap.size [.slice (some a) L.length cap, .int .i64 (i : Nat), .bool false] := by have := ((((Own.new w #[.slice (some a) L.length cap, .int .i64 (i : Nat), .bool false] 67).alloc (.cells #[.slice none 0 0, .int .i64 0, .bool false] 67)).alloc (.cells #[.int .i64 0, .int .i64 0, .slice none 0 0] 24)).alloc (.cells #[.int .i64 xk, .int .i64 xn, .string ⟨xt.toArray⟩] 87)).below hx; simpa using this
  have r1 : Own w1 (w.heap.size + 1) [.slice none 0 0, .int .i64 0, .bool false] := by have := (((Own.new (w.alloc (.cells #[.slice (some a) L.length cap, .int .i64 (i : Nat), .bool false] 67)) #[.slice none 0 0, .int .i64 0, .bool false] 67).alloc (.cells #[.int .i64 0, .int .i64 0, .slice none 0 0] 24)).alloc (.cells #[.int .i64 xk, .int .i64 xn, .string ⟨xt.toArray⟩] 87)).below hx; simpa using this
  have r2 : Own w1 (w.heap.size + 1 + 1) [.int .i64 0, .int .i64 0, .slice none 0 0] := by have := ((Own.new ((w.alloc (.cells #[.slice (some a) L.length cap, .int .i64 (i : Nat), .bool false] 67)).alloc (.cells #[.slice none 0 0, .int .i64 0, .bool false] 67)) #[.int .i64 0, .int .i64 0, .slice none 0 0] 24).alloc (.cells #[.int .i64 xk, .int .i64 xn, .string ⟨xt.toArray⟩] 87)).below hx; simpa using this
  have ot : Own w1 (w.heap.size + 1 + 1 + 1) [.int .i64 xk, .int .i64 xn, .string ⟨xt.toArray⟩] := by have := (Own.new (((w.alloc (.cells #[.slice (some a) L.length cap, .int .i64 (i : Nat), .bool false] 67)).alloc (.cells #[.slice none 0 0, .int .i64 0, .bool false] 67)).alloc (.cells #[.int .i64 0, .int .i64 0, .slice none 0 0] 24)) #[.int .i64 xk, .int .i64 xn, .string ⟨xt.toArray⟩] 87).below hx; simpa using this
  have hb : Below w.heap.size w w1 := (balloc (balloc (balloc (balloc (Below.refl _ _) _) _) _) _).trans (hx.mono (balloc (balloc (balloc (balloc (Below.refl _ _) _) _) _) _).size)
  clear hx hV
  have yw1 := hb.size
  have zw1 := r2.lt
  obtain ⟨op0, op1, op2, op3, op4, op5, op6⟩ := op.three
  obtain ⟨r10, r11, r12, r13, r14, r15, r16⟩ := r1.three
  obtain ⟨r20, r21, r22, r23, r24, r25, r26⟩ := r2.three
  obtain ⟨ot0, ot1, ot2, ot3, ot4, ot5, ot6⟩ := ot.three
  go_wp2_with fail
  clear op0 op1 op2 op3 op4 op5 op6
  clear r10 r11 r12 r13 r14 r15 r16
  clear r20 r21 r22 r23 r24 r25 r26
  clear ot0 ot1 ot2 ot3 ot4 ot5 ot6
  refine (hX (i + 1) false _ hlt (Nat.le_refl _) (hb.trans (((Kept.refl (some w.heap.size) _).set (b := ⟨w.heap.size, 1, none⟩) (.inl rfl) _).below (Nat.le_refl _) hb.size))).mono ?_
  rintro e w2 ⟨x2, j2, d2, tv2, rfl, t2, hx, l2, m2, g2, k2⟩
  obtain ⟨ad2, cap2, rfl, -, -⟩ := t2.shape
  have hk := ((Kept.refl (some w.heap.size) _).set (b := ⟨w.heap.size, 1, none⟩) (.inl rfl) _).later hx
  replace op := (op.setAt (i := 1) _ (by simp)).below hx
  replace r1 := hk.own r1 (by simp <;> omega)
  replace r2 := hk.own r2 (by simp <;> omega)
  replace ot := hk.own ot (by simp <;> omega)
  replace hb := hb.trans (hk.below (Nat.le_refl _) hb.size)
  skip
  clear hk
  have yw2 := hb.size
  have zw2 := r2.lt
  replace t2 := t2.lo (b := w.heap.size + 1 + 1 + 1) (by (try simp only [setCell_size, set3_size, alloc_size, drew_size]); omega)
  have sq1 := sq0.ex m2 l2 g2 k2
  clear sq0 hx g2 k2 hX
  obtain ⟨r10, r11, r12, r13, r14, r15, r16⟩ := r1.three
  obtain ⟨r20, r21, r22, r23, r24, r25, r26⟩ := r2.three
  go_wp2_with fail
  clear r10 r11 r12 r13 r14 r15 r16
  clear r20 r21 r22 r23 r24 r25 r26
  have oq : Own ((w2.alloc (.cells #[.slice (some a) L.length cap, .int .i64 (j2 : Nat), .bool d2] 67)).alloc (.cells #[.int .i64 x2.o, .int .i64 x2.n, .slice ad2 x2.ks.length cap2] 24)) w2.heap.size [.slice (some a) L.length cap, .int .i64 (j2 : Nat), .bool d2] := (Own.new w2 #[.slice (some a) L.length cap, .int .i64 (j2 : Nat), .bool d2] 67).alloc _
  have oe : Own ((w2.alloc (.cells #[.slice (some a) L.length cap, .int .i64 (j2 : Nat), .bool d2] 67)).alloc (.cells #[.int .i64 x2.o, .int .i64 x2.n, .slice ad2 x2.ks.length cap2] 24)) (w2.heap.size + 1) [.int .i64 x2.o, .int .i64 x2.n, .slice ad2 x2.ks.length cap2] := Own.at _ _ _ _ (by simp)
  obtain ⟨q0, q1, q2, q3, q4, q5, q6⟩ := oq.three
  obtain ⟨e0, e1, e2, e3, e4, e5, e6⟩ := oe.three
  go_region_with (first
    | (go_at_call 49
       refine (hM wShut j2 d2 _ m2 ((balloc (balloc hb _) _).trans (drB' _ (balloc (balloc hb _) _).size))).mono ?_
       rintro e w3 ⟨j3, d3, rfl, hx, l3, m3, g3, k3⟩
       have hz := hx.size
       try simp only [drew_size, alloc_size] at hz
       replace r1 := ((r1.alloc _).alloc _).drew'.below hx
       replace r2 := ((r2.alloc _).alloc _).drew'.below hx
       replace t2 := ((t2.alloc _).alloc _).drew.below hx
       replace oe := oe.drew'.below hx
       replace hb := ((balloc (balloc hb _) _).trans (drB' _ (balloc (balloc hb _) _).size)).trans (hx.mono ((balloc (balloc hb _) _).trans (drB' _ (balloc (balloc hb _) _).size)).size)
       have sq2 := sq1.lit m3 g3 k3
       clear hx sq1 g3 k3 oq q0 q1 q2 q3 q4 q5 q6 e0 e1 e2 e3 e4 e5 e6
       obtain ⟨e0, e1, e2, e3, e4, e5, e6⟩ := oe.three
       obtain ⟨a0, a1, a2, a3, a4, a5, a6⟩ := r1.three
       obtain ⟨b0, b1, b2, b3, b4, b5, b6⟩ := r2.three))
  all_goals (
    go_wp2_with fail
    have T := t2
    refine bodyPost_ret (results_cc rfl rfl rfl (loadVar_at (vs := [.slice (some a) L.length cap, .int .i64 (j3 : Nat), .bool d3]) Tryz.underlying67 rfl (by kernel_rfl) ((r1.put3 _ _ _).off3 (by omega) _ _ _)) (loadVar_at (vs := [.int .i64 x2.o, .int .i64 x2.n, .slice ad2 x2.ks.length cap2]) Tryz.underlying24 rfl (by kernel_rfl) ((r2.off3 (by omega) _ _ _).put3 _ _ _))) rfl ?_
    exact ⟨x2, j3, d3, _, rfl, ((T.set3 (by show _ < _; omega) _ _ _).set3 (by show _ < _; omega) _ _ _).lo (by omega), bset3 (bset3 hb (by omega) _ _ _) (by omega) _ _ _, by omega, m3, fun h => .inr ⟨rfl, by rw [HDR.out]; exact g_aOpen hk2.out hk3.out ht.out (sq2.bad h)⟩, fun h => ⟨rfl, by rw [HDR.out]; exact g_aOpen hk2.out hk3.out ht.out (sq2.done h)⟩⟩)
set_option maxHeartbeats 3200000 in
theorem ratom_no (hE : REnv W0 ad cap L) (i : Nat) (w : World) (hW : Below W0.heap.size W0 w) (hlt : i < L.length) (hk2 : (L[i]).k ≠ 2) (hk3 : (L[i]).k ≠ 3) (hv : varF (L[i]).t = 0) (h4 : (L[i]).t ≠ wMin) (h5 : (L[i]).t ≠ wMax) (h6 : (L[i]).t ≠ wOpen) : Calls Tryz.prog 72 #[pv ad cap L i false] w (XEnd ad cap L .atom i false w) := by
  obtain ⟨a, e0, d0, d1, d2, hab⟩ := hE.reads hW hlt
  subst e0
  have hdr := List.drop_eq_getElem_cons hlt
  have hnum := hE.nums _ (List.getElem_mem hlt)
  have hsh := hE.short
  have hd : decide ((L.length : Int) ≤ (i : Int)) = false := by simpa using hlt
  have hix : ¬ ((i : Int) < 0) := by omega
  have hw : IntKind.i64.wrap ((i : Int) + 1) = (i : Int) + 1 := IntWalk.i64_in _ (by omega)
  generalize L[i] = x at *
  obtain ⟨xk, xn, xt⟩ := x
  simp only at *
  have hV := fun w1 => rvariable_any xt w1
  have hk2b : ((xk : Int) == 2) = false := by simpa using (by omega : ¬ (xk : Int) = 2)
  have hk3b : ((xk : Int) == 3) = false := by simpa using (by omega : ¬ (xk : Int) = 3)
  rw [hv] at hV
  have f1 : (xt == [109, 105, 110]) = false := by simpa [wMin] using h4
  have f2 : (xt == [109, 97, 120]) = false := by simpa [wMax] using h5
  have f3 : (xt == [40]) = false := by simpa [wOpen] using h6
  have HG : Hid (G .atom (L.drop i) (.bad (L.drop i))) := Lib.hid (by rw [hdr]; exact g_aBad hk2 hk3 hv h4 h5 h6)
  clear hE hW hnum hv hdr hk2 hk3 h4 h5 h6
  have hb3 : Below w.heap.size w (((w.alloc (.cells #[.slice (some a) L.length cap, .int .i64 (i : Nat), .bool false] 67)).alloc (.cells #[.slice none 0 0, .int .i64 0, .bool false] 67)).alloc (.cells #[.int .i64 0, .int .i64 0, .slice none 0 0] 24)) := balloc (balloc (balloc (Below.refl _ _) _) _) _
  have j0 := (hb3.cell (p := a.add (i * 3)) hab).trans d0
  have j1 := (hb3.cell (p := { block := (a.add (i * 3)).block, off := (a.add (i * 3)).off + 1 }) hab).trans d1
  have j2 := (hb3.cell (p := { block := (a.add (i * 3)).block, off := (a.add (i * 3)).off + 2 }) hab).trans d2
  clear hb3
  go_enter Tryz.func72, Tryz.ntmps72
  go_wp2_with fail
  refine (hV _).mono ?_
  rintro e w1 ⟨rfl, hx⟩
  have op : Own w1 w.heap.size [.slice (some a) L.length cap, .int .i64 (i : Nat), .bool false] := by have := ((((Own.new w #[.slice (some a) L.length cap, .int .i64 (i : Nat), .bool false] 67).alloc (.cells #[.slice none 0 0, .int .i64 0, .bool false] 67)).alloc (.cells #[.int .i64 0, .int .i64 0, .slice none 0 0] 24)).alloc (.cells #[.int .i64 xk, .int .i64 xn, .string ⟨xt.toArray⟩] 87)).below hx; simpa using this
  have r1 : Own w1 (w.heap.size + 1) [.slice none 0 0, .int .i64 0, .bool false] := by have := (((Own.new (w.alloc (.cells #[.slice (some a) L.length cap, .int .i64 (i : Nat), .bool false] 67)) #[.slice none 0 0, .int .i64 0, .bool false] 67).alloc (.cells #[.int .i64 0, .int .i64 0, .slice none 0 0] 24)).alloc (.cells #[.int .i64 xk, .int .i64 xn, .string ⟨xt.toArray⟩] 87)).below hx; simpa using this
  have r2 : Own w1 (w.heap.size + 1 + 1) [.int .i64 0, .int .i64 0, .slice none 0 0] := by have := ((Own.new ((w.alloc (.cells #[.slice (some a) L.length cap, .int .i64 (i : Nat), .bool false] 67)).alloc (.cells #[.slice none 0 0, .int .i64 0, .bool false] 67)) #[.int .i64 0, .int .i64 0, .slice none 0 0] 24).alloc (.cells #[.int .i64 xk, .int .i64 xn, .string ⟨xt.toArray⟩] 87)).below hx; simpa using this
  have ot : Own w1 (w.heap.size + 1 + 1 + 1) [.int .i64 xk, .int .i64 xn, .string ⟨xt.toArray⟩] := by have := (Own.new (((w.alloc (.cells #[.slice (some a) L.length cap, .int .i64 (i : Nat), .bool false] 67)).alloc (.cells #[.slice none 0 0, .int .i64 0, .bool false] 67)).alloc (.cells #[.int .i64 0, .int .i64 0, .slice none 0 0] 24)) #[.int .i64 xk, .int .i64 xn, .string ⟨xt.toArray⟩] 87).below hx; simpa using this
  have hb : Below w.heap.size w w1 := (balloc (balloc (balloc (balloc (Below.refl _ _) _) _) _) _).trans (hx.mono (balloc (balloc (balloc (balloc (Below.refl _ _) _) _) _) _).size)
  clear hx hV
  have yw1 := hb.size
  have zw1 := r2.lt
  obtain ⟨op0, op1, op2, op3, op4, op5, op6⟩ := op.three
  obtain ⟨r10, r11, r12, r13, r14, r15, r16⟩ := r1.three
  obtain ⟨r20, r21, r22, r23, r24, r25, r26⟩ := r2.three
  obtain ⟨ot0, ot1, ot2, ot3, ot4, ot5, ot6⟩ := ot.three
  go_wp2_with fail
  refine bodyPost_ret (results_cc rfl rfl rfl (loadVar_at (vs := [.slice (some a) L.length cap, .int .i64 (i : Nat), .bool true]) Tryz.underlying67 rfl (by kernel_rfl) (((r1.setCell (p := ⟨w.heap.size, 2, none⟩) (by simp) _).put3 _ _ _).off3 (by omega) _ _ _)) (loadVar_at (vs := [.int .i64 0, .int .i64 0, .slice none 0 0]) Tryz.underlying24 rfl (by kernel_rfl) (((r2.setCell (p := ⟨w.heap.size, 2, none⟩) (by simp; try omega) _).off3 (by omega) _ _ _).put3 _ _ _))) rfl ?_
  exact ⟨leafE 0 0, i, true, _, rfl, tree_leaf _ _ 0 0 none 0, bset3 (bset3 (hb.setCell (p := ⟨w.heap.size, 2, none⟩) (Nat.le_refl _) _) (by omega) _ _ _) (by omega) _ _ _, Nat.le_refl _, by omega, fun _ => .inr ⟨rfl, HG.out⟩, fun h => (by cases h)⟩
/-- an atom -/
theorem ratom_any (hE : REnv W0 ad cap L) {n : Nat} (HX : ∀ m, m < n → MethR W0 ad cap L 28 .expr m) : MethR W0 ad cap L 72 .atom n := by
  intro i b w hW hi hn
  cases b with
  | true => exact ratom_bad i w hi
  | false =>
    have hn := hn.resolve_left (by simp)
    by_cases hlt : i < L.length
    · by_cases hk2 : (L[i]).k = 2
      · exact ratom_num hE i w hW hlt hk2
      by_cases hk3 : (L[i]).k = 3
      · exact ratom_mon hE i w hW hlt hk3
      by_cases hv : varF (L[i]).t = 0
      · by_cases h4 : (L[i]).t = wMin
        · exact ratom_min hE HX i w hW hlt hn hk2 hk3 h4
        by_cases h5 : (L[i]).t = wMax
        · exact ratom_max hE HX i w hW hlt hn hk2 hk3 h5
        by_cases h6 : (L[i]).t = wOpen
        · exact ratom_open hE HX i w hW hlt hn hk2 hk3 h6
        exact ratom_no hE i w hW hlt hk2 hk3 hv h4 h5 h6
      · exact ratom_var hE i w hW hlt hk2 hk3 hv
    · exact ratom_end i w hi hlt
end Go.Proofs.YthnlenbfknbmcaaGreatDoor
