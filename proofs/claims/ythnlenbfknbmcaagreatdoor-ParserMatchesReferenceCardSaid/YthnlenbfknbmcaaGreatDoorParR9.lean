/-
  The reference's parser: an expression.
-/
import Derived.Test.YthnlenbfknbmcaaGreatDoorParR8
namespace Go.Proofs.YthnlenbfknbmcaaGreatDoor
open Go.RowKit Go.Shelf
set_option maxRecDepth 100000
set_option linter.unusedVariables false
set_option linter.unusedSimpArgs false
variable {W0 : World} {ad : Option Addr} {cap : Nat} {L : List Tok}
set_option maxHeartbeats 1600000 in
theorem rexpr_any0 (hE : REnv W0 ad cap L) {n : Nat} (HA : MethL W0 ad cap L 1 n) (i : Nat) (b : Bool) (w : World) (hW : Below W0.heap.size W0 w) (hi : i ≤ L.length) (hn : b = true ∨ L.length < i + n) (hq : (!b && isT wIf (L.drop i)) = false) : Calls Tryz.prog 28 #[pv ad cap L i b] w (XEnd ad cap L .expr i b w) := by
  have hI := fun w1 (h : Below w.heap.size w w1) => ris_any hE wIf i b w1 (hW.trans (h.mono hW.size))
  rw [hq] at hI
  have hA : ∀ j c w1, j ≤ L.length → (c = true ∨ L.length < j + n) → Below w.heap.size w w1 → Calls Tryz.prog 48 #[pv ad cap L j c, .int .i64 1] w1 (XEnd ad cap L (.lvl 1) j c w1) := fun j c w1 hj hc h => HA j c w1 (hW.trans (h.mono hW.size)) hj hc
  have HN : b = false → isT wIf (L.drop i) = false := fun hb => by simpa [hb] using hq
  clear HA hE hW hq
  go_enter Tryz.func28, Tryz.ntmps28
  go_wp2_with fail
  refine (hI _ (balloc (balloc (balloc (Below.refl _ _) _) _) _)).mono ?_
  rintro e w1 ⟨rfl, hx⟩
  have op : Own w1 w.heap.size [.slice ad L.length cap, .int .i64 (i : Nat), .bool b] := by have := (((Own.new w #[.slice ad L.length cap, .int .i64 (i : Nat), .bool b] 67).alloc (.cells #[.slice none 0 0, .int .i64 0, .bool false] 67)).alloc (.cells #[.int .i64 0, .int .i64 0, .slice none 0 0] 24)).below hx; simpa using this
  have r1 : Own w1 (w.heap.size + 1) [.slice none 0 0, .int .i64 0, .bool false] := by have := ((Own.new (w.alloc (.cells #[.slice ad L.length cap, .int .i64 (i : Nat), .bool b] 67)) #[.slice none 0 0, .int .i64 0, .bool false] 67).alloc (.cells #[.int .i64 0, .int .i64 0, .slice none 0 0] 24)).below hx; simpa using this
  have r2 : Own w1 (w.heap.size + 1 + 1) [.int .i64 0, .int .i64 0, .slice none 0 0] := by have := (Own.new ((w.alloc (.cells #[.slice ad L.length cap, .int .i64 (i : Nat), .bool b] 67)).alloc (.cells #[.slice none 0 0, .int .i64 0, .bool false] 67)) #[.int .i64 0, .int .i64 0, .slice none 0 0] 24).below hx; simpa using this
  have hb : Below w.heap.size w w1 := (balloc (balloc (balloc (Below.refl _ _) _) _) _).trans (hx.mono (balloc (balloc (balloc (Below.refl _ _) _) _) _).size)
  have yw1 := hb.size
  have zw1 := r2.lt
  clear hx hI
  obtain ⟨op0, op1, op2, op3, op4, op5, op6⟩ := op.three
  go_wp2_with fail
  clear op0 op1 op2 op3 op4 op5 op6
  refine (hA i b _ hi hn (hb.trans ((Kept.refl (some w.heap.size) _).below (Nat.le_refl _) hb.size))).mono ?_
  rintro e w2 ⟨x1, j1, d1, tv1, rfl, T, hx, l1, m1, g1, k1⟩
  obtain ⟨ad1, cap1, rfl, -, -⟩ := T.shape
  have hk := (Kept.refl (some w.heap.size) _).later hx
  replace op := op.below hx
  replace r1 := hk.own r1 (by simp <;> omega)
  replace r2 := hk.own r2 (by simp <;> omega)
  replace hb := hb.trans (hk.below (Nat.le_refl _) hb.size)
  skip
  clear hk
  have yw2 := hb.size
  have zw2 := r2.lt
  replace T := T.lo (b := w.heap.size + 1 + 1 + 1) (by (try simp only [setCell_size, set3_size, alloc_size, drew_size]); omega)
  clear hx hA
  obtain ⟨r10, r11, r12, r13, r14, r15, r16⟩ := r1.three
  obtain ⟨r20, r21, r22, r23, r24, r25, r26⟩ := r2.three
  go_wp2_with fail
  clear r10 r11 r12 r13 r14 r15 r16
  clear r20 r21 r22 r23 r24 r25 r26
  refine bodyPost_ret (results_cc rfl rfl rfl (loadVar_at (vs := [.slice ad L.length cap, .int .i64 (j1 : Nat), .bool d1]) Tryz.underlying67 rfl (by kernel_rfl) ((r1.put3 _ _ _).off3 (by omega) _ _ _)) (loadVar_at (vs := [.int .i64 x1.o, .int .i64 x1.n, .slice ad1 x1.ks.length cap1]) Tryz.underlying24 rfl (by kernel_rfl) ((r2.off3 (by omega) _ _ _).put3 _ _ _))) rfl ?_
  exact ⟨x1, j1, d1, _, rfl, ((T.set3 (by show _ < _; omega) _ _ _).set3 (by show _ < _; omega) _ _ _).lo (by omega), bset3 (bset3 hb (by omega) _ _ _) (by omega) _ _ _, l1, m1, fun h => (g1 h).imp id fun ⟨p, q⟩ => ⟨p, g_any (HN p) q⟩, fun h => ⟨(k1 h).1, g_any (HN (k1 h).1) (k1 h).2⟩⟩
set_option maxHeartbeats 3200000 in
theorem rexpr_if (hE : REnv W0 ad cap L) {n : Nat} (HX : ∀ m, m < n → MethR W0 ad cap L 28 .expr m) (i : Nat) (w : World) (hW : Below W0.heap.size W0 w) (hn : L.length < i + n) (hq3 : isT wIf (L.drop i) = true) : Calls Tryz.prog 28 #[pv ad cap L i false] w (XEnd ad cap L .expr i false w) := by
  have hlt := isT_lt hq3
  have hI := ris_any hE wIf i false
  rw [hq3] at hI
  have hI := fun w1 (h : Below w.heap.size w w1) => hI w1 (hW.trans (h.mono hW.size))
  have hM := fun t j c w1 (hj : j ≤ L.length) (h : Below w.heap.size w w1) => must_any hE t j hj c w1 (hW.trans (h.mono hW.size))
  have hX := fun j c w1 (hj : j ≤ L.length) (hij : i + 1 ≤ j) (h : Below w.heap.size w w1) => HX (n - 1) (by omega) j c w1 (hW.trans (h.mono hW.size)) hj (.inr (by omega))
  obtain ⟨y, hy, hyt⟩ := need_cons hq3
  have hsh := hE.short
  have hw : IntKind.i64.wrap ((i : Int) + 1) = (i : Int) + 1 := IntWalk.i64_in _ (by omega)
  have sq0 : SQ L ifI (i + 1) [.ex, .lit wThen, .ex, .lit wElse, .ex] [] (i + 1) false := SQ.start hlt
  have HY := Lib.hid hy
  replace hyt := Lib.hid hyt
  clear hE hW HX hq3 hn hy
  simp only [Bool.not_false, Bool.true_and] at hI
  go_enter Tryz.func28, Tryz.ntmps28
  go_wp2_with fail
  refine (hI _ (balloc (balloc (balloc (Below.refl _ _) _) _) _)).mono ?_
  rintro e w1 ⟨rfl, hx⟩
  have op : Own w1 w.heap.size [.slice ad L.length cap, .int .i64 (i : Nat), .bool false] := by have := (((Own.new w #[.slice ad L.length cap, .int .i64 (i : Nat), .bool false] 67).alloc (.cells #[.slice none 0 0, .int .i64 0, .bool false] 67)).alloc (.cells #[.int .i64 0, .int .i64 0, .slice none 0 0] 24)).below hx; simpa using this
  have r1 : Own w1 (w.heap.size + 1) [.slice none 0 0, .int .i64 0, .bool false] := by have := ((Own.new (w.alloc (.cells #[.slice ad L.length cap, .int .i64 (i : Nat), .bool false] 67)) #[.slice none 0 0, .int .i64 0, .bool false] 67).alloc (.cells #[.int .i64 0, .int .i64 0, .slice none 0 0] 24)).below hx; simpa using this
  have r2 : Own w1 (w.heap.size + 1 + 1) [.int .i64 0, .int .i64 0, .slice none 0 0] := by have := (Own.new ((w.alloc (.cells #[.slice ad L.length cap, .int .i64 (i : Nat), .bool false] 67)).alloc (.cells #[.slice none 0 0, .int .i64 0, .bool false] 67)) #[.int .i64 0, .int .i64 0, .slice none 0 0] 24).below hx; simpa using this
  have hb : Below w.heap.size w w1 := (balloc (balloc (balloc (Below.refl _ _) _) _) _).trans (hx.mono (balloc (balloc (balloc (Below.refl _ _) _) _) _).size)
  have yw1 := hb.size
  have zw1 := r2.lt
  clear hx hI
  obtain ⟨op0, op1, op2, op3, op4, op5, op6⟩ := op.three
  go_wp2_with fail
  clear op0 op1 op2 op3 op4 op5 op6
  refine (hX (i + 1) false _ hlt (Nat.le_refl _) (hb.trans (((Kept.refl (some w.heap.size) _).set (b := ⟨w.heap.size, 1, none⟩) (.inl rfl) _).below (Nat.le_refl _) hb.size))).mono ?_
  rintro e w2 ⟨x1, j1, d1, tv1, rfl, t1, hx, l1, m1, g1, k1⟩
  obtain ⟨ad1, cap1, rfl, -, -⟩ := t1.shape
  have hk := ((Kept.refl (some w.heap.size) _).set (b := ⟨w.heap.size, 1, none⟩) (.inl rfl) _).later hx
  replace op := (op.setAt (i := 1) _ (by simp)).below hx
  replace r1 := hk.own r1 (by simp <;> omega)
  replace r2 := hk.own r2 (by simp <;> omega)
  replace hb := hb.trans (hk.below (Nat.le_refl _) hb.size)
  skip
  clear hk
  have yw2 := hb.size
  have zw2 := r2.lt
  replace t1 := t1.lo (b := w.heap.size + 1 + 1 + 1) (by (try simp only [setCell_size, set3_size, alloc_size, drew_size]); omega)
  have sq1 := sq0.ex m1 l1 g1 k1
  clear sq0 hx g1 k1
  obtain ⟨op0, op1, op2, op3, op4, op5, op6⟩ := op.three
  go_wp2_with fail
  clear op0 op1 op2 op3 op4 op5 op6
  refine (hM wThen j1 d1 _ m1 (hb.trans ((((Kept.refl (some w.heap.size) _).put3 _ _ _).alloc _).below (Nat.le_refl _) hb.size))).mono ?_
  rintro e w3 ⟨j2, d2, rfl, hx, l2, m2, g2, k2⟩
  have hk := (((Kept.refl (some w.heap.size) _).put3 _ _ _).alloc _).later hx
  replace op := ((op.put3 _ _ _).alloc _).below hx
  replace r1 := hk.own r1 (by simp <;> omega)
  replace r2 := hk.own r2 (by simp <;> omega)
  have c1 : Own w3 (w2.heap.size) [.int .i64 x1.o, .int .i64 x1.n, .slice ad1 x1.ks.length cap1] := (Own.at _ #[.int .i64 x1.o, .int .i64 x1.n, .slice ad1 x1.ks.length cap1] 24 _ (by first | rfl | simp only [setCell_size])).below hx
  replace t1 := t1.keep hk (by show w.heap.size < _; omega)
  replace hb := hb.trans (hk.below (Nat.le_refl _) hb.size)
  skip
  clear hk
  have yw3 := hb.size
  have zw3 := r2.lt
  have sq2 := sq1.lit m2 g2 k2
  clear sq1 hx g2 k2
  obtain ⟨op0, op1, op2, op3, op4, op5, op6⟩ := op.three
  go_wp2_with fail
  clear op0 op1 op2 op3 op4 op5 op6
  refine (hX j2 d2 _ m2 (by omega) (hb.trans (((Kept.refl (some w.heap.size) _).put3 _ _ _).below (Nat.le_refl _) hb.size))).mono ?_
  rintro e w4 ⟨x3, j3, d3, tv3, rfl, t3, hx, l3, m3, g3, k3⟩
  obtain ⟨ad3, cap3, rfl, -, -⟩ := t3.shape
  have hk := ((Kept.refl (some w.heap.size) _).put3 _ _ _).later hx
  replace op := (op.put3 _ _ _).below hx
  replace r1 := hk.own r1 (by simp <;> omega)
  replace r2 := hk.own r2 (by simp <;> omega)
  replace c1 := hk.own c1 (by simp <;> omega)
  replace t1 := t1.keep hk (by show w.heap.size < _; omega)
  replace hb := hb.trans (hk.below (Nat.le_refl _) hb.size)
  skip
  clear hk
  have yw4 := hb.size
  have zw4 := r2.lt
  replace t3 := t3.lo (b := w.heap.size + 1 + 1 + 1) (by (try simp only [setCell_size, set3_size, alloc_size, drew_size]); omega)
  have sq3 := sq2.ex m3 l3 g3 k3
  clear sq2 hx g3 k3
  obtain ⟨op0, op1, op2, op3, op4, op5, op6⟩ := op.three
  go_wp2_with fail
  clear op0 op1 op2 op3 op4 op5 op6
  refine (hM wElse j3 d3 _ m3 (hb.trans ((((Kept.refl (some w.heap.size) _).put3 _ _ _).alloc _).below (Nat.le_refl _) hb.size))).mono ?_
  rintro e w5 ⟨j4, d4, rfl, hx, l4, m4, g4, k4⟩
  have hk := (((Kept.refl (some w.heap.size) _).put3 _ _ _).alloc _).later hx
  replace op := ((op.put3 _ _ _).alloc _).below hx
  replace r1 := hk.own r1 (by simp <;> omega)
  replace r2 := hk.own r2 (by simp <;> omega)
  replace c1 := hk.own c1 (by simp <;> omega)
  have c3 : Own w5 (w4.heap.size) [.int .i64 x3.o, .int .i64 x3.n, .slice ad3 x3.ks.length cap3] := (Own.at _ #[.int .i64 x3.o, .int .i64 x3.n, .slice ad3 x3.ks.length cap3] 24 _ (by first | rfl | simp only [setCell_size])).below hx
  replace t1 := t1.keep hk (by show w.heap.size < _; omega)
  replace t3 := t3.keep hk (by show w.heap.size < _; omega)
  replace hb := hb.trans (hk.below (Nat.le_refl _) hb.size)
  skip
  clear hk
  have yw5 := hb.size
  have zw5 := r2.lt
  have sq4 := sq3.lit m4 g4 k4
  clear sq3 hx g4 k4
  obtain ⟨op0, op1, op2, op3, op4, op5, op6⟩ := op.three
  go_wp2_with fail
  clear op0 op1 op2 op3 op4 op5 op6
  refine (hX j4 d4 _ m4 (by omega) (hb.trans (((Kept.refl (some w.heap.size) _).put3 _ _ _).below (Nat.le_refl _) hb.size))).mono ?_
  rintro e w6 ⟨x5, j5, d5, tv5, rfl, t5, hx, l5, m5, g5, k5⟩
  obtain ⟨ad5, cap5, rfl, -, -⟩ := t5.shape
  have hk := ((Kept.refl (some w.heap.size) _).put3 _ _ _).later hx
  replace op := (op.put3 _ _ _).below hx
  replace r1 := hk.own r1 (by simp <;> omega)
  replace r2 := hk.own r2 (by simp <;> omega)
  replace c1 := hk.own c1 (by simp <;> omega)
  replace c3 := hk.own c3 (by simp <;> omega)
  replace t1 := t1.keep hk (by show w.heap.size < _; omega)
  replace t3 := t3.keep hk (by show w.heap.size < _; omega)
  replace hb := hb.trans (hk.below (Nat.le_refl _) hb.size)
  skip
  clear hk
  have yw6 := hb.size
  have zw6 := r2.lt
  replace t5 := t5.lo (b := w.heap.size + 1 + 1 + 1) (by (try simp only [setCell_size, set3_size, alloc_size, drew_size]); omega)
  have sq5 := sq4.ex m5 l5 g5 k5
  clear sq4 hx g5 k5 hX hM
  obtain ⟨op0, op1, op2, op3, op4, op5, op6⟩ := op.three
  obtain ⟨c10, c11, c12, c13, c14, c15, c16⟩ := c1.three
  obtain ⟨c30, c31, c32, c33, c34, c35, c36⟩ := c3.three
  obtain ⟨r10, r11, r12, r13, r14, r15, r16⟩ := r1.three
  obtain ⟨r20, r21, r22, r23, r24, r25, r26⟩ := r2.three
  go_wp2_with fail
  clear op0 op1 op2 op3 op4 op5 op6
  clear c10 c11 c12 c13 c14 c15 c16
  clear c30 c31 c32 c33 c34 c35 c36
  clear r10 r11 r12 r13 r14 r15 r16
  clear r20 r21 r22 r23 r24 r25 r26
  have hk := ((Kept.refl (some w.heap.size) w6).put3 (.slice ad L.length cap) (.int .i64 (j5 : Nat)) (.bool d5)).alloc (.cells #[.int .i64 x5.o, .int .i64 x5.n, .slice ad5 x5.ks.length cap5] 24)
  replace op := (op.put3 (.slice ad L.length cap) (.int .i64 (j5 : Nat)) (.bool d5)).alloc (.cells #[.int .i64 x5.o, .int .i64 x5.n, .slice ad5 x5.ks.length cap5] 24)
  replace r1 := hk.own r1 (by simp <;> omega)
  replace r2 := hk.own r2 (by simp <;> omega)
  replace c1 := hk.own c1 (by simp <;> omega)
  replace c3 := hk.own c3 (by simp <;> omega)
  have c5 : Own ((set3 w6 w.heap.size (.slice ad L.length cap) (.int .i64 (j5 : Nat)) (.bool d5)).alloc (.cells #[.int .i64 x5.o, .int .i64 x5.n, .slice ad5 x5.ks.length cap5] 24)) w6.heap.size [.int .i64 x5.o, .int .i64 x5.n, .slice ad5 x5.ks.length cap5] := Own.at _ _ _ _ (by simp only [setCell_size, set3_size])
  replace t1 := t1.keep hk (by show w.heap.size < _; omega)
  replace t3 := t3.keep hk (by show w.heap.size < _; omega)
  replace t5 := t5.keep hk (by show w.heap.size < _; omega)
  replace hb := hb.trans (hk.below (Nat.le_refl _) hb.size)
  obtain ⟨w7, hw7⟩ : ∃ x, x = ((set3 w6 w.heap.size (.slice ad L.length cap) (.int .i64 (j5 : Nat)) (.bool d5)).alloc (.cells #[.int .i64 x5.o, .int .i64 x5.n, .slice ad5 x5.ks.length cap5] 24)) := ⟨_, rfl⟩
  have hz7 : w7.heap.size = w6.heap.size + 1 := by rw [hw7]; simp only [alloc_size, set3_size]
  rw [← hw7] at op r1 r2 c1 c3 c5 t1 t3 t5 hb
  try unfold set3 at hw7
  rw [← hw7]
  clear hw7 hk
  replace hz7 : w6.heap.size < w7.heap.size := by omega
  obtain ⟨op0, op1, op2, op3, op4, op5, op6⟩ := op.three
  obtain ⟨r10, r11, r12, r13, r14, r15, r16⟩ := r1.three
  obtain ⟨r20, r21, r22, r23, r24, r25, r26⟩ := r2.three
  obtain ⟨c10, c11, c12, c13, c14, c15, c16⟩ := c1.three
  obtain ⟨c30, c31, c32, c33, c34, c35, c36⟩ := c3.three
  obtain ⟨c50, c51, c52, c53, c54, c55, c56⟩ := c5.three
  go_wp2_with fail
  go_region
  all_goals (
    go_wp2_with fail
    have on : Own _ w7.heap.size [.int .i64 x1.o, .int .i64 x1.n, .slice ad1 x1.ks.length cap1, .int .i64 x3.o, .int .i64 x3.n, .slice ad3 x3.ks.length cap3, .int .i64 x5.o, .int .i64 x5.n, .slice ad5 x5.ks.length cap5] := (Own.at (set3 (set3 w7 (w.heap.size + 1) (.slice ad L.length cap) (.int .i64 (j5 : Nat)) (.bool d5)) (w.heap.size + 1 + 1) (.int .i64 10) (.int .i64 0) (.slice (some ⟨w7.heap.size, 0, none⟩) 3 3)) #[.int .i64 x1.o, .int .i64 x1.n, .slice ad1 x1.ks.length cap1, .int .i64 x3.o, .int .i64 x3.n, .slice ad3 x3.ks.length cap3, .int .i64 x5.o, .int .i64 x5.n, .slice ad5 x5.ks.length cap5] 24 _ (by simp only [set3_size])).drew'
    have T := tree_three (Q := Lo (w.heap.size + 1 + 1 + 1)) (o := 10) (by show ¬ (_ < _); omega) on ((((t1.set3 (B := w.heap.size + 1) (by show _ < _; omega) _ _ _).set3 (B := w.heap.size + 1 + 1) (by show _ < _; omega) _ _ _).alloc _).drew) ((((t3.set3 (B := w.heap.size + 1) (by show _ < _; omega) _ _ _).set3 (B := w.heap.size + 1 + 1) (by show _ < _; omega) _ _ _).alloc _).drew) ((((t5.set3 (B := w.heap.size + 1) (by show _ < _; omega) _ _ _).set3 (B := w.heap.size + 1 + 1) (by show _ < _; omega) _ _ _).alloc _).drew) 3
    refine bodyPost_ret (results_cc rfl rfl rfl (loadVar_at (vs := [.slice ad L.length cap, .int .i64 (j5 : Nat), .bool d5]) Tryz.underlying67 rfl (by kernel_rfl) ((((r1.put3 _ _ _).off3 (by omega) _ _ _)).alloc _).drew') (loadVar_at (vs := [.int .i64 10, .int .i64 0, .slice (some ⟨w7.heap.size, 0, none⟩) 3 3]) Tryz.underlying24 rfl (by kernel_rfl) ((((r2.off3 (by omega) _ _ _).put3 _ _ _)).alloc _).drew')) rfl ?_
    refine ⟨nodeE 10 [x1, x3, x5], j5, d5, _, rfl, T.lo (by omega), (balloc (bset3 (bset3 hb (by omega) _ _ _) (by omega) _ _ _) _).drew, by omega, m5, fun h => .inr ⟨rfl, ?_⟩, fun h => ⟨?_, ?_⟩⟩
    · rw [HY.out]; exact g_ifBad hyt.out (sq5.bad h)
    · rfl
    · rw [HY.out]; exact g_if hyt.out (sq5.done h))
theorem rlevels {n : Nat} (hE : REnv W0 ad cap L) (HX : ∀ m, m < n → MethR W0 ad cap L 28 .expr m) (HN : ∀ m, m < n → MethL W0 ad cap L 3 m) : MethL W0 ad cap L 1 n ∧ MethL W0 ad cap L 3 n := by
  have h6 := rlevel_atom (ratom_any hE HX)
  have h5 : MethL W0 ad cap L 5 n := fun i b w hW hi hn => rlevel_row hE 5 (by omega) (by omega) (by omega) h6 i b w hW hi hn
  have h4 : MethL W0 ad cap L 4 n := fun i b w hW hi hn => rlevel_row hE 4 (by omega) (by omega) (by omega) h5 i b w hW hi hn
  have h3 : MethL W0 ad cap L 3 n := fun i b w hW hi hn => by
    cases hq : (!b && isT wNot (L.drop i)) with
    | false => exact rlevel_three hE h4 i b w hW hi hn hq
    | true =>
      have hq2 : b = false ∧ isT wNot (L.drop i) = true := by simpa using hq
      obtain ⟨rfl, hq3⟩ := hq2
      exact rlevel_not hE HN i w hW (hn.resolve_left (by simp)) hq3
  have h2 : MethL W0 ad cap L 2 n := fun i b w hW hi hn => rlevel_row hE 2 (by omega) (by omega) (by omega) h3 i b w hW hi hn
  exact ⟨fun i b w hW hi hn => rlevel_row hE 1 (by omega) (by omega) (by omega) h2 i b w hW hi hn, h3⟩
/-- an expression is read -/
theorem rexpr_all (hE : REnv W0 ad cap L) : ∀ n, (∀ m, m < n → MethR W0 ad cap L 28 .expr m) ∧ (∀ m, m < n → MethL W0 ad cap L 3 m) := by
  intro n
  induction n with
  | zero => exact ⟨fun m h => absurd h (Nat.not_lt_zero m), fun m h => absurd h (Nat.not_lt_zero m)⟩
  | succ n ih =>
    obtain ⟨hx, hn3⟩ := ih
    obtain ⟨h1, h3⟩ := rlevels hE hx hn3
    have he : MethR W0 ad cap L 28 .expr n := fun i b w hW hi hn => by
      cases hq : (!b && isT wIf (L.drop i)) with
      | false => exact rexpr_any0 hE h1 i b w hW hi hn hq
      | true =>
        have hq2 : b = false ∧ isT wIf (L.drop i) = true := by simpa using hq
        obtain ⟨rfl, hq3⟩ := hq2
        exact rexpr_if hE hx i w hW (hn.resolve_left (by simp)) hq3
    refine ⟨fun m h => ?_, fun m h => ?_⟩
    · rcases Nat.lt_or_eq_of_le (Nat.le_of_lt_succ h) with h | rfl
      · exact hx m h
      · exact he
    · rcases Nat.lt_or_eq_of_le (Nat.le_of_lt_succ h) with h | rfl
      · exact hn3 m h
      · exact h3
theorem rexpr_any (hE : REnv W0 ad cap L) (i : Nat) (b : Bool) (w : World) (hW : Below W0.heap.size W0 w) (hi : i ≤ L.length) : Calls Tryz.prog 28 #[pv ad cap L i b] w (XEnd ad cap L .expr i b w) := (rexpr_all hE (L.length + 2)).1 (L.length + 1) (by omega) i b w hW hi (.inr (by omega))
end Go.Proofs.YthnlenbfknbmcaaGreatDoor
