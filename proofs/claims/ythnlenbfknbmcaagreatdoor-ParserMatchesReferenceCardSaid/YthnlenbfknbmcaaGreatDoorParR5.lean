/-
  The reference's parser: two expressions in brackets.
-/
import Derived.Test.YthnlenbfknbmcaaGreatDoorParR4
namespace Go.Proofs.YthnlenbfknbmcaaGreatDoor
open Go.RowKit Go.Shelf
set_option maxRecDepth 100000
set_option linter.unusedVariables false
set_option linter.unusedSimpArgs false
variable {W0 : World} {ad : Option Addr} {cap : Nat} {L : List Tok}

/-- two in brackets -/
def TwoEnd (ad : Option Addr) (cap : Nat) (L : List Tok) (o : Int) (i : Nat) (w : World) (e : Ending) (w' : World) : Prop :=
  ∃ x j d tv, e = .returned (.tuple #[pv ad cap L j d, tv]) ∧ Tree (Lo w.heap.size) w' x tv ∧ Below w.heap.size w w' ∧ i + 1 ≤ j ∧ j ≤ L.length ∧ (d = true → G (.seq twoI) (L.drop (i + 1)) (.bad (L.drop j))) ∧ (d = false → ∃ l, x = nodeE o l ∧ G (.seq twoI) (L.drop (i + 1)) (.ok l (L.drop j)))
set_option maxHeartbeats 3200000
theorem rtwo_any (hE : REnv W0 ad cap L) {n : Nat} (HX : ∀ m, m < n → MethR W0 ad cap L 28 .expr m) (o : Int) (i : Nat) (w : World) (hW : Below W0.heap.size W0 w) (hlt : i < L.length) (hn : L.length < i + n) : Calls Tryz.prog 96 #[pv ad cap L i false, .int .i64 o] w (TwoEnd ad cap L o i w) := by
  have hM := fun t j c w1 (hj : j ≤ L.length) (h : Below w.heap.size w w1) => must_any hE t j hj c w1 (hW.trans (h.mono hW.size))
  have hX := fun j c w1 (hj : j ≤ L.length) (hij : i + 1 ≤ j) (h : Below w.heap.size w w1) => HX (n - 1) (by omega) j c w1 (hW.trans (h.mono hW.size)) hj (.inr (by omega))
  have hsh := hE.short
  have hw : IntKind.i64.wrap ((i : Int) + 1) = (i : Int) + 1 := IntWalk.i64_in _ (by omega)
  have sq0 : SQ L twoI (i + 1) [.lit wOpen, .ex, .lit wComma, .ex, .lit wShut] [] (i + 1) false := SQ.start hlt
  clear hE hW HX hn
  go_enter Tryz.func96, Tryz.ntmps96
  go_wp2_with fail
  refine (hM wOpen (i + 1) false _ hlt (balloc (balloc (balloc (Below.refl _ _) _) _) _)).mono ?_
  rintro e w1 ⟨j1, d1, rfl, hx, l1, m1, g1, k1⟩
  have op : Own w1 w.heap.size [.slice ad L.length cap, .int .i64 ((i : Int) + 1), .bool false] := by have := (((Own.new w #[.slice ad L.length cap, .int .i64 ((i : Int) + 1), .bool false] 67).alloc (.cells #[.slice none 0 0, .int .i64 0, .bool false] 67)).alloc (.cells #[.int .i64 0, .int .i64 0, .slice none 0 0] 24)).below hx; simpa using this
  have r1 : Own w1 (w.heap.size + 1) [.slice none 0 0, .int .i64 0, .bool false] := by have := ((Own.new (w.alloc (.cells #[.slice ad L.length cap, .int .i64 ((i : Int) + 1), .bool false] 67)) #[.slice none 0 0, .int .i64 0, .bool false] 67).alloc (.cells #[.int .i64 0, .int .i64 0, .slice none 0 0] 24)).below hx; simpa using this
  have r2 : Own w1 (w.heap.size + 1 + 1) [.int .i64 0, .int .i64 0, .slice none 0 0] := by have := (Own.new ((w.alloc (.cells #[.slice ad L.length cap, .int .i64 ((i : Int) + 1), .bool false] 67)).alloc (.cells #[.slice none 0 0, .int .i64 0, .bool false] 67)) #[.int .i64 0, .int .i64 0, .slice none 0 0] 24).below hx; simpa using this
  have hb : Below w.heap.size w w1 := (balloc (balloc (balloc (Below.refl _ _) _) _) _).trans (hx.mono (balloc (balloc (balloc (Below.refl _ _) _) _) _).size)
  have yw1 := hb.size
  have zw1 := r2.lt
  have sq1 := sq0.lit m1 g1 k1
  clear sq0 hx g1 k1 hw
  obtain ⟨op0, op1, op2, op3, op4, op5, op6⟩ := op.three
  go_wp2_with fail
  clear op0 op1 op2 op3 op4 op5 op6
  refine (hX j1 d1 _ m1 l1 (hb.trans (((Kept.refl (some w.heap.size) _).put3 _ _ _).below (Nat.le_refl _) hb.size))).mono ?_
  rintro e w2 ⟨x2, j2, d2, tv2, rfl, t2, hx, l2, m2, g2, k2⟩
  obtain ⟨ad2, cap2, rfl, -, -⟩ := t2.shape
  have hk := ((Kept.refl (some w.heap.size) _).put3 _ _ _).later hx
  replace op := (op.put3 _ _ _).below hx
  replace r1 := hk.own r1 (by simp <;> omega)
  replace r2 := hk.own r2 (by simp <;> omega)
  replace hb := hb.trans (hk.below (Nat.le_refl _) hb.size)
  skip
  clear hk
  have yw2 := hb.size
  have zw2 := r2.lt
  replace t2 := t2.lo (b := w.heap.size + 3) (by (try simp only [setCell_size, set3_size, alloc_size, drew_size]); omega)
  have sq2 := sq1.ex m2 l2 g2 k2
  clear sq1 hx g2 k2
  obtain ⟨op0, op1, op2, op3, op4, op5, op6⟩ := op.three
  go_wp2_with fail
  clear op0 op1 op2 op3 op4 op5 op6
  refine (hM wComma j2 d2 _ m2 (hb.trans ((((Kept.refl (some w.heap.size) _).put3 _ _ _).alloc _).below (Nat.le_refl _) hb.size))).mono ?_
  rintro e w3 ⟨j3, d3, rfl, hx, l3, m3, g3, k3⟩
  have hk := (((Kept.refl (some w.heap.size) _).put3 _ _ _).alloc _).later hx
  replace op := ((op.put3 _ _ _).alloc _).below hx
  replace r1 := hk.own r1 (by simp <;> omega)
  replace r2 := hk.own r2 (by simp <;> omega)
  have c2 : Own w3 (w2.heap.size) [.int .i64 x2.o, .int .i64 x2.n, .slice ad2 x2.ks.length cap2] := (Own.at _ #[.int .i64 x2.o, .int .i64 x2.n, .slice ad2 x2.ks.length cap2] 24 _ (by first | rfl | simp only [setCell_size])).below hx
  replace t2 := t2.keep hk (by show w.heap.size < _; omega)
  replace hb := hb.trans (hk.below (Nat.le_refl _) hb.size)
  skip
  clear hk
  have yw3 := hb.size
  have zw3 := r2.lt
  have sq3 := sq2.lit m3 g3 k3
  clear sq2 hx g3 k3
  obtain ⟨op0, op1, op2, op3, op4, op5, op6⟩ := op.three
  go_wp2_with fail
  clear op0 op1 op2 op3 op4 op5 op6
  refine (hX j3 d3 _ m3 (by omega) (hb.trans (((Kept.refl (some w.heap.size) _).put3 _ _ _).below (Nat.le_refl _) hb.size))).mono ?_
  rintro e w4 ⟨x4, j4, d4, tv4, rfl, t4, hx, l4, m4, g4, k4⟩
  obtain ⟨ad4, cap4, rfl, -, -⟩ := t4.shape
  have hk := ((Kept.refl (some w.heap.size) _).put3 _ _ _).later hx
  replace op := (op.put3 _ _ _).below hx
  replace r1 := hk.own r1 (by simp <;> omega)
  replace r2 := hk.own r2 (by simp <;> omega)
  replace c2 := hk.own c2 (by simp <;> omega)
  replace t2 := t2.keep hk (by show w.heap.size < _; omega)
  replace hb := hb.trans (hk.below (Nat.le_refl _) hb.size)
  skip
  clear hk
  have yw4 := hb.size
  have zw4 := r2.lt
  replace t4 := t4.lo (b := w.heap.size + 3) (by (try simp only [setCell_size, set3_size, alloc_size, drew_size]); omega)
  have sq4 := sq3.ex m4 l4 g4 k4
  clear sq3 hx g4 k4
  obtain ⟨op0, op1, op2, op3, op4, op5, op6⟩ := op.three
  go_wp2_with fail
  clear op0 op1 op2 op3 op4 op5 op6
  refine (hM wShut j4 d4 _ m4 (hb.trans ((((Kept.refl (some w.heap.size) _).put3 _ _ _).alloc _).below (Nat.le_refl _) hb.size))).mono ?_
  rintro e w5 ⟨j5, d5, rfl, hx, l5, m5, g5, k5⟩
  have hk := (((Kept.refl (some w.heap.size) _).put3 _ _ _).alloc _).later hx
  replace op := ((op.put3 _ _ _).alloc _).below hx
  replace r1 := hk.own r1 (by simp <;> omega)
  replace r2 := hk.own r2 (by simp <;> omega)
  replace c2 := hk.own c2 (by simp <;> omega)
  have c4 : Own w5 (w4.heap.size) [.int .i64 x4.o, .int .i64 x4.n, .slice ad4 x4.ks.length cap4] := (Own.at _ #[.int .i64 x4.o, .int .i64 x4.n, .slice ad4 x4.ks.length cap4] 24 _ (by first | rfl | simp only [setCell_size])).below hx
  replace t2 := t2.keep hk (by show w.heap.size < _; omega)
  replace t4 := t4.keep hk (by show w.heap.size < _; omega)
  replace hb := hb.trans (hk.below (Nat.le_refl _) hb.size)
  skip
  clear hk
  have yw5 := hb.size
  have zw5 := r2.lt
  have sq5 := sq4.lit m5 g5 k5
  clear sq4 hx g5 k5 hM hX
  obtain ⟨op0, op1, op2, op3, op4, op5, op6⟩ := op.three
  obtain ⟨c20, c21, c22, c23, c24, c25, c26⟩ := c2.three
  obtain ⟨c40, c41, c42, c43, c44, c45, c46⟩ := c4.three
  go_wp2_with fail
  go_region_with (first
    | (go_at_call 74
       refine (rpair_any o x2 x4 _ _ _ _ _ (Lo (w.heap.size + 3)) (by intro u hu; show ¬ (u < _); revert hu; (try simp only [setCell_size, set3_size, alloc_size, drew_size]); omega) (t2.keep ((Kept.refl (some w.heap.size) _).put3 _ _ _).drew (by show w.heap.size < _; omega)) (t4.keep ((Kept.refl (some w.heap.size) _).put3 _ _ _).drew (by show w.heap.size < _; omega))).mono ?_
       rintro e w6 ⟨tv, rfl, T, hx⟩
       obtain ⟨adt, capt, rfl, -, -⟩ := T.shape
       clear op0 op1 op2 op3 op4 op5 op6
       clear c20 c21 c22 c23 c24 c25 c26
       clear c40 c41 c42 c43 c44 c45 c46
       have hk := ((Kept.refl (some w.heap.size) _).put3 _ _ _).drew.later hx
       replace op := (op.put3 _ _ _).drew'.below hx
       replace r1 := hk.own r1 (by simp <;> omega)
       replace r2 := hk.own r2 (by simp <;> omega)
       replace c2 := hk.own c2 (by simp <;> omega)
       replace c4 := hk.own c4 (by simp <;> omega)
       replace t2 := t2.keep hk (by show w.heap.size < _; omega)
       replace t4 := t4.keep hk (by show w.heap.size < _; omega)
       replace hb := hb.trans (hk.below (Nat.le_refl _) hb.size)
       skip
       clear hk
       have yw6 := hb.size
       have zw6 := r2.lt
       clear hx
       obtain ⟨op0, op1, op2, op3, op4, op5, op6⟩ := op.three
       obtain ⟨r10, r11, r12, r13, r14, r15, r16⟩ := r1.three
       obtain ⟨r20, r21, r22, r23, r24, r25, r26⟩ := r2.three
       obtain ⟨c20, c21, c22, c23, c24, c25, c26⟩ := c2.three
       obtain ⟨c40, c41, c42, c43, c44, c45, c46⟩ := c4.three))
  all_goals (
    go_wp2_with fail
    refine bodyPost_ret (results_cc rfl rfl rfl (loadVar_at (vs := [.slice ad L.length cap, .int .i64 (j5 : Nat), .bool d5]) Tryz.underlying67 rfl (by kernel_rfl) ((r1.put3 _ _ _).off3 (by omega) _ _ _)) (loadVar_at (vs := [.int .i64 (nodeE o [x2, x4]).o, .int .i64 (nodeE o [x2, x4]).n, .slice adt (nodeE o [x2, x4]).ks.length capt]) Tryz.underlying24 rfl (by kernel_rfl) ((r2.off3 (by omega) _ _ _).put3 _ _ _))) rfl ?_
    exact ⟨nodeE o [x2, x4], j5, d5, _, rfl, ((T.set3 (by show _ < _; omega) _ _ _).set3 (by show _ < _; omega) _ _ _).lo (by omega), bset3 (bset3 hb (by omega) _ _ _) (by omega) _ _ _, by omega, m5, fun h => sq5.bad h, fun h => ⟨_, rfl, sq5.done h⟩⟩)
end Go.Proofs.YthnlenbfknbmcaaGreatDoor
