/-
  The reference's parser: an atom.
-/
import Derived.Test.YthnlenbfknbmcaaGreatDoorParR5
import Derived.Test.YthnlenbfknbmcaaGreatDoorParR1
import Derived.Test.YthnlenbfknbmcaaGreatDoorQm
namespace Go.Proofs.YthnlenbfknbmcaaGreatDoor
open Go.RowKit Go.Shelf
set_option maxRecDepth 100000
set_option linter.unusedVariables false
set_option linter.unusedSimpArgs false
variable {W0 : World} {ad : Option Addr} {cap : Nat} {L : List Tok}
set_option maxHeartbeats 1600000 in
theorem ratom_bad (i : Nat) (w : World) (hi : i ≤ L.length)  : Calls Tryz.prog 72 #[pv ad cap L i true] w (XEnd ad cap L .atom i true w) := by
  have r1 : Own (((w.alloc (.cells #[.slice ad L.length cap, .int .i64 (i : Nat), .bool true] 67)).alloc (.cells #[.slice ad L.length cap, .int .i64 (i : Nat), .bool true] 67)).alloc (.cells #[.int .i64 0, .int .i64 0, .slice none 0 0] 24)) (w.heap.size + 1) [.slice ad L.length cap, .int .i64 (i : Nat), .bool true] := (Own.at (w.alloc (.cells #[.slice ad L.length cap, .int .i64 (i : Nat), .bool true] 67)) #[.slice ad L.length cap, .int .i64 (i : Nat), .bool true] 67 _ (by simp)).alloc _
  have r2 : Own (((w.alloc (.cells #[.slice ad L.length cap, .int .i64 (i : Nat), .bool true] 67)).alloc (.cells #[.slice ad L.length cap, .int .i64 (i : Nat), .bool true] 67)).alloc (.cells #[.int .i64 0, .int .i64 0, .slice none 0 0] 24)) (w.heap.size + 1 + 1) [.int .i64 0, .int .i64 0, .slice none 0 0] := Own.at _ _ _ _ (by simp)
  have hb : Below w.heap.size w (((w.alloc (.cells #[.slice ad L.length cap, .int .i64 (i : Nat), .bool true] 67)).alloc (.cells #[.slice ad L.length cap, .int .i64 (i : Nat), .bool true] 67)).alloc (.cells #[.int .i64 0, .int .i64 0, .slice none 0 0] 24)) := balloc (balloc (balloc (Below.refl _ _) _) _) _
  skip
  go_enter Tryz.func72, Tryz.ntmps72
  go_wp2_with fail
  refine bodyPost_ret (results_cc rfl rfl rfl (loadVar_at (vs := [.slice ad L.length cap, .int .i64 (i : Nat), .bool true]) Tryz.underlying67 rfl (by kernel_rfl) r1) (loadVar_at (vs := [.int .i64 0, .int .i64 0, .slice none 0 0]) Tryz.underlying24 rfl (by kernel_rfl) r2)) rfl ?_
  exact ⟨leafE 0 0, i, true, _, rfl, tree_leaf _ _ 0 0 none 0, hb, Nat.le_refl _, hi, fun _ => .inl ⟨rfl, rfl⟩, fun h => (by cases h)⟩
set_option maxHeartbeats 1600000 in
theorem ratom_end (i : Nat) (w : World) (hi : i ≤ L.length) (hl : ¬ i < L.length) : Calls Tryz.prog 72 #[pv ad cap L i false] w (XEnd ad cap L .atom i false w) := by
  have r1 : Own (((w.alloc (.cells #[.slice ad L.length cap, .int .i64 (i : Nat), .bool true] 67)).alloc (.cells #[.slice ad L.length cap, .int .i64 (i : Nat), .bool true] 67)).alloc (.cells #[.int .i64 0, .int .i64 0, .slice none 0 0] 24)) (w.heap.size + 1) [.slice ad L.length cap, .int .i64 (i : Nat), .bool true] := (Own.at (w.alloc (.cells #[.slice ad L.length cap, .int .i64 (i : Nat), .bool true] 67)) #[.slice ad L.length cap, .int .i64 (i : Nat), .bool true] 67 _ (by simp)).alloc _
  have r2 : Own (((w.alloc (.cells #[.slice ad L.length cap, .int .i64 (i : Nat), .bool true] 67)).alloc (.cells #[.slice ad L.length cap, .int .i64 (i : Nat), .bool true] 67)).alloc (.cells #[.int .i64 0, .int .i64 0, .slice none 0 0] 24)) (w.heap.size + 1 + 1) [.int .i64 0, .int .i64 0, .slice none 0 0] := Own.at _ _ _ _ (by simp)
  have hb : Below w.heap.size w (((w.alloc (.cells #[.slice ad L.length cap, .int .i64 (i : Nat), .bool true] 67)).alloc (.cells #[.slice ad L.length cap, .int .i64 (i : Nat), .bool true] 67)).alloc (.cells #[.int .i64 0, .int .i64 0, .slice none 0 0] 24)) := balloc (balloc (balloc (Below.refl _ _) _) _) _
  have hd : decide ((L.length : Int) ≤ (i : Int)) = true := by simpa using hl
  go_enter Tryz.func72, Tryz.ntmps72
  go_wp2_with fail
  refine bodyPost_ret (results_cc rfl rfl rfl (loadVar_at (vs := [.slice ad L.length cap, .int .i64 (i : Nat), .bool true]) Tryz.underlying67 rfl (by kernel_rfl) r1) (loadVar_at (vs := [.int .i64 0, .int .i64 0, .slice none 0 0]) Tryz.underlying24 rfl (by kernel_rfl) r2)) rfl ?_
  exact ⟨leafE 0 0, i, true, _, rfl, tree_leaf _ _ 0 0 none 0, hb, Nat.le_refl _, hi, fun _ => .inr ⟨rfl, by rw [List.drop_of_length_le (by omega)]; exact g_aEnd⟩, fun h => (by cases h)⟩
set_option maxHeartbeats 3200000 in
theorem ratom_num (hE : REnv W0 ad cap L) (i : Nat) (w : World) (hW : Below W0.heap.size W0 w) (hlt : i < L.length) (hk : (L[i]).k = 2) : Calls Tryz.prog 72 #[pv ad cap L i false] w (XEnd ad cap L .atom i false w) := by
  obtain ⟨a, e0, d0, d1, d2, hab⟩ := hE.reads hW hlt
  subst e0
  have hdr := List.drop_eq_getElem_cons hlt
  have hnum := hE.nums _ (List.getElem_mem hlt)
  have hsh := hE.short
  have hd : decide ((L.length : Int) ≤ (i : Int)) = false := by simpa using hlt
  have hix : ¬ ((i : Int) < 0) := by omega
  have hw : IntKind.i64.wrap ((i : Int) + 1) = (i : Int) + 1 := IntWalk.i64_in _ (by omega)
  generalize L[i] = x at *
  obtain ⟨xk, xn, xt⟩ := x
  simp only at *
  have hV := fun w1 => rvariable_any xt w1
  have hD := fun w1 => xdigits_any xt (hnum (.inl hk)) w1
  subst hk
  clear hE hW hnum
  have hb3 : Below w.heap.size w (((w.alloc (.cells #[.slice (some a) L.length cap, .int .i64 (i : Nat), .bool false] 67)).alloc (.cells #[.slice none 0 0, .int .i64 0, .bool false] 67)).alloc (.cells #[.int .i64 0, .int .i64 0, .slice none 0 0] 24)) := balloc (balloc (balloc (Below.refl _ _) _) _) _
  have j0 := (hb3.cell (p := a.add (i * 3)) hab).trans d0
  have j1 := (hb3.cell (p := { block := (a.add (i * 3)).block, off := (a.add (i * 3)).off + 1 }) hab).trans d1
  have j2 := (hb3.cell (p := { block := (a.add (i * 3)).block, off := (a.add (i * 3)).off + 2 }) hab).trans d2
  clear hb3
  go_enter Tryz.func72, Tryz.ntmps72
  go_wp2_with fail
  refine (hV _).mono ?_
  rintro e w1 ⟨rfl, hx⟩
  have op : Own w1 w.heap.size [.slice (some a) L.length cap, .int .i64 (i : Nat), .bool false] := by have := ((((Own.new w #[.slice (some a) L.length cap, .int .i64 (i : Nat), .bool false] 67).alloc (.cells #[.slice none 0 0, .int .i64 0, .bool false] 67)).alloc (.cells #[.int .i64 0, .int .i64 0, .slice none 0 0] 24)).alloc (.cells #[.int .i64 2, .int .i64 xn, .string ⟨xt.toArray⟩] 87)).below hx; simpa using this
  have r1 : Own w1 (w.heap.size + 1) [.slice none 0 0, .int .i64 0, .bool false] := by have := (((Own.new (w.alloc (.cells #[.slice (some a) L.length cap, .int .i64 (i : Nat), .bool false] 67)) #[.slice none 0 0, .int .i64 0, .bool false] 67).alloc (.cells #[.int .i64 0, .int .i64 0, .slice none 0 0] 24)).alloc (.cells #[.int .i64 2, .int .i64 xn, .string ⟨xt.toArray⟩] 87)).below hx; simpa using this
  have r2 : Own w1 (w.heap.size + 1 + 1) [.int .i64 0, .int .i64 0, .slice none 0 0] := by have := ((Own.new ((w.alloc (.cells #[.slice (some a) L.length cap, .int .i64 (i : Nat), .bool false] 67)).alloc (.cells #[.slice none 0 0, .int .i64 0, .bool false] 67)) #[.int .i64 0, .int .i64 0, .slice none 0 0] 24).alloc (.cells #[.int .i64 2, .int .i64 xn, .string ⟨xt.toArray⟩] 87)).below hx; simpa using this
  have ot : Own w1 (w.heap.size + 1 + 1 + 1) [.int .i64 2, .int .i64 xn, .string ⟨xt.toArray⟩] := by have := (Own.new (((w.alloc (.cells #[.slice (some a) L.length cap, .int .i64 (i : Nat), .bool false] 67)).alloc (.cells #[.slice none 0 0, .int .i64 0, .bool false] 67)).alloc (.cells #[.int .i64 0, .int .i64 0, .slice none 0 0] 24)) #[.int .i64 2, .int .i64 xn, .string ⟨xt.toArray⟩] 87).below hx; simpa using this
  have hb : Below w.heap.size w w1 := (balloc (balloc (balloc (balloc (Below.refl _ _) _) _) _) _).trans (hx.mono (balloc (balloc (balloc (balloc (Below.refl _ _) _) _) _) _).size)
  clear hx hV
  have yw1 := hb.size
  have zw1 := r2.lt
  obtain ⟨op0, op1, op2, op3, op4, op5, op6⟩ := op.three
  obtain ⟨r10, r11, r12, r13, r14, r15, r16⟩ := r1.three
  obtain ⟨r20, r21, r22, r23, r24, r25, r26⟩ := r2.three
  obtain ⟨ot0, ot1, ot2, ot3, ot4, ot5, ot6⟩ := ot.three
  go_wp2_with fail
  go_region_with (first | (go_at_call 95; refine (hD _).mono ?_; rintro e w9 ⟨rfl, rfl⟩))
  all_goals (
    go_wp2_with fail
    refine bodyPost_ret (results_cc rfl rfl rfl (loadVar_at (vs := [.slice (some a) L.length cap, .int .i64 ((i : Int) + 1), .bool false]) Tryz.underlying67 rfl (by kernel_rfl) (((r1.setCell (p := ⟨w.heap.size, 1, none⟩) (by simp) _).put3 _ _ _).off3 (by omega) _ _ _).drew') (loadVar_at (vs := [.int .i64 1, .int .i64 (cents xt : Nat), .slice none 0 0]) Tryz.underlying24 rfl (by kernel_rfl) (((r2.setCell (p := ⟨w.heap.size, 1, none⟩) (by simp; try omega) _).off3 (by omega) _ _ _).put3 _ _ _).drew')) rfl ?_
    exact ⟨leafE 1 (cents xt : Nat), i + 1, false, _, rfl, tree_leaf _ _ 1 _ none 0, (bset3 (bset3 (hb.setCell (p := ⟨w.heap.size, 1, none⟩) (Nat.le_refl _) _) (by omega) _ _ _) (by omega) _ _ _).drew, by omega, hlt, fun h => (by cases h), fun _ => ⟨rfl, by rw [hdr]; exact g_aNum rfl⟩⟩)
set_option maxHeartbeats 3200000 in
theorem ratom_mon (hE : REnv W0 ad cap L) (i : Nat) (w : World) (hW : Below W0.heap.size W0 w) (hlt : i < L.length) (hk : (L[i]).k = 3) : Calls Tryz.prog 72 #[pv ad cap L i false] w (XEnd ad cap L .atom i false w) := by
  obtain ⟨a, e0, d0, d1, d2, hab⟩ := hE.reads hW hlt
  subst e0
  have hdr := List.drop_eq_getElem_cons hlt
  have hnum := hE.nums _ (List.getElem_mem hlt)
  have hsh := hE.short
  have hd : decide ((L.length : Int) ≤ (i : Int)) = false := by simpa using hlt
  have hix : ¬ ((i : Int) < 0) := by omega
  have hw : IntKind.i64.wrap ((i : Int) + 1) = (i : Int) + 1 := IntWalk.i64_in _ (by omega)
  generalize L[i] = x at *
  obtain ⟨xk, xn, xt⟩ := x
  simp only at *
  have hV := fun w1 => rvariable_any xt w1
  have hD := fun w1 => xdigits_any xt (hnum (.inr hk)) w1
  subst hk
  clear hE hW hnum
  have hb3 : Below w.heap.size w (((w.alloc (.cells #[.slice (some a) L.length cap, .int .i64 (i : Nat), .bool false] 67)).alloc (.cells #[.slice none 0 0, .int .i64 0, .bool false] 67)).alloc (.cells #[.int .i64 0, .int .i64 0, .slice none 0 0] 24)) := balloc (balloc (balloc (Below.refl _ _) _) _) _
  have j0 := (hb3.cell (p := a.add (i * 3)) hab).trans d0
  have j1 := (hb3.cell (p := { block := (a.add (i * 3)).block, off := (a.add (i * 3)).off + 1 }) hab).trans d1
  have j2 := (hb3.cell (p := { block := (a.add (i * 3)).block, off := (a.add (i * 3)).off + 2 }) hab).trans d2
  clear hb3
  go_enter Tryz.func72, Tryz.ntmps72
  go_wp2_with fail
  refine (hV _).mono ?_
  rintro e w1 ⟨rfl, hx⟩
  have op : Own w1 w.heap.size [.slice (some a) L.length cap, .int .i64 (i : Nat), .bool false] := by have := ((((Own.new w #[.slice (some a) L.length cap, .int .i64 (i : Nat), .bool false] 67).alloc (.cells #[.slice none 0 0, .int .i64 0, .bool false] 67)).alloc (.cells #[.int .i64 0, .int .i64 0, .slice none 0 0] 24)).alloc (.cells #[.int .i64 3, .int .i64 xn, .string ⟨xt.toArray⟩] 87)).below hx; simpa using this
  have r1 : Own w1 (w.heap.size + 1) [.slice none 0 0, .int .i64 0, .bool false] := by have := (((Own.new (w.alloc (.cells #[.slice (some a) L.length cap, .int .i64 (i : Nat), .bool false] 67)) #[.slice none 0 0, .int .i64 0, .bool false] 67).alloc (.cells #[.int .i64 0, .int .i64 0, .slice none 0 0] 24)).alloc (.cells #[.int .i64 3, .int .i64 xn, .string ⟨xt.toArray⟩] 87)).below hx; simpa using this
  have r2 : Own w1 (w.heap.size + 1 + 1) [.int .i64 0, .int .i64 0, .slice none 0 0] := by have := ((Own.new ((w.alloc (.cells #[.slice (some a) L.length cap, .int .i64 (i : Nat), .bool false] 67)).alloc (.cells #[.slice none 0 0, .int .i64 0, .bool false] 67)) #[.int .i64 0, .int .i64 0, .slice none 0 0] 24).alloc (.cells #[.int .i64 3, .int .i64 xn, .string ⟨xt.toArray⟩] 87)).below hx; simpa using this
  have ot : Own w1 (w.heap.size + 1 + 1 + 1) [.int .i64 3, .int .i64 xn, .string ⟨xt.toArray⟩] := by have := (Own.new (((w.alloc (.cells #[.slice (some a) L.length cap, .int .i64 (i : Nat), .bool false] 67)).alloc (.cells #[.slice none 0 0, .int .i64 0, .bool false] 67)).alloc (.cells #[.int .i64 0, .int .i64 0, .slice none 0 0] 24)) #[.int .i64 3, .int .i64 xn, .string ⟨xt.toArray⟩] 87).below hx; simpa using this
  have hb : Below w.heap.size w w1 := (balloc (balloc (balloc (balloc (Below.refl _ _) _) _) _) _).trans (hx.mono (balloc (balloc (balloc (balloc (Below.refl _ _) _) _) _) _).size)
  clear hx hV
  have yw1 := hb.size
  have zw1 := r2.lt
  obtain ⟨op0, op1, op2, op3, op4, op5, op6⟩ := op.three
  obtain ⟨r10, r11, r12, r13, r14, r15, r16⟩ := r1.three
  obtain ⟨r20, r21, r22, r23, r24, r25, r26⟩ := r2.three
  obtain ⟨ot0, ot1, ot2, ot3, ot4, ot5, ot6⟩ := ot.three
  go_wp2_with fail
  go_region_with (first | (go_at_call 95; refine (hD _).mono ?_; rintro e w9 ⟨rfl, rfl⟩))
  all_goals (
    go_wp2_with fail
    refine bodyPost_ret (results_cc rfl rfl rfl (loadVar_at (vs := [.slice (some a) L.length cap, .int .i64 ((i : Int) + 1), .bool false]) Tryz.underlying67 rfl (by kernel_rfl) (((r1.setCell (p := ⟨w.heap.size, 1, none⟩) (by simp) _).put3 _ _ _).off3 (by omega) _ _ _).drew') (loadVar_at (vs := [.int .i64 2, .int .i64 (cents xt : Nat), .slice none 0 0]) Tryz.underlying24 rfl (by kernel_rfl) (((r2.setCell (p := ⟨w.heap.size, 1, none⟩) (by simp; try omega) _).off3 (by omega) _ _ _).put3 _ _ _).drew')) rfl ?_
    exact ⟨leafE 2 (cents xt : Nat), i + 1, false, _, rfl, tree_leaf _ _ 2 _ none 0, (bset3 (bset3 (hb.setCell (p := ⟨w.heap.size, 1, none⟩) (Nat.le_refl _) _) (by omega) _ _ _) (by omega) _ _ _).drew, by omega, hlt, fun h => (by cases h), fun _ => ⟨rfl, by rw [hdr]; exact g_aMon rfl⟩⟩)
set_option maxHeartbeats 3200000 in
theorem ratom_var (hE : REnv W0 ad cap L) (i : Nat) (w : World) (hW : Below W0.heap.size W0 w) (hlt : i < L.length) (hk2 : (L[i]).k ≠ 2) (hk3 : (L[i]).k ≠ 3) (hv : varF (L[i]).t ≠ 0) : Calls Tryz.prog 72 #[pv ad cap L i false] w (XEnd ad cap L .atom i false w) := by
  obtain ⟨a, e0, d0, d1, d2, hab⟩ := hE.reads hW hlt
  subst e0
  have hdr := List.drop_eq_getElem_cons hlt
  have hnum := hE.nums _ (List.getElem_mem hlt)
  have hsh := hE.short
  have hd : decide ((L.length : Int) ≤ (i : Int)) = false := by simpa using hlt
  have hix : ¬ ((i : Int) < 0) := by omega
  have hw : IntKind.i64.wrap ((i : Int) + 1) = (i : Int) + 1 := IntWalk.i64_in _ (by omega)
  generalize L[i] = x at *
  obtain ⟨xk, xn, xt⟩ := x
  simp only at *
  have hV := fun w1 => rvariable_any xt w1
  have hk2b : ((xk : Int) == 2) = false := by simpa using (by omega : ¬ (xk : Int) = 2)
  have hk3b : ((xk : Int) == 3) = false := by simpa using (by omega : ¬ (xk : Int) = 3)
  have HG : Hid (G .atom (⟨xk, xn, xt⟩ :: L.drop (i + 1)) (.ok [leafE 3 (varF xt)] (L.drop (i + 1)))) := Lib.hid (g_aVar hk2 hk3 hv)
  generalize varF xt = v at *
  have hv0 : 0 < v := by omega
  have hvb : decide (0 < (v : Int)) = true := by simp; omega
  clear hk2 hk3 hv
  clear hE hW hnum
  have hb3 : Below w.heap.size w (((w.alloc (.cells #[.slice (some a) L.length cap, .int .i64 (i : Nat), .bool false] 67)).alloc (.cells #[.slice none 0 0, .int .i64 0, .bool false] 67)).alloc (.cells #[.int .i64 0, .int .i64 0, .slice none 0 0] 24)) := balloc (balloc (balloc (Below.refl _ _) _) _) _
  have j0 := (hb3.cell (p := a.add (i * 3)) hab).trans d0
  have j1 := (hb3.cell (p := { block := (a.add (i * 3)).block, off := (a.add (i * 3)).off + 1 }) hab).trans d1
  have j2 := (hb3.cell (p := { block := (a.add (i * 3)).block, off := (a.add (i * 3)).off + 2 }) hab).trans d2
  clear hb3
  go_enter Tryz.func72, Tryz.ntmps72
  go_wp2_with fail
  refine (hV _).mono ?_
  rintro e w1 ⟨rfl, hx⟩
  have op : Own w1 w.heap.size [.slice (some a) L.length cap, .int .i64 (i : Nat), .bool false] := by have := ((((Own.new w #[.slice (some a) L.length cap, .int .i64 (i : Nat), .bool false] 67).alloc (.cells #[.slice none 0 0, .int .i64 0, .bool false] 67)).alloc (.cells #[.int .i64 0, .int .i64 0, .slice none 0 0] 24)).alloc (.cells #[.int .i64 xk, .int .i64 xn, .string ⟨xt.toArray⟩] 87)).below hx; simpa using this
  have r1 : Own w1 (w.heap.size + 1) [.slice none 0 0, .int .i64 0, .bool false] := by have := (((Own.new (w.alloc (.cells #[.slice (some a) L.length cap, .int .i64 (i : Nat), .bool false] 67)) #[.slice none 0 0, .int .i64 0, .bool false] 67).alloc (.cells #[.int .i64 0, .int .i64 0, .slice none 0 0] 24)).alloc (.cells #[.int .i64 xk, .int .i64 xn, .string ⟨xt.toArray⟩] 87)).below hx; simpa using this
  have r2 : Own w1 (w.heap.size + 1 + 1) [.int .i64 0, .int .i64 0, .slice none 0 0] := by have := ((Own.new ((w.alloc (.cells #[.slice (some a) L.length cap, .int .i64 (i : Nat), .bool false] 67)).alloc (.cells #[.slice none 0 0, .int .i64 0, .bool false] 67)) #[.int .i64 0, .int .i64 0, .slice none 0 0] 24).alloc (.cells #[.int .i64 xk, .int .i64 xn, .string ⟨xt.toArray⟩] 87)).below hx; simpa using this
  have ot : Own w1 (w.heap.size + 1 + 1 + 1) [.int .i64 xk, .int .i64 xn, .string ⟨xt.toArray⟩] := by have := (Own.new (((w.alloc (.cells #[.slice (some a) L.length cap, .int .i64 (i : Nat), .bool false] 67)).alloc (.cells #[.slice none 0 0, .int .i64 0, .bool false] 67)).alloc (.cells #[.int .i64 0, .int .i64 0, .slice none 0 0] 24)) #[.int .i64 xk, .int .i64 xn, .string ⟨xt.toArray⟩] 87).below hx; simpa using this
  have hb : Below w.heap.size w w1 := (balloc (balloc (balloc (balloc (Below.refl _ _) _) _) _) _).trans (hx.mono (balloc (balloc (balloc (balloc (Below.refl _ _) _) _) _) _).size)
  clear hx hV
  have yw1 := hb.size
  have zw1 := r2.lt
  obtain ⟨op0, op1, op2, op3, op4, op5, op6⟩ := op.three
  obtain ⟨r10, r11, r12, r13, r14, r15, r16⟩ := r1.three
  obtain ⟨r20, r21, r22, r23, r24, r25, r26⟩ := r2.three
  obtain ⟨ot0, ot1, ot2, ot3, ot4, ot5, ot6⟩ := ot.three
  go_wp2_with fail
  refine bodyPost_ret (results_cc rfl rfl rfl (loadVar_at (vs := [.slice (some a) L.length cap, .int .i64 ((i : Int) + 1), .bool false]) Tryz.underlying67 rfl (by kernel_rfl) (((r1.setCell (p := ⟨w.heap.size, 1, none⟩) (by simp) _).put3 _ _ _).off3 (by omega) _ _ _)) (loadVar_at (vs := [.int .i64 3, .int .i64 (v : Nat), .slice none 0 0]) Tryz.underlying24 rfl (by kernel_rfl) (((r2.setCell (p := ⟨w.heap.size, 1, none⟩) (by simp; try omega) _).off3 (by omega) _ _ _).put3 _ _ _))) rfl ?_
  exact ⟨leafE 3 (v : Nat), i + 1, false, _, rfl, tree_leaf _ _ 3 _ none 0, (bset3 (bset3 (hb.setCell (p := ⟨w.heap.size, 1, none⟩) (Nat.le_refl _) _) (by omega) _ _ _) (by omega) _ _ _), by omega, hlt, fun h => (by cases h), fun _ => ⟨rfl, by rw [hdr]; exact HG.out⟩⟩
end Go.Proofs.YthnlenbfknbmcaaGreatDoor
