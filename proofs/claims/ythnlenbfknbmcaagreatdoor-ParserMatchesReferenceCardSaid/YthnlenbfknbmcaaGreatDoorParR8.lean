/-
  The reference's parser: an expression of a level.
-/
import Derived.Test.YthnlenbfknbmcaaGreatDoorParR7
namespace Go.Proofs.YthnlenbfknbmcaaGreatDoor
open Go.RowKit Go.Shelf
set_option maxRecDepth 100000
set_option linter.unusedVariables false
set_option linter.unusedSimpArgs false
variable {W0 : World} {ad : Option Addr} {cap : Nat} {L : List Tok}
set_option maxHeartbeats 1600000 in
theorem rlevel_atom {n : Nat} (HA : MethR W0 ad cap L 72 .atom n) : MethL W0 ad cap L 6 n := by
  intro i b w hW hi hn
  have hA := fun j c w1 (h : Below w.heap.size w w1) => HA j c w1 (hW.trans (h.mono hW.size))
  clear HA hW
  go_enter Tryz.func48, Tryz.ntmps48
  go_wp2_with fail
  refine (hA i b _ (balloc (balloc (balloc (Below.refl _ _) _) _) _) hi hn).mono ?_
  rintro e w1 ⟨x1, j1, d1, tv1, rfl, T, hx, l1, m1, g1, k1⟩
  obtain ⟨ad1, cap1, rfl, -, -⟩ := T.shape
  have op : Own w1 w.heap.size [.slice ad L.length cap, .int .i64 (i : Nat), .bool b] := by have := (((Own.new w #[.slice ad L.length cap, .int .i64 (i : Nat), .bool b] 67).alloc (.cells #[.slice none 0 0, .int .i64 0, .bool false] 67)).alloc (.cells #[.int .i64 0, .int .i64 0, .slice none 0 0] 24)).below hx; simpa using this
  have r1 : Own w1 (w.heap.size + 1) [.slice none 0 0, .int .i64 0, .bool false] := by have := ((Own.new (w.alloc (.cells #[.slice ad L.length cap, .int .i64 (i : Nat), .bool b] 67)) #[.slice none 0 0, .int .i64 0, .bool false] 67).alloc (.cells #[.int .i64 0, .int .i64 0, .slice none 0 0] 24)).below hx; simpa using this
  have r2 : Own w1 (w.heap.size + 1 + 1) [.int .i64 0, .int .i64 0, .slice none 0 0] := by have := (Own.new ((w.alloc (.cells #[.slice ad L.length cap, .int .i64 (i : Nat), .bool b] 67)).alloc (.cells #[.slice none 0 0, .int .i64 0, .bool false] 67)) #[.int .i64 0, .int .i64 0, .slice none 0 0] 24).below hx; simpa using this
  have hb : Below w.heap.size w w1 := (balloc (balloc (balloc (Below.refl _ _) _) _) _).trans (hx.mono (balloc (balloc (balloc (Below.refl _ _) _) _) _).size)
  have yw1 := hb.size
  have zw1 := r2.lt
  replace T := T.lo (b := w.heap.size + 1 + 1 + 1) (by (try simp only [setCell_size, set3_size, alloc_size, drew_size]); omega)
  clear hx hA
  obtain ⟨r10, r11, r12, r13, r14, r15, r16⟩ := r1.three
  obtain ⟨r20, r21, r22, r23, r24, r25, r26⟩ := r2.three
  go_wp2_with fail
  clear r10 r11 r12 r13 r14 r15 r16
  clear r20 r21 r22 r23 r24 r25 r26
  refine bodyPost_ret (results_cc rfl rfl rfl (loadVar_at (vs := [.slice ad L.length cap, .int .i64 (j1 : Nat), .bool d1]) Tryz.underlying67 rfl (by kernel_rfl) ((r1.put3 _ _ _).off3 (by omega) _ _ _)) (loadVar_at (vs := [.int .i64 x1.o, .int .i64 x1.n, .slice ad1 x1.ks.length cap1]) Tryz.underlying24 rfl (by kernel_rfl) ((r2.off3 (by omega) _ _ _).put3 _ _ _))) rfl ?_
  exact ⟨x1, j1, d1, _, rfl, ((T.set3 (by show _ < _; omega) _ _ _).set3 (by show _ < _; omega) _ _ _).lo (by omega), bset3 (bset3 hb (by omega) _ _ _) (by omega) _ _ _, l1, m1, fun h => (g1 h).imp id fun ⟨p, q⟩ => ⟨p, g_atom (by omega) q⟩, fun h => ⟨(k1 h).1, g_atom (by omega) (k1 h).2⟩⟩
set_option maxHeartbeats 1600000 in
theorem rlevel_not (hE : REnv W0 ad cap L) {n : Nat} (HN : ∀ m, m < n → MethL W0 ad cap L 3 m) (i : Nat) (w : World) (hW : Below W0.heap.size W0 w) (hn : L.length < i + n) (hq3 : isT wNot (L.drop i) = true) : Calls Tryz.prog 48 #[pv ad cap L i false, .int .i64 3] w (XEnd ad cap L (.lvl 3) i false w) := by
  have hlt := isT_lt hq3
  have hI := ris_any hE wNot i false
  rw [hq3] at hI
  have hI := fun w1 (h : Below w.heap.size w w1) => hI w1 (hW.trans (h.mono hW.size))
  have hX := fun j w1 (hj : j ≤ L.length) (hij : i + 1 ≤ j) (h : Below w.heap.size w w1) => HN (n - 1) (by omega) j false w1 (hW.trans (h.mono hW.size)) hj (.inr (by omega))
  obtain ⟨y, hy, hyt⟩ := need_cons hq3
  have hsh := hE.short
  have hw : IntKind.i64.wrap ((i : Int) + 1) = (i : Int) + 1 := IntWalk.i64_in _ (by omega)
  have HY := Lib.hid hy
  replace hyt := Lib.hid hyt
  clear hE hW HN hq3 hn hy
  simp only [Bool.not_false, Bool.true_and] at hI
  go_enter Tryz.func48, Tryz.ntmps48
  go_wp2_with fail
  refine (hI _ (balloc (balloc (balloc (Below.refl _ _) _) _) _)).mono ?_
  rintro e w1 ⟨rfl, hx⟩
  have op : Own w1 w.heap.size [.slice ad L.length cap, .int .i64 (i : Nat), .bool false] := by have := (((Own.new w #[.slice ad L.length cap, .int .i64 (i : Nat), .bool false] 67).alloc (.cells #[.slice none 0 0, .int .i64 0, .bool false] 67)).alloc (.cells #[.int .i64 0, .int .i64 0, .slice none 0 0] 24)).below hx; simpa using this
  have r1 : Own w1 (w.heap.size + 1) [.slice none 0 0, .int .i64 0, .bool false] := by have := ((Own.new (w.alloc (.cells #[.slice ad L.length cap, .int .i64 (i : Nat), .bool false] 67)) #[.slice none 0 0, .int .i64 0, .bool false] 67).alloc (.cells #[.int .i64 0, .int .i64 0, .slice none 0 0] 24)).below hx; simpa using this
  have r2 : Own w1 (w.heap.size + 1 + 1) [.int .i64 0, .int .i64 0, .slice none 0 0] := by have := (Own.new ((w.alloc (.cells #[.slice ad L.length cap, .int .i64 (i : Nat), .bool false] 67)).alloc (.cells #[.slice none 0 0, .int .i64 0, .bool false] 67)) #[.int .i64 0, .int .i64 0, .slice none 0 0] 24).below hx; simpa using this
  have hb : Below w.heap.size w w1 := (balloc (balloc (balloc (Below.refl _ _) _) _) _).trans (hx.mono (balloc (balloc (balloc (Below.refl _ _) _) _) _).size)
  have yw1 := hb.size
  have zw1 := r2.lt
  clear hx hI
  obtain ⟨op0, op1, op2, op3, op4, op5, op6⟩ := op.three
  go_wp2_with fail
  clear op0 op1 op2 op3 op4 op5 op6
  refine (hX (i + 1) _ hlt (Nat.le_refl _) (hb.trans (((Kept.refl (some w.heap.size) _).set (b := ⟨w.heap.size, 1, none⟩) (.inl rfl) _).below (Nat.le_refl _) hb.size))).mono ?_
  rintro e w2 ⟨x2, j2, d2, tv2, rfl, t2, hx, l2, m2, g2, k2⟩
  obtain ⟨ad2, cap2, rfl, -, -⟩ := t2.shape
  have hk := ((Kept.refl (some w.heap.size) _).set (b := ⟨w.heap.size, 1, none⟩) (.inl rfl) _).later hx
  replace op := (op.setAt (i := 1) _ (by simp)).below hx
  replace r1 := hk.own r1 (by simp <;> omega)
  replace r2 := hk.own r2 (by simp <;> omega)
  replace hb := hb.trans (hk.below (Nat.le_refl _) hb.size)
  skip
  clear hk
  have yw2 := hb.size
  have zw2 := r2.lt
  replace t2 := t2.lo (b := w.heap.size + 1 + 1 + 1) (by (try simp only [setCell_size, set3_size, alloc_size, drew_size]); omega)
  clear hx hX
  obtain ⟨op0, op1, op2, op3, op4, op5, op6⟩ := op.three
  obtain ⟨r10, r11, r12, r13, r14, r15, r16⟩ := r1.three
  obtain ⟨r20, r21, r22, r23, r24, r25, r26⟩ := r2.three
  go_wp2_with fail
  have oq : Own ((w2.alloc (.cells #[.slice ad L.length cap, .int .i64 (j2 : Nat), .bool d2] 67)).alloc (.cells #[.int .i64 x2.o, .int .i64 x2.n, .slice ad2 x2.ks.length cap2] 24)) w2.heap.size [.slice ad L.length cap, .int .i64 (j2 : Nat), .bool d2] := (Own.new w2 #[.slice ad L.length cap, .int .i64 (j2 : Nat), .bool d2] 67).alloc _
  have oe : Own ((w2.alloc (.cells #[.slice ad L.length cap, .int .i64 (j2 : Nat), .bool d2] 67)).alloc (.cells #[.int .i64 x2.o, .int .i64 x2.n, .slice ad2 x2.ks.length cap2] 24)) (w2.heap.size + 1) [.int .i64 x2.o, .int .i64 x2.n, .slice ad2 x2.ks.length cap2] := Own.at _ _ _ _ (by simp)
  obtain ⟨q0, q1, q2, q3, q4, q5, q6⟩ := oq.three
  obtain ⟨e0, e1, e2, e3, e4, e5, e6⟩ := oe.three
  go_region
  all_goals (
    go_wp2_with fail
    have on : Own _ (w2.heap.size + 1 + 1) [.int .i64 x2.o, .int .i64 x2.n, .slice ad2 x2.ks.length cap2] := (Own.at (((set3 (set3 w2 (w.heap.size + 1) (.slice ad L.length cap) (.int .i64 (j2 : Nat)) (.bool d2)) (w.heap.size + 1 + 1) (.int .i64 15) (.int .i64 0) (.slice (some ⟨w2.heap.size + 1 + 1, 0, none⟩) 1 1)).alloc (.cells #[.slice ad L.length cap, .int .i64 (j2 : Nat), .bool d2] 67)).alloc (.cells #[.int .i64 x2.o, .int .i64 x2.n, .slice ad2 x2.ks.length cap2] 24)) #[.int .i64 x2.o, .int .i64 x2.n, .slice ad2 x2.ks.length cap2] 24 _ (by simp [setCell_size])).drew'
    have T := tree_one (Q := Lo (w.heap.size + 1 + 1 + 1)) (o := 15) (by show ¬ (_ < _); omega) on (((((t2.set3 (B := w.heap.size + 1) (by show _ < _; omega) _ _ _).set3 (B := w.heap.size + 1 + 1) (by show _ < _; omega) _ _ _).alloc _).alloc _).alloc _).drew 1
    refine bodyPost_ret (results_cc rfl rfl rfl (loadVar_at (vs := [.slice ad L.length cap, .int .i64 (j2 : Nat), .bool d2]) Tryz.underlying67 rfl (by kernel_rfl) (((((r1.put3 _ _ _).off3 (by omega) _ _ _).alloc _).alloc _).alloc _).drew') (loadVar_at (vs := [.int .i64 15, .int .i64 0, .slice (some ⟨w2.heap.size + 1 + 1, 0, none⟩) 1 1]) Tryz.underlying24 rfl (by kernel_rfl) (((((r2.off3 (by omega) _ _ _).put3 _ _ _).alloc _).alloc _).alloc _).drew')) rfl ?_
    refine ⟨nodeE 15 [x2], j2, d2, _, rfl, T.lo (by omega), (balloc (balloc (balloc (bset3 (bset3 hb (by omega) _ _ _) (by omega) _ _ _) _) _) _).drew, by omega, m2, fun h => .inr ⟨rfl, ?_⟩, fun h => ⟨rfl, ?_⟩⟩
    · have := (g2 h).resolve_left (by simp)
      rw [HY.out]; exact g_notBad hyt.out this.2
    · rw [HY.out]; exact g_not hyt.out (k2 h).2)
def readI (P : Nat) (w : World) : Nat := match w.cell? ⟨P, 1, none⟩ with | some (.int _ n) => n.toNat | _ => 0
theorem readI_own {P j : Nat} {w : World} {a c : Value} (h : Own w P [a, .int .i64 (j : Nat), c]) : readI P w = j := by
  have := h.cell 1 _ rfl
  unfold readI
  rw [this]
  simp
/-- how far the row of a level is read -/
def LR (L : List Tok) (lv i : Nat) (b : Bool) (x : Xp) (j : Nat) (d : Bool) : Prop := (d = true → (b = true ∧ j = i) ∨ (b = false ∧ G (.lvl lv) (L.drop i) (.bad (L.drop j)))) ∧ (d = false → b = false ∧ ∀ a, G (.tail lv x) (L.drop j) a → G (.lvl lv) (L.drop i) a)
abbrev Qb (a c : Nat) : Nat → Prop := fun u => u < a ∨ u = c
theorem LR.end {lv i j : Nat} {b d : Bool} {x : Xp} (h : LR L lv i b x j d) (ho : d = true ∨ opL lv (L.drop j) = 0) : (d = true → (b = true ∧ j = i) ∨ (b = false ∧ G (.lvl lv) (L.drop i) (.bad (L.drop j)))) ∧ (d = false → b = false ∧ G (.lvl lv) (L.drop i) (.ok [x] (L.drop j))) :=
  ⟨h.1, fun hd => ⟨(h.2 hd).1, (h.2 hd).2 _ (g_end (ho.resolve_left (by simp [hd])))⟩⟩
theorem opl_cons {lv : Nat} {j : Nat} (h : opL lv (L.drop j) ≠ 0) : ∃ y, L.drop j = y :: L.drop (j + 1) ∧ j < L.length := by
  have hj : j < L.length := by
    rcases Nat.lt_or_ge j L.length with h2 | h2
    · exact h2
    · rw [List.drop_of_length_le h2] at h; exact absurd rfl h
  exact ⟨L[j], List.drop_eq_getElem_cons hj, hj⟩
theorem LR.more {lv i j j2 : Nat} {b d2 : Bool} {x x2 : Xp} (h : LR L lv i b x j false) (ho : opL lv (L.drop j) ≠ 0) (hl : lv ≠ 3) (h1 : d2 = true → G (.lvl (lv + 1)) (L.drop (j + 1)) (.bad (L.drop j2))) (h2 : d2 = false → G (.lvl (lv + 1)) (L.drop (j + 1)) (.ok [x2] (L.drop j2))) : LR L lv i b (nodeE (opL lv (L.drop j) : Nat) [x, x2]) j2 d2 := by
  obtain ⟨y, hy, -⟩ := opl_cons ho
  obtain ⟨hb, hp⟩ := h.2 rfl
  refine ⟨fun hd => .inr ⟨hb, hp _ ?_⟩, fun hd => ⟨hb, fun a ha => hp _ ?_⟩⟩
  · have := h1 hd
    rw [hy] at ho ⊢
    exact g_moreBad ho this
  · have := h2 hd
    rw [hy] at ho ha ⊢
    exact g_more ho hl this ha
theorem LR.one {i j j2 : Nat} {b d2 : Bool} {x x2 : Xp} (h : LR L 3 i b x j false) (ho : opL 3 (L.drop j) ≠ 0) (h1 : d2 = true → G (.lvl 4) (L.drop (j + 1)) (.bad (L.drop j2))) (h2 : d2 = false → G (.lvl 4) (L.drop (j + 1)) (.ok [x2] (L.drop j2))) : (d2 = true → (b = true ∧ j2 = i) ∨ (b = false ∧ G (.lvl 3) (L.drop i) (.bad (L.drop j2)))) ∧ (d2 = false → b = false ∧ G (.lvl 3) (L.drop i) (.ok [nodeE (opL 3 (L.drop j) : Nat) [x, x2]] (L.drop j2))) := by
  obtain ⟨y, hy, -⟩ := opl_cons ho
  obtain ⟨hb, hp⟩ := h.2 rfl
  refine ⟨fun hd => .inr ⟨hb, hp _ ?_⟩, fun hd => ⟨hb, hp _ ?_⟩⟩
  · have := h1 hd
    rw [hy] at ho ⊢
    exact g_moreBad ho this
  · have := h2 hd
    rw [hy] at ho ⊢
    exact g_one ho this
set_option maxHeartbeats 6400000 in
theorem rlevel_row (hE : REnv W0 ad cap L) {n : Nat} (lv : Nat) (h1 : 1 ≤ lv) (h5 : lv ≤ 5) (hl3 : lv ≠ 3) (HL : MethL W0 ad cap L (lv + 1) n) (i : Nat) (b : Bool) (w : World) (hW : Below W0.heap.size W0 w) (hi : i ≤ L.length) (hn : b = true ∨ L.length < i + n)  : Calls Tryz.prog 48 #[pv ad cap L i b, .int .i64 (lv : Nat)] w (XEnd ad cap L (.lvl lv) i b w) := by
  have hI := fun w1 (h : Below w.heap.size w w1) => ris_any hE wNot i b w1 (hW.trans (h.mono hW.size))
  generalize (!b && isT wNot (L.drop i)) = q at hI
  have hc1 : ((lv + 1 : Nat) : Int) = (lv : Int) + 1 := by omega
  have hL : ∀ j c w1, j ≤ L.length → (c = true ∨ L.length < j + n) → Below w.heap.size w w1 → Calls Tryz.prog 48 #[pv ad cap L j c, .int .i64 ((lv : Int) + 1)] w1 (XEnd ad cap L (.lvl (lv + 1)) j c w1) := fun j c w1 hj hc h => by have := HL j c w1 (hW.trans (h.mono hW.size)) hj hc; rw [hc1] at this; exact this
  have hwl : IntKind.i64.wrap ((lv : Int) + 1) = (lv : Int) + 1 := IntWalk.i64_in _ (by omega)
  have hl3b : ((lv : Int) == 3) = false := by simpa using (by omega : ¬ (lv : Int) = 3)
  have hl5 : ¬ 5 < lv := by omega
  have hl5b : decide ((5 : Int) < (lv : Int)) = false := by simp; omega
  have HN : b = false → lv = 3 → isT wNot (L.drop i) = false := fun _ h => absurd h hl3
  clear hc1
  have hsh := hE.short
  clear HL
  go_enter Tryz.func48, Tryz.ntmps48
  go_wp2_with fail
  refine (hI _ (balloc (balloc (balloc (Below.refl _ _) _) _) _)).mono ?_
  rintro e w1 ⟨rfl, hx⟩
  have op : Own w1 w.heap.size [.slice ad L.length cap, .int .i64 (i : Nat), .bool b] := by have := (((Own.new w #[.slice ad L.length cap, .int .i64 (i : Nat), .bool b] 67).alloc (.cells #[.slice none 0 0, .int .i64 0, .bool false] 67)).alloc (.cells #[.int .i64 0, .int .i64 0, .slice none 0 0] 24)).below hx; simpa using this
  have r1 : Own w1 (w.heap.size + 1) [.slice none 0 0, .int .i64 0, .bool false] := by have := ((Own.new (w.alloc (.cells #[.slice ad L.length cap, .int .i64 (i : Nat), .bool b] 67)) #[.slice none 0 0, .int .i64 0, .bool false] 67).alloc (.cells #[.int .i64 0, .int .i64 0, .slice none 0 0] 24)).below hx; simpa using this
  have r2 : Own w1 (w.heap.size + 1 + 1) [.int .i64 0, .int .i64 0, .slice none 0 0] := by have := (Own.new ((w.alloc (.cells #[.slice ad L.length cap, .int .i64 (i : Nat), .bool b] 67)).alloc (.cells #[.slice none 0 0, .int .i64 0, .bool false] 67)) #[.int .i64 0, .int .i64 0, .slice none 0 0] 24).below hx; simpa using this
  have hb : Below w.heap.size w w1 := (balloc (balloc (balloc (Below.refl _ _) _) _) _).trans (hx.mono (balloc (balloc (balloc (Below.refl _ _) _) _) _).size)
  have yw1 := hb.size
  have zw1 := r2.lt
  clear hx hI
  obtain ⟨op0, op1, op2, op3, op4, op5, op6⟩ := op.three
  go_wp2_with fail
  clear op0 op1 op2 op3 op4 op5 op6
  refine (hL i b _ hi hn (hb.trans ((Kept.refl (some w.heap.size) _).below (Nat.le_refl _) hb.size))).mono ?_
  rintro e w2 ⟨x1, j1, d1, tv1, rfl, t1, hx, l1, m1, g1, k1⟩
  obtain ⟨ad1, cap1, rfl, -, -⟩ := t1.shape
  have hk := (Kept.refl (some w.heap.size) _).later hx
  replace op := op.below hx
  replace r1 := hk.own r1 (by simp <;> omega)
  replace r2 := hk.own r2 (by simp <;> omega)
  replace hb := hb.trans (hk.below (Nat.le_refl _) hb.size)
  skip
  clear hk
  have yw2 := hb.size
  have zw2 := r2.lt
  replace t1 := t1.lo (b := w.heap.size + 1 + 1 + 1) (by (try simp only [setCell_size, set3_size, alloc_size, drew_size]); omega)
  have HS : LR L lv i b x1 j1 d1 := ⟨fun h => (g1 h).imp id fun ⟨p, q⟩ => ⟨p, g_lvlBad (by omega) (fun h3 => HN p h3) q⟩, fun h => ⟨(k1 h).1, fun a ha => g_lvl (by omega) (fun h3 => HN (k1 h).1 h3) (k1 h).2 ha⟩⟩
  clear hx g1 k1
  obtain ⟨op0, op1, op2, op3, op4, op5, op6⟩ := op.three
  go_wp2_with fail
  clear op0 op1 op2 op3 op4 op5 op6
  have hk := ((Kept.refl (some w.heap.size) w2).put3 (.slice ad L.length cap) (.int .i64 (j1 : Nat)) (.bool d1)).alloc (.cells #[.int .i64 x1.o, .int .i64 x1.n, .slice ad1 x1.ks.length cap1] 24)
  have oe : Own _ w2.heap.size [.int .i64 x1.o, .int .i64 x1.n, .slice ad1 x1.ks.length cap1] := Own.at (set3 w2 w.heap.size (.slice ad L.length cap) (.int .i64 (j1 : Nat)) (.bool d1)) #[.int .i64 x1.o, .int .i64 x1.n, .slice ad1 x1.ks.length cap1] 24 _ (by simp only [setCell_size])
  replace op := (op.put3 (.slice ad L.length cap) (.int .i64 (j1 : Nat)) (.bool d1)).alloc (.cells #[.int .i64 x1.o, .int .i64 x1.n, .slice ad1 x1.ks.length cap1] 24)
  replace r1 := hk.own r1 (by simp <;> omega)
  replace r2 := hk.own r2 (by simp <;> omega)
  replace t1 := (t1.bars (R := (Qb (w.heap.size + 1 + 1 + 1) w2.heap.size)) (by rintro u hu (h | h); exact h; exact absurd h (by omega))).keep hk (.inl (by omega))
  replace hb := hb.trans (hk.below (Nat.le_refl _) hb.size)
  have hz2 : w.heap.size + 1 + 1 < w2.heap.size := by omega
  clear hk
  go_loopw [10] (fun _ wr => ∃ x j d ad0 cap0, LR L lv i b x j d ∧ i ≤ j ∧ j ≤ L.length ∧ Own wr w.heap.size [.slice ad L.length cap, .int .i64 (j : Nat), .bool d] ∧ Own wr (w.heap.size + 1) [.slice none 0 0, .int .i64 0, .bool false] ∧ Own wr (w.heap.size + 1 + 1) [.int .i64 0, .int .i64 0, .slice none 0 0] ∧ Own wr w2.heap.size [.int .i64 x.o, .int .i64 x.n, .slice ad0 x.ks.length cap0] ∧ Tree (Qb (w.heap.size + 1 + 1 + 1) w2.heap.size) wr x (.agg #[.int .i64 x.o, .int .i64 x.n, .slice ad0 x.ks.length cap0]) ∧ Below w.heap.size w wr) (fun _ wr => L.length - readI w.heap.size wr)
  case atStart => exact ⟨x1, j1, d1, ad1, cap1, HS, l1, m1, op, r1, r2, oe, t1, hb⟩
  case round =>
    clear HS op r1 r2 oe t1 hb l1 m1 yw1 zw1 yw2 zw2
    obtain ⟨x1, j1, d1, ad1, cap1, HS, l1, m1, op, r1, r2, oe, t1, hb⟩ := hrel
    have hmz := readI_own op
    have ho6 := oe.lt
    have hW2 := hW.trans (hb.mono hW.size)
    have hop := rop_any hE lv (by omega) (by omega) j1 d1 wr hW2
    clear hW2
    by_cases ho : d1 = true ∨ opL lv (L.drop j1) = 0
    · have HE := LR.end HS ho
      have hv : (if d1 = true then 0 else opL lv (L.drop j1)) = 0 := by rcases ho with h | h <;> simp [h]
      rw [hv] at hop
      obtain ⟨HE1, HE2⟩ := HE
      replace HE1 := Lib.hid HE1
      replace HE2 := Lib.hid HE2
      clear HS ho hv hmz
      obtain ⟨op0, op1, op2, op3, op4, op5, op6⟩ := op.three
      go_wp2_with fail
      clear op0 op1 op2 op3 op4 op5 op6
      refine hop.mono ?_
      rintro e w3 ⟨rfl, hx⟩
      replace op := op.below hx
      replace r1 := r1.below hx
      replace r2 := r2.below hx
      replace oe := oe.below hx
      replace t1 := t1.below hx
      replace hb := hb.trans (hx.mono hb.size)
      have hz3 := hx.size
      clear hx hop
      obtain ⟨op0, op1, op2, op3, op4, op5, op6⟩ := op.three
      obtain ⟨r10, r11, r12, r13, r14, r15, r16⟩ := r1.three
      obtain ⟨r20, r21, r22, r23, r24, r25, r26⟩ := r2.three
      obtain ⟨oe0, oe1, oe2, oe3, oe4, oe5, oe6⟩ := oe.three
      go_wp2_with fail
      go_region
      all_goals (
        go_wp2_with fail
        refine bodyPost_ret (results_cc rfl rfl rfl (loadVar_at (vs := [.slice ad L.length cap, .int .i64 (j1 : Nat), .bool d1]) Tryz.underlying67 rfl (by kernel_rfl) ((r1.put3 _ _ _).off3 (by omega) _ _ _).drew') (loadVar_at (vs := [.int .i64 x1.o, .int .i64 x1.n, .slice ad1 x1.ks.length cap1]) Tryz.underlying24 rfl (by kernel_rfl) ((r2.off3 (by omega) _ _ _).put3 _ _ _).drew')) rfl ?_
        exact ⟨x1, j1, d1, _, rfl, (((t1.set3 (.inl (by omega)) _ _ _).set3 (.inl (by omega)) _ _ _).drew.bars fun u hu h => .inl (by have h : u < w.heap.size := h; omega)), (bset3 (bset3 hb (by omega) _ _ _) (by omega) _ _ _).drew, by omega, m1, HE1.out, HE2.out⟩)
    · obtain ⟨hd, ho2⟩ := not_or.1 ho
      obtain rfl : d1 = false := by simpa using hd
      rw [show (if false = true then 0 else opL lv (L.drop j1)) = opL lv (L.drop j1) from rfl] at hop
      obtain ⟨y, hy, hjl⟩ := opl_cons ho2
      have hbf := (HS.2 rfl).1
      have hnn := hn.resolve_left (by simp [hbf])
      clear hbf
      have hX := hL (j1 + 1) false
      have hw : IntKind.i64.wrap ((j1 : Int) + 1) = (j1 : Int) + 1 := IntWalk.i64_in _ (by omega)
      have HE := fun x2 j2 d2 => LR.more (j2 := j2) (x2 := x2) (d2 := d2) HS ho2 hl3
      generalize opL lv (L.drop j1) = oo at *
      have hob : ((oo : Int) == 0) = false := by simpa using (by omega : ¬ (oo : Int) = 0)
      have hoo : ¬ oo = 0 := ho2
      clear HS ho hy hd ho2
      obtain ⟨op0, op1, op2, op3, op4, op5, op6⟩ := op.three
      go_wp2_with fail
      clear op0 op1 op2 op3 op4 op5 op6
      refine hop.mono ?_
      rintro e w3 ⟨rfl, hx⟩
      replace op := op.below hx
      replace r1 := r1.below hx
      replace r2 := r2.below hx
      replace oe := oe.below hx
      replace t1 := t1.below hx
      replace hb := hb.trans (hx.mono hb.size)
      have hz3 := hx.size
      clear hx hop
      obtain ⟨op0, op1, op2, op3, op4, op5, op6⟩ := op.three
      go_wp2_with fail
      clear op0 op1 op2 op3 op4 op5 op6
      have hk1 := (Kept.refl (some w.heap.size) w3).set (b := ⟨w.heap.size, 1, none⟩) (.inl rfl) (.int .i64 ((j1 : Int) + 1))
      refine (hX _ hjl (.inr (by omega)) (hb.trans (hk1.below (Nat.le_refl _) hb.size))).mono ?_
      rintro e w4 ⟨x2, j2, d2, tv2, rfl, t2, hx, l2, m2, g2, k2⟩
      obtain ⟨ad2, cap2, rfl, -, -⟩ := t2.shape
      have hk := hk1.later hx
      replace op := (op.setAt (i := 1) (.int .i64 ((j1 : Int) + 1)) (by simp)).below hx
      replace r1 := hk.own r1 (by simp <;> omega)
      replace r2 := hk.own r2 (by simp <;> omega)
      replace oe := hk.own oe (by simp <;> omega)
      replace t1 := t1.keep hk (.inl (by omega))
      replace hb := hb.trans (hk.below (Nat.le_refl _) hb.size)
      have hz4 := hk.size
      simp only [setCell_size] at t2
      replace t2 : Tree (Qb (w.heap.size + 1 + 1 + 1) w2.heap.size) w4 x2 _ := t2.bars (by rintro u hu (h | h); show u < _; omega; show u < _; omega)
      replace HE := HE x2 j2 d2 (fun h => ((g2 h).resolve_left (by simp)).2) (fun h => (k2 h).2)
      clear hx hk hk1 hX g2 k2
      obtain ⟨op0, op1, op2, op3, op4, op5, op6⟩ := op.three
      obtain ⟨oe0, oe1, oe2, oe3, oe4, oe5, oe6⟩ := oe.three
      go_wp2_with fail
      clear op0 op1 op2 op3 op4 op5 op6
      clear oe0 oe1 oe2 oe3 oe4 oe5 oe6
      have hk := (((Kept.refl (some w.heap.size) w4).put3 (.slice ad L.length cap) (.int .i64 (j2 : Nat)) (.bool d2)).alloc (.cells #[.slice ad L.length cap, .int .i64 (j2 : Nat), .bool d2] 67)).alloc (.cells #[.int .i64 x2.o, .int .i64 x2.n, .slice ad2 x2.ks.length cap2] 24)
      refine (rpair_any (oo : Nat) x1 x2 _ _ _ _ _ (Qb (w.heap.size + 1 + 1 + 1) w2.heap.size) (by intro u hu; simp only [alloc_size, setCell_size] at hu; rintro (h | h) <;> omega) (t1.keep hk (.inl (by omega))) (t2.keep hk (.inl (by omega)))).mono ?_
      rintro e w5 ⟨tv, rfl, T, hx⟩
      obtain ⟨adt, capt, rfl, -, -⟩ := T.shape
      replace hk := hk.later hx
      replace op := (((op.put3 _ _ _).alloc _).alloc _).below hx
      replace r1 := hk.own r1 (by simp <;> omega)
      replace r2 := hk.own r2 (by simp <;> omega)
      replace oe := hk.own oe (by simp <;> omega)
      replace hb := hb.trans (hk.below (Nat.le_refl _) hb.size)
      have hz5 := hk.size
      clear hx hk t1 t2
      obtain ⟨op0, op1, op2, op3, op4, op5, op6⟩ := op.three
      obtain ⟨oe0, oe1, oe2, oe3, oe4, oe5, oe6⟩ := oe.three
      go_wp2_with fail
      go_roundw
      case rel => exact ⟨(nodeE (oo : Nat) [x1, x2]), j2, d2, adt, capt, HE, by omega, m2, op.off3 (by omega) _ _ _, r1.off3 (by omega) _ _ _, r2.off3 (by omega) _ _ _, oe.put3 _ _ _, T.set3 (.inr rfl) _ _ _, bset3 hb (by omega) _ _ _⟩
      case measure => rw [hmz, readI_own (op.off3 (B := w2.heap.size) (by omega) _ _ _)]; omega
set_option maxHeartbeats 6400000 in
theorem rlevel_three (hE : REnv W0 ad cap L) {n : Nat} (HL : MethL W0 ad cap L 4 n) (i : Nat) (b : Bool) (w : World) (hW : Below W0.heap.size W0 w) (hi : i ≤ L.length) (hn : b = true ∨ L.length < i + n) (hq : (!b && isT wNot (L.drop i)) = false) : Calls Tryz.prog 48 #[pv ad cap L i b, .int .i64 3] w (XEnd ad cap L (.lvl 3) i b w) := by
  have hI := fun w1 (h : Below w.heap.size w w1) => ris_any hE wNot i b w1 (hW.trans (h.mono hW.size))
  rw [hq] at hI
  have hL : ∀ j c w1, j ≤ L.length → (c = true ∨ L.length < j + n) → Below w.heap.size w w1 → Calls Tryz.prog 48 #[pv ad cap L j c, .int .i64 4] w1 (XEnd ad cap L (.lvl 4) j c w1) := fun j c w1 hj hc h => HL j c w1 (hW.trans (h.mono hW.size)) hj hc
  have HN : b = false → isT wNot (L.drop i) = false := fun hb => by simpa [hb] using hq
  have hsh := hE.short
  clear HL hq
  go_enter Tryz.func48, Tryz.ntmps48
  go_wp2_with fail
  refine (hI _ (balloc (balloc (balloc (Below.refl _ _) _) _) _)).mono ?_
  rintro e w1 ⟨rfl, hx⟩
  have op : Own w1 w.heap.size [.slice ad L.length cap, .int .i64 (i : Nat), .bool b] := by have := (((Own.new w #[.slice ad L.length cap, .int .i64 (i : Nat), .bool b] 67).alloc (.cells #[.slice none 0 0, .int .i64 0, .bool false] 67)).alloc (.cells #[.int .i64 0, .int .i64 0, .slice none 0 0] 24)).below hx; simpa using this
  have r1 : Own w1 (w.heap.size + 1) [.slice none 0 0, .int .i64 0, .bool false] := by have := ((Own.new (w.alloc (.cells #[.slice ad L.length cap, .int .i64 (i : Nat), .bool b] 67)) #[.slice none 0 0, .int .i64 0, .bool false] 67).alloc (.cells #[.int .i64 0, .int .i64 0, .slice none 0 0] 24)).below hx; simpa using this
  have r2 : Own w1 (w.heap.size + 1 + 1) [.int .i64 0, .int .i64 0, .slice none 0 0] := by have := (Own.new ((w.alloc (.cells #[.slice ad L.length cap, .int .i64 (i : Nat), .bool b] 67)).alloc (.cells #[.slice none 0 0, .int .i64 0, .bool false] 67)) #[.int .i64 0, .int .i64 0, .slice none 0 0] 24).below hx; simpa using this
  have hb : Below w.heap.size w w1 := (balloc (balloc (balloc (Below.refl _ _) _) _) _).trans (hx.mono (balloc (balloc (balloc (Below.refl _ _) _) _) _).size)
  have yw1 := hb.size
  have zw1 := r2.lt
  clear hx hI
  obtain ⟨op0, op1, op2, op3, op4, op5, op6⟩ := op.three
  go_wp2_with fail
  clear op0 op1 op2 op3 op4 op5 op6
  refine (hL i b _ hi hn (hb.trans ((Kept.refl (some w.heap.size) _).below (Nat.le_refl _) hb.size))).mono ?_
  rintro e w2 ⟨x1, j1, d1, tv1, rfl, t1, hx, l1, m1, g1, k1⟩
  obtain ⟨ad1, cap1, rfl, -, -⟩ := t1.shape
  have hk := (Kept.refl (some w.heap.size) _).later hx
  replace op := op.below hx
  replace r1 := hk.own r1 (by simp <;> omega)
  replace r2 := hk.own r2 (by simp <;> omega)
  replace hb := hb.trans (hk.below (Nat.le_refl _) hb.size)
  skip
  clear hk
  have yw2 := hb.size
  have zw2 := r2.lt
  replace t1 := t1.lo (b := w.heap.size + 1 + 1 + 1) (by (try simp only [setCell_size, set3_size, alloc_size, drew_size]); omega)
  have HS : LR L 3 i b x1 j1 d1 := ⟨fun h => (g1 h).imp id fun ⟨p, q⟩ => ⟨p, g_lvlBad (by omega) (fun h3 => HN p) q⟩, fun h => ⟨(k1 h).1, fun a ha => g_lvl (by omega) (fun h3 => HN (k1 h).1) (k1 h).2 ha⟩⟩
  clear hx g1 k1
  obtain ⟨op0, op1, op2, op3, op4, op5, op6⟩ := op.three
  go_wp2_with fail
  clear op0 op1 op2 op3 op4 op5 op6
  have hk := ((Kept.refl (some w.heap.size) w2).put3 (.slice ad L.length cap) (.int .i64 (j1 : Nat)) (.bool d1)).alloc (.cells #[.int .i64 x1.o, .int .i64 x1.n, .slice ad1 x1.ks.length cap1] 24)
  have oe : Own _ w2.heap.size [.int .i64 x1.o, .int .i64 x1.n, .slice ad1 x1.ks.length cap1] := Own.at (set3 w2 w.heap.size (.slice ad L.length cap) (.int .i64 (j1 : Nat)) (.bool d1)) #[.int .i64 x1.o, .int .i64 x1.n, .slice ad1 x1.ks.length cap1] 24 _ (by simp only [setCell_size])
  replace op := (op.put3 (.slice ad L.length cap) (.int .i64 (j1 : Nat)) (.bool d1)).alloc (.cells #[.int .i64 x1.o, .int .i64 x1.n, .slice ad1 x1.ks.length cap1] 24)
  replace r1 := hk.own r1 (by simp <;> omega)
  replace r2 := hk.own r2 (by simp <;> omega)
  replace t1 := (t1.bars (R := (Qb (w.heap.size + 1 + 1 + 1) w2.heap.size)) (by rintro u hu (h | h); exact h; exact absurd h (by omega))).keep hk (.inl (by omega))
  replace hb := hb.trans (hk.below (Nat.le_refl _) hb.size)
  have hz2 : w.heap.size + 1 + 1 < w2.heap.size := by omega
  clear hk
  go_loopw [10] (fun _ wr => ∃ x j d ad0 cap0, LR L 3 i b x j d ∧ i ≤ j ∧ j ≤ L.length ∧ Own wr w.heap.size [.slice ad L.length cap, .int .i64 (j : Nat), .bool d] ∧ Own wr (w.heap.size + 1) [.slice none 0 0, .int .i64 0, .bool false] ∧ Own wr (w.heap.size + 1 + 1) [.int .i64 0, .int .i64 0, .slice none 0 0] ∧ Own wr w2.heap.size [.int .i64 x.o, .int .i64 x.n, .slice ad0 x.ks.length cap0] ∧ Tree (Qb (w.heap.size + 1 + 1 + 1) w2.heap.size) wr x (.agg #[.int .i64 x.o, .int .i64 x.n, .slice ad0 x.ks.length cap0]) ∧ Below w.heap.size w wr) (fun _ wr => L.length - readI w.heap.size wr)
  case atStart => exact ⟨x1, j1, d1, ad1, cap1, HS, l1, m1, op, r1, r2, oe, t1, hb⟩
  case round =>
    clear HS op r1 r2 oe t1 hb l1 m1 yw1 zw1 yw2 zw2
    obtain ⟨x1, j1, d1, ad1, cap1, HS, l1, m1, op, r1, r2, oe, t1, hb⟩ := hrel
    have hmz := readI_own op
    have ho6 := oe.lt
    have hW2 := hW.trans (hb.mono hW.size)
    have hop := rop_any hE 3 (by omega) (by omega) j1 d1 wr hW2
    clear hW2
    by_cases ho : d1 = true ∨ opL 3 (L.drop j1) = 0
    · have HE := LR.end HS ho
      have hv : (if d1 = true then 0 else opL 3 (L.drop j1)) = 0 := by rcases ho with h | h <;> simp [h]
      rw [hv] at hop
      obtain ⟨HE1, HE2⟩ := HE
      replace HE1 := Lib.hid HE1
      replace HE2 := Lib.hid HE2
      clear HS ho hv hmz
      obtain ⟨op0, op1, op2, op3, op4, op5, op6⟩ := op.three
      go_wp2_with fail
      clear op0 op1 op2 op3 op4 op5 op6
      refine hop.mono ?_
      rintro e w3 ⟨rfl, hx⟩
      replace op := op.below hx
      replace r1 := r1.below hx
      replace r2 := r2.below hx
      replace oe := oe.below hx
      replace t1 := t1.below hx
      replace hb := hb.trans (hx.mono hb.size)
      have hz3 := hx.size
      clear hx hop
      obtain ⟨op0, op1, op2, op3, op4, op5, op6⟩ := op.three
      obtain ⟨r10, r11, r12, r13, r14, r15, r16⟩ := r1.three
      obtain ⟨r20, r21, r22, r23, r24, r25, r26⟩ := r2.three
      obtain ⟨oe0, oe1, oe2, oe3, oe4, oe5, oe6⟩ := oe.three
      go_wp2_with fail
      go_region
      all_goals (
        go_wp2_with fail
        refine bodyPost_ret (results_cc rfl rfl rfl (loadVar_at (vs := [.slice ad L.length cap, .int .i64 (j1 : Nat), .bool d1]) Tryz.underlying67 rfl (by kernel_rfl) ((r1.put3 _ _ _).off3 (by omega) _ _ _).drew') (loadVar_at (vs := [.int .i64 x1.o, .int .i64 x1.n, .slice ad1 x1.ks.length cap1]) Tryz.underlying24 rfl (by kernel_rfl) ((r2.off3 (by omega) _ _ _).put3 _ _ _).drew')) rfl ?_
        exact ⟨x1, j1, d1, _, rfl, (((t1.set3 (.inl (by omega)) _ _ _).set3 (.inl (by omega)) _ _ _).drew.bars fun u hu h => .inl (by have h : u < w.heap.size := h; omega)), (bset3 (bset3 hb (by omega) _ _ _) (by omega) _ _ _).drew, by omega, m1, HE1.out, HE2.out⟩)
    · obtain ⟨hd, ho2⟩ := not_or.1 ho
      obtain rfl : d1 = false := by simpa using hd
      rw [show (if false = true then 0 else opL 3 (L.drop j1)) = opL 3 (L.drop j1) from rfl] at hop
      obtain ⟨y, hy, hjl⟩ := opl_cons ho2
      have hbf := (HS.2 rfl).1
      have hnn := hn.resolve_left (by simp [hbf])
      clear hbf
      have hX := hL (j1 + 1) false
      have hw : IntKind.i64.wrap ((j1 : Int) + 1) = (j1 : Int) + 1 := IntWalk.i64_in _ (by omega)
      have HE := fun x2 j2 d2 => LR.one (j2 := j2) (x2 := x2) (d2 := d2) HS ho2
      generalize opL 3 (L.drop j1) = oo at *
      have hob : ((oo : Int) == 0) = false := by simpa using (by omega : ¬ (oo : Int) = 0)
      have hoo : ¬ oo = 0 := ho2
      clear HS ho hy hd ho2
      obtain ⟨op0, op1, op2, op3, op4, op5, op6⟩ := op.three
      go_wp2_with fail
      clear op0 op1 op2 op3 op4 op5 op6
      refine hop.mono ?_
      rintro e w3 ⟨rfl, hx⟩
      replace op := op.below hx
      replace r1 := r1.below hx
      replace r2 := r2.below hx
      replace oe := oe.below hx
      replace t1 := t1.below hx
      replace hb := hb.trans (hx.mono hb.size)
      have hz3 := hx.size
      clear hx hop
      obtain ⟨op0, op1, op2, op3, op4, op5, op6⟩ := op.three
      go_wp2_with fail
      clear op0 op1 op2 op3 op4 op5 op6
      have hk1 := (Kept.refl (some w.heap.size) w3).set (b := ⟨w.heap.size, 1, none⟩) (.inl rfl) (.int .i64 ((j1 : Int) + 1))
      refine (hX _ hjl (.inr (by omega)) (hb.trans (hk1.below (Nat.le_refl _) hb.size))).mono ?_
      rintro e w4 ⟨x2, j2, d2, tv2, rfl, t2, hx, l2, m2, g2, k2⟩
      obtain ⟨ad2, cap2, rfl, -, -⟩ := t2.shape
      have hk := hk1.later hx
      replace op := (op.setAt (i := 1) (.int .i64 ((j1 : Int) + 1)) (by simp)).below hx
      replace r1 := hk.own r1 (by simp <;> omega)
      replace r2 := hk.own r2 (by simp <;> omega)
      replace oe := hk.own oe (by simp <;> omega)
      replace t1 := t1.keep hk (.inl (by omega))
      replace hb := hb.trans (hk.below (Nat.le_refl _) hb.size)
      have hz4 := hk.size
      simp only [setCell_size] at t2
      replace t2 : Tree (Qb (w.heap.size + 1 + 1 + 1) w2.heap.size) w4 x2 _ := t2.bars (by rintro u hu (h | h); show u < _; omega; show u < _; omega)
      replace HE := HE x2 j2 d2 (fun h => ((g2 h).resolve_left (by simp)).2) (fun h => (k2 h).2)
      clear hx hk hk1 hX g2 k2
      obtain ⟨op0, op1, op2, op3, op4, op5, op6⟩ := op.three
      obtain ⟨oe0, oe1, oe2, oe3, oe4, oe5, oe6⟩ := oe.three
      go_wp2_with fail
      clear op0 op1 op2 op3 op4 op5 op6
      clear oe0 oe1 oe2 oe3 oe4 oe5 oe6
      have hk := (((Kept.refl (some w.heap.size) w4).put3 (.slice ad L.length cap) (.int .i64 (j2 : Nat)) (.bool d2)).alloc (.cells #[.slice ad L.length cap, .int .i64 (j2 : Nat), .bool d2] 67)).alloc (.cells #[.int .i64 x2.o, .int .i64 x2.n, .slice ad2 x2.ks.length cap2] 24)
      refine (rpair_any (oo : Nat) x1 x2 _ _ _ _ _ (Qb (w.heap.size + 1 + 1 + 1) w2.heap.size) (by intro u hu; simp only [alloc_size, setCell_size] at hu; rintro (h | h) <;> omega) (t1.keep hk (.inl (by omega))) (t2.keep hk (.inl (by omega)))).mono ?_
      rintro e w5 ⟨tv, rfl, T, hx⟩
      obtain ⟨adt, capt, rfl, -, -⟩ := T.shape
      replace hk := hk.later hx
      replace op := (((op.put3 _ _ _).alloc _).alloc _).below hx
      replace r1 := hk.own r1 (by simp <;> omega)
      replace r2 := hk.own r2 (by simp <;> omega)
      replace oe := hk.own oe (by simp <;> omega)
      replace hb := hb.trans (hk.below (Nat.le_refl _) hb.size)
      have hz5 := hk.size
      clear hx hk t1 t2
      obtain ⟨op0, op1, op2, op3, op4, op5, op6⟩ := op.three
      obtain ⟨oe0, oe1, oe2, oe3, oe4, oe5, oe6⟩ := oe.three
      obtain ⟨r10, r11, r12, r13, r14, r15, r16⟩ := r1.three
      obtain ⟨r20, r21, r22, r23, r24, r25, r26⟩ := r2.three
      go_wp2_with fail
      clear op0 op1 op2 op3 op4 op5 op6
      clear oe0 oe1 oe2 oe3 oe4 oe5 oe6
      clear r10 r11 r12 r13 r14 r15 r16
      clear r20 r21 r22 r23 r24 r25 r26
      replace op := op.off3 (B := w2.heap.size) (by omega) (.int .i64 (nodeE (oo : Nat) [x1, x2]).o) (.int .i64 (nodeE (oo : Nat) [x1, x2]).n) (.slice adt (nodeE (oo : Nat) [x1, x2]).ks.length capt)
      replace r1 := r1.off3 (B := w2.heap.size) (by omega) (.int .i64 (nodeE (oo : Nat) [x1, x2]).o) (.int .i64 (nodeE (oo : Nat) [x1, x2]).n) (.slice adt (nodeE (oo : Nat) [x1, x2]).ks.length capt)
      replace r2 := r2.off3 (B := w2.heap.size) (by omega) (.int .i64 (nodeE (oo : Nat) [x1, x2]).o) (.int .i64 (nodeE (oo : Nat) [x1, x2]).n) (.slice adt (nodeE (oo : Nat) [x1, x2]).ks.length capt)
      replace oe := oe.put3 (.int .i64 (nodeE (oo : Nat) [x1, x2]).o) (.int .i64 (nodeE (oo : Nat) [x1, x2]).n) (.slice adt (nodeE (oo : Nat) [x1, x2]).ks.length capt)
      replace T := T.set3 (B := w2.heap.size) (.inr rfl) (.int .i64 (nodeE (oo : Nat) [x1, x2]).o) (.int .i64 (nodeE (oo : Nat) [x1, x2]).n) (.slice adt (nodeE (oo : Nat) [x1, x2]).ks.length capt)
      replace hb := bset3 hb (B := w2.heap.size) (by omega) (.int .i64 (nodeE (oo : Nat) [x1, x2]).o) (.int .i64 (nodeE (oo : Nat) [x1, x2]).n) (.slice adt (nodeE (oo : Nat) [x1, x2]).ks.length capt)
      obtain ⟨w6, hw6⟩ : ∃ x, x = set3 w5 w2.heap.size (.int .i64 (nodeE (oo : Nat) [x1, x2]).o) (.int .i64 (nodeE (oo : Nat) [x1, x2]).n) (.slice adt (nodeE (oo : Nat) [x1, x2]).ks.length capt) := ⟨_, rfl⟩
      have hz6 : w6.heap.size = w5.heap.size := by rw [hw6]; simp only [set3_size]
      rw [← hw6] at op r1 r2 oe T hb
      obtain ⟨HE1, HE2⟩ := HE
      replace HE1 := Lib.hid HE1
      replace HE2 := Lib.hid HE2
      try unfold set3 at hw6
      rw [← hw6]
      clear hw6
      obtain ⟨op0, op1, op2, op3, op4, op5, op6⟩ := op.three
      obtain ⟨r10, r11, r12, r13, r14, r15, r16⟩ := r1.three
      obtain ⟨r20, r21, r22, r23, r24, r25, r26⟩ := r2.three
      obtain ⟨oe0, oe1, oe2, oe3, oe4, oe5, oe6⟩ := oe.three
      go_wp2_with fail
      go_region
      all_goals (
        go_wp2_with fail
        refine bodyPost_ret (results_cc rfl rfl rfl (loadVar_at (vs := [.slice ad L.length cap, .int .i64 (j2 : Nat), .bool d2]) Tryz.underlying67 rfl (by kernel_rfl) ((r1.put3 _ _ _).off3 (by omega) _ _ _).drew') (loadVar_at (vs := [.int .i64 (nodeE (oo : Nat) [x1, x2]).o, .int .i64 (nodeE (oo : Nat) [x1, x2]).n, .slice adt (nodeE (oo : Nat) [x1, x2]).ks.length capt]) Tryz.underlying24 rfl (by kernel_rfl) ((r2.off3 (by omega) _ _ _).put3 _ _ _).drew')) rfl ?_
        exact ⟨(nodeE (oo : Nat) [x1, x2]), j2, d2, _, rfl, (((T.set3 (.inl (by omega)) _ _ _).set3 (.inl (by omega)) _ _ _).drew.bars fun u hu h => .inl (by have h : u < w.heap.size := h; omega)), (bset3 (bset3 hb (by omega) _ _ _) (by omega) _ _ _).drew, by omega, m2, HE1.out, HE2.out⟩)
end Go.Proofs.YthnlenbfknbmcaaGreatDoor
