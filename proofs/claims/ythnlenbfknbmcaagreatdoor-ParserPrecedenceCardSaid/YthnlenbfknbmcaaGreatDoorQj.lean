/-
  The parser's methods that call one another: what each of them reads, for all sources with fewer tokens left than a number.
-/
import Derived.Test.YthnlenbfknbmcaaGreatDoorQi
namespace Go.Proofs.YthnlenbfknbmcaaGreatDoor
open Go.RowKit Go.Shelf
set_option maxRecDepth 100000
variable {W0 : World} {v : Value} {m : Nat} {L : List Tok}

/-- what is read, or a panic -/
def PEnd (W0 : World) (v : Value) (m : Nat) (L : List Tok) (c : Cat) (i : Nat) (w : World) (e : Ending) (w' : World) : Prop :=
  (∃ x j tv, G c (L.drop i) (.ok [x] (L.drop j)) ∧ i ≤ j ∧ e = .returned tv ∧ Tree (Lo w.heap.size) w' x tv ∧ Kept (some W0.heap.size) w w' ∧ St W0 v m L j w') ∨
  (∃ j, G c (L.drop i) (.bad (L.drop j)) ∧ Dies 8 (lineAt L (L.drop j) : Nat) (some W0.heap.size) w e w')
def Meth (W0 : World) (v : Value) (m : Nat) (L : List Tok) (F : FuncId) (c : Cat) (n : Nat) : Prop :=
  ∀ i w, St W0 v m L i w → L.length < i + n → Calls Tryz.prog F #[.pointer (some ⟨W0.heap.size, 0, none⟩)] w (PEnd W0 v m L c i w)
theorem need_cons {L : List Tok} {i : Nat} {t : List UInt8} (h : isT t (L.drop i) = true) : ∃ x, L.drop i = x :: L.drop (i + 1) ∧ x.t = t := by
  have hi := isT_lt h
  rw [List.drop_eq_getElem_cons hi] at h ⊢
  exact ⟨_, rfl, by simpa [isT] using h⟩
theorem St.keep {i j : Nat} {w w' : World} (h : St W0 v m L i w) (hk : Kept (some W0.heap.size) w w') (ho : Own w' W0.heap.size [.map (some m), v, .int .i64 (j : Nat)]) (hj : j ≤ L.length) : St W0 v m L j w' :=
  ⟨h.base.trans (hk.below (Nat.le_refl _) h.base.size), ho, hj⟩
abbrev zE : Array Value := #[.int .i64 0, .int .i64 0, .slice none 0 0]
/-- a struct of three cells is stored -/
abbrev set3 (w : World) (B : Nat) (x y z : Value) : World := ((w.setCell ⟨B, 0, none⟩ x).setCell ⟨B, 1, none⟩ y).setCell ⟨B, 2, none⟩ z
theorem Kept.set3 {p B : Nat} {a w : World} (h : Kept (some p) a w) (hB : a.heap.size ≤ B) (x y z : Value) : Kept (some p) a (set3 w B x y z) := ((h.set (b := ⟨B, 0, none⟩) (.inr hB) x).set (b := ⟨B, 1, none⟩) (.inr hB) y).set (b := ⟨B, 2, none⟩) (.inr hB) z
theorem Tree.set3 {Q : Nat → Prop} {w : World} {e : Xp} {v : Value} (h : Tree Q w e v) {B : Nat} (hB : Q B) (x y z : Value) : Tree Q (set3 w B x y z) e v := ((h.set (b := ⟨B, 0, none⟩) x hB).set (b := ⟨B, 1, none⟩) y hB).set (b := ⟨B, 2, none⟩) z hB
theorem Own.put3 {w : World} {B : Nat} {a b c : Value} (h : Own w B [a, b, c]) (x y z : Value) : Own (Go.Proofs.YthnlenbfknbmcaaGreatDoor.set3 w B x y z) B [x, y, z] := ((h.setAt (i := 0) x (by simp)).setAt (i := 1) y (by simp)).setAt (i := 2) z (by simp)
theorem Own.off3 {w : World} {C : Nat} {xs : List Value} (h : Own w C xs) {B : Nat} (hB : B ≠ C) (x y z : Value) : Own (Go.Proofs.YthnlenbfknbmcaaGreatDoor.set3 w B x y z) C xs := ((h.setCell (p := ⟨B, 0, none⟩) hB x).setCell (p := ⟨B, 1, none⟩) hB y).setCell (p := ⟨B, 2, none⟩) hB z
theorem St.set3 {w : World} {i : Nat} (h : St W0 v m L i w) {B : Nat} (hB : W0.heap.size < B) (x y z : Value) : St W0 v m L i (Go.Proofs.YthnlenbfknbmcaaGreatDoor.set3 w B x y z) :=
  ⟨((h.base.setCell (p := ⟨B, 0, none⟩) (Nat.le_of_lt hB) x).setCell (p := ⟨B, 1, none⟩) (Nat.le_of_lt hB) y).setCell (p := ⟨B, 2, none⟩) (Nat.le_of_lt hB) z, h.own.off3 (by omega) x y z, h.le⟩
theorem St.alloc {w : World} {i : Nat} (h : St W0 v m L i w) (o : Obj) : St W0 v m L i (w.alloc o) := h.below (Below.alloc (Below.refl _ _) (Nat.le_refl _) o)
theorem St.drew {w : World} {i : Nat} (h : St W0 v m L i w) : St W0 v m L i w.drew := h.below (Below.refl _ _).drew
theorem alloc_size (w : World) (o : Obj) : (w.alloc o).heap.size = w.heap.size + 1 := by simp
theorem drew_size (w : World) : w.drew.heap.size = w.heap.size := rfl
theorem Own.drew' {w : World} {B : Nat} {xs : List Value} (h : Own w B xs) : Own w.drew B xs := ⟨h.cell, h.fro, h.lt⟩
theorem G.at {c : Cat} {ts us : List Tok} {a : Res} (e : ts = us) (h : G c us a) : G c ts a := e ▸ h
end Go.Proofs.YthnlenbfknbmcaaGreatDoor
namespace Go.Proofs.YthnlenbfknbmcaaGreatDoor
open Go.RowKit Go.Shelf
set_option maxRecDepth 100000
variable {W0 : World} {v : Value} {m : Nat} {L : List Tok}

/-- two in brackets -/
def PairEnd (W0 : World) (v : Value) (m : Nat) (L : List Tok) (o : Int) (i : Nat) (w : World) (e : Ending) (w' : World) : Prop :=
  (∃ x y j tv, G (.seq twoI) (L.drop i) (.ok [x, y] (L.drop j)) ∧ i ≤ j ∧ e = .returned tv ∧ Tree (Lo w.heap.size) w' (nodeE o [x, y]) tv ∧ Kept (some W0.heap.size) w w' ∧ St W0 v m L j w') ∨
  (∃ j, G (.seq twoI) (L.drop i) (.bad (L.drop j)) ∧ Dies 8 (lineAt L (L.drop j) : Nat) (some W0.heap.size) w e w')
set_option maxHeartbeats 1600000 in
theorem pair_any (hE : Env W0 v m L) {n : Nat} (HX : Meth W0 v m L 43 .expr n) (o : Int) (i : Nat) (w : World) (hS : St W0 v m L i w) (hn : L.length < i + n) :
    Calls Tryz.prog 148 #[.pointer (some ⟨W0.heap.size, 0, none⟩), .int .i64 o] w (PairEnd W0 v m L o i w) := by
  have hP := hS.own.lt
  have k := Kept.refl (some W0.heap.size) w
  go_enter Tryz.func148, Tryz.ntmps148
  go_wp2_with fail
  have o4 := Own.new w zE 24
  refine (need_any (t := wOpen) hE (by decide) i _ (hS.alloc _)).mono ?_
  rintro e w1 (⟨q1, rfl, kk, s1⟩ | ⟨q1, rfl, kk⟩)
  case inr =>
    go_wp2_with fail
    exact bodyPost_panic rfl (.inr ⟨i, g_litBad q1, rfl, (k.alloc _).trans kk⟩)
  obtain ⟨y1t, d1, e1⟩ := need_cons q1
  replace o4 := kk.own o4 (by simp; omega)
  replace k := (k.alloc _).trans kk
  have y1 := kk.size
  (try simp only [alloc_size] at y1)
  clear kk
  go_wp2_with fail
  refine (HX (i + 1) _ s1 (by omega)).mono ?_
  rintro e w2 (⟨x2, j2, tv2, g2, l2, rfl, t2, kk, s2⟩ | ⟨j2, g2, rfl, kk⟩)
  case inr =>
    go_wp2_with fail
    exact bodyPost_panic rfl (.inr ⟨j2, G.at d1 (g_lit e1 (g_exBad g2)), rfl, k.trans kk⟩)
  replace o4 := kk.own o4 (by simp; omega)
  replace k := k.trans kk
  have y2 := kk.size
  (try simp only [alloc_size] at y2)
  clear kk
  obtain ⟨ad2, cap2, rfl, -, -⟩ := t2.shape
  have z2 := s2.own.lt
  go_wp2_with fail
  have o5 := Own.new w2 #[.int .i64 x2.o, .int .i64 x2.n, .slice ad2 x2.ks.length cap2] 24
  refine (need_any (t := wComma) hE (by decide) j2 _ (s2.alloc _)).mono ?_
  rintro e w3 (⟨q3, rfl, kk, s3⟩ | ⟨q3, rfl, kk⟩)
  case inr =>
    go_wp2_with fail
    exact bodyPost_panic rfl (.inr ⟨j2, G.at d1 (g_lit e1 (g_exLater g2 (g_litBad q3))), rfl, (k.alloc _).trans kk⟩)
  obtain ⟨y3t, d3, e3⟩ := need_cons q3
  replace o4 := kk.own (o4.alloc _) (by simp; omega)
  replace o5 := kk.own o5 (by simp; omega)
  replace t2 := (t2.alloc _).keep kk (by show W0.heap.size < _; (try simp only [alloc_size]); omega)
  replace k := (k.alloc _).trans kk
  have y3 := kk.size
  (try simp only [alloc_size] at y3)
  clear kk
  go_wp2_with fail
  refine (HX (j2 + 1) _ s3 (by omega)).mono ?_
  rintro e w4 (⟨x4, j4, tv4, g4, l4, rfl, t4, kk, s4⟩ | ⟨j4, g4, rfl, kk⟩)
  case inr =>
    go_wp2_with fail
    exact bodyPost_panic rfl (.inr ⟨j4, G.at d1 (g_lit e1 (g_exLater g2 (G.at d3 (g_lit e3 (g_exBad g4))))), rfl, k.trans kk⟩)
  replace o4 := kk.own o4 (by simp; omega)
  replace o5 := kk.own o5 (by simp; omega)
  replace t2 := t2.keep kk (by show W0.heap.size < _; (try simp only [alloc_size]); omega)
  replace k := k.trans kk
  have y4 := kk.size
  (try simp only [alloc_size] at y4)
  clear kk
  obtain ⟨ad4, cap4, rfl, -, -⟩ := t4.shape
  have z4 := s4.own.lt
  go_wp2_with fail
  have o6 := Own.new w4 #[.int .i64 x4.o, .int .i64 x4.n, .slice ad4 x4.ks.length cap4] 24
  refine (need_any (t := wShut) hE (by decide) j4 _ (s4.alloc _)).mono ?_
  rintro e w5 (⟨q5, rfl, kk, s5⟩ | ⟨q5, rfl, kk⟩)
  case inr =>
    go_wp2_with fail
    exact bodyPost_panic rfl (.inr ⟨j4, G.at d1 (g_lit e1 (g_exLater g2 (G.at d3 (g_lit e3 (g_exLater g4 (g_litBad q5)))))), rfl, (k.alloc _).trans kk⟩)
  obtain ⟨y5t, d5, e5⟩ := need_cons q5
  replace o4 := kk.own (o4.alloc _) (by simp; omega)
  replace o5 := kk.own (o5.alloc _) (by simp; omega)
  replace o6 := kk.own o6 (by simp; omega)
  replace t2 := (t2.alloc _).keep kk (by show W0.heap.size < _; (try simp only [alloc_size]); omega)
  replace t4 := (t4.alloc _).keep kk (by show W0.heap.size < _; (try simp only [alloc_size]); omega)
  replace k := (k.alloc _).trans kk
  have y5 := kk.size
  (try simp only [alloc_size] at y5)
  clear kk
  have HG : Hid (G (.seq twoI) (L.drop i) (.ok [x2, x4] (L.drop (j4 + 1)))) := Lib.hid (G.at d1 (g_lit e1 (g_ex g2 (G.at d3 (g_lit e3 (g_ex g4 (G.at d5 (g_lit e5 g_nil))))))))
  clear g2 g4 d1 d3 d5 e1 e3 e5 q1 q3 q5 HX hS
  obtain ⟨a0, a1, a2, a3, a4, a5, a6⟩ := o4.three
  obtain ⟨b0, b1, b2, b3, b4, b5, b6⟩ := o5.three
  obtain ⟨c0, c1, c2, c3, c4, c5, c6⟩ := o6.three
  go_wp2_with fail
  clear a0 a1 a2 a3 a4 a5 a6 b0 b1 b2 b3 b4 b5 b6 c0 c1 c2 c3 c4 c5 c6
  have on := Own.new w5 #[.int .i64 x2.o, .int .i64 x2.n, .slice ad2 x2.ks.length cap2, .int .i64 x4.o, .int .i64 x4.n, .slice ad4 x4.ks.length cap4] 24
  refine (pnode2_any o _ 2 2 _).mono ?_
  rintro e w6 ⟨rfl, hb⟩
  replace o4 := (o4.alloc _).below hb
  replace o5 := (o5.alloc _).below hb
  replace o6 := (o6.alloc _).below hb
  replace on := on.below hb
  replace t2 := (t2.alloc _).below hb
  replace t4 := (t4.alloc _).below hb
  replace k := (k.alloc _).later hb
  have y6 := hb.size
  (try simp only [alloc_size] at y6)
  have sn := (s5.alloc _).below hb
  have T := tree_two (Q := Lo (w.heap.size + 1)) (o := o) (by show ¬ (_ < _); omega) on (t2.bars fun u _ (h : u < _) => (by show u < _; omega)) (t4.bars fun u _ (h : u < _) => (by show u < _; omega)) 2
  clear on hb
  obtain ⟨a0, a1, a2, a3, a4, a5, a6⟩ := o4.three
  go_wp2_with fail
  clear a0 a1 a2 a3 a4 a5
  refine ret_cells (vs := [.int .i64 o, .int .i64 0, _]) rfl Tryz.underlying24 rfl (by kernel_rfl) (B := w.heap.size) (o4.put3 _ _ _) rfl rfl ?_
  exact .inl ⟨x2, x4, j4 + 1, _, HG.out, by omega, rfl, (T.set3 (by show w.heap.size < _; omega) _ _ _).lo (by omega), k.set3 (by omega) _ _ _, sn.set3 (by omega) _ _ _⟩
end Go.Proofs.YthnlenbfknbmcaaGreatDoor
namespace Go.Proofs.YthnlenbfknbmcaaGreatDoor
open Go.RowKit Go.Shelf
set_option maxRecDepth 100000
variable {W0 : World} {v : Value} {m : Nat} {L : List Tok}

theorem opr_link {lv : Nat} (h : lv ≤ 4) (i : Nat) : findO opsO lv (nextT L i).t = if opL (lv + 1) (L.drop i) = 0 then none else some ((opL (lv + 1) (L.drop i) : Nat) : Int) := by
  unfold nextT
  split
  · next hi =>
    rw [List.drop_eq_getElem_cons hi, opF_cons]
    generalize L[i] = x
    obtain ⟨xk, xn, t⟩ := x
    simp only [Tok.rt]
    unfold findO opsO hitO
    have c : ∀ (a b : List UInt8), (a == b) = decide (a = b) := fun a b => by exact Bool.eq_iff_iff.2 (by simp)
    match lv, h with
    | 0, _ => unfold wOr; by_cases h1 : t = [111, 114] <;> simp [List.find?, c, h1]
    | 1, _ => unfold wAnd; by_cases h1 : t = [97, 110, 100] <;> simp [List.find?, c, h1]
    | 2, _ => by_cases h1 : t = [60] <;> by_cases h2 : t = [61] <;> simp [List.find?, c, h1, h2]
    | 3, _ => by_cases h1 : t = [43] <;> by_cases h2 : t = [45] <;> simp [List.find?, c, h1, h2]
    | 4, _ => by_cases h1 : t = [42] <;> by_cases h2 : t = [47] <;> simp [List.find?, c, h1, h2]
  · next hi =>
    rw [List.drop_of_length_le (by omega)]
    simp [opL, findO, opsO, hitO]
theorem opr_none (hE : Env W0 v m L) (lv : Nat) (h : lv ≤ 4) (i : Nat) (w : World) (hS : St W0 v m L i w) (ho : opL (lv + 1) (L.drop i) = 0) : Calls Tryz.prog 103 #[.pointer (some ⟨W0.heap.size, 0, none⟩), .int .i64 lv] w fun e w' => e = .returned (.tuple #[.int .i64 0, .bool false]) ∧ Kept (some W0.heap.size) w w' ∧ St W0 v m L i w' := by
  have := operator_any hE lv i w hS
  rw [opr_link h, if_pos ho] at this
  exact this
theorem opr_some (hE : Env W0 v m L) (lv : Nat) (h : lv ≤ 4) (i : Nat) (w : World) (hS : St W0 v m L i w) (ho : ¬ opL (lv + 1) (L.drop i) = 0) : Calls Tryz.prog 103 #[.pointer (some ⟨W0.heap.size, 0, none⟩), .int .i64 lv] w fun e w' => e = .returned (.tuple #[.int .i64 (opL (lv + 1) (L.drop i) : Nat), .bool true]) ∧ Kept (some W0.heap.size) w w' ∧ St W0 v m L (i + 1) w' := by
  have := operator_any hE lv i w hS
  rw [opr_link h, if_neg ho] at this
  exact this
theorem op_cons {n i : Nat} (h : ¬ opL n (L.drop i) = 0) : ∃ x, L.drop i = x :: L.drop (i + 1) ∧ i < L.length := by
  have hi : i < L.length := by
    rcases Nat.lt_or_ge i L.length with hl | hl
    · exact hl
    · rw [List.drop_of_length_le hl] at h; exact absurd rfl h
  exact ⟨L[i], List.drop_eq_getElem_cons hi, hi⟩
set_option maxHeartbeats 1600000 in
theorem compared_any (hE : Env W0 v m L) {n : Nat} (HX : Meth W0 v m L 128 (.lvl 4) n) (i : Nat) (w : World) (hS : St W0 v m L i w) (hn : L.length < i + n) (hnot : isT wNot (L.drop i) = false) :
    Calls Tryz.prog 111 #[.pointer (some ⟨W0.heap.size, 0, none⟩)] w (PEnd W0 v m L (.lvl 3) i w) := by
  have hP := hS.own.lt
  have k := Kept.refl (some W0.heap.size) w
  go_enter Tryz.func111, Tryz.ntmps111
  go_wp2_with fail
  have o2 := Own.new w zE 24
  refine (HX i _ (hS.alloc _) (by omega)).mono ?_
  rintro e w1 (⟨x1, j1, tv1, g1, l1, rfl, t1, kk, s1⟩ | ⟨j1, g1, rfl, kk⟩)
  case inr =>
    go_wp2_with fail
    exact bodyPost_panic rfl (.inr ⟨j1, g_lvlBad (by decide) (fun _ => hnot) g1, rfl, (k.alloc _).trans kk⟩)
  replace o2 := kk.own o2 (by simp; omega)
  replace k := (k.alloc _).trans kk
  have y1 := kk.size
  (try simp only [alloc_size] at y1)
  (try simp only [alloc_size] at t1)
  clear kk
  obtain ⟨ad1, cap1, rfl, -, -⟩ := t1.shape
  have z1 := s1.own.lt
  go_wp2_with fail
  have o3 := Own.new w1 #[.int .i64 x1.o, .int .i64 x1.n, .slice ad1 x1.ks.length cap1] 24
  by_cases ho : opL 3 (L.drop j1) = 0
  · refine (opr_none hE 2 (by decide) j1 _ (s1.alloc _) ho).mono ?_
    rintro e w2 ⟨rfl, kk, s2⟩
    replace o2 := kk.own (o2.alloc _) (by simp; omega)
    replace o3 := kk.own o3 (by simp; omega)
    replace t1 := (t1.alloc _).keep kk (by show W0.heap.size < _; (try simp only [alloc_size]); omega)
    replace k := (k.alloc _).trans kk
    have y2 := kk.size
    (try simp only [alloc_size] at y2)
    have HG := Lib.hid (g_lvl (by decide) (fun _ => hnot) g1 (g_end ho))
    clear kk HX hS g1 ho
    obtain ⟨b0, b1, b2, b3, b4, b5, b6⟩ := o3.three
    obtain ⟨a0, a1, a2, a3, a4, a5, a6⟩ := o2.three
    go_wp2_with fail
    clear a0 a1 a2 a3 a4 a5 b0 b1 b2 b3 b4 b5
    refine ret_cells (vs := [.int .i64 x1.o, .int .i64 x1.n, .slice ad1 x1.ks.length cap1]) rfl Tryz.underlying24 rfl (by kernel_rfl) (B := w.heap.size) (o2.put3 _ _ _) rfl rfl ?_
    exact .inl ⟨x1, j1, _, HG.out, by omega, rfl, (t1.set3 (by show w.heap.size < _; omega) _ _ _).lo (by omega), k.set3 (by omega) _ _ _, s2.set3 (by omega) _ _ _⟩
  · refine (opr_some hE 2 (by decide) j1 _ (s1.alloc _) ho).mono ?_
    rintro e w2 ⟨rfl, kk, s2⟩
    replace o2 := kk.own (o2.alloc _) (by simp; omega)
    replace o3 := kk.own o3 (by simp; omega)
    replace t1 := (t1.alloc _).keep kk (by show W0.heap.size < _; (try simp only [alloc_size]); omega)
    replace k := (k.alloc _).trans kk
    have y2 := kk.size
    (try simp only [alloc_size] at y2)
    clear kk
    obtain ⟨yx, d1, hlt⟩ := op_cons ho
    have ho2 : opL 3 (yx :: L.drop (j1 + 1)) ≠ 0 := by rw [← d1]; exact ho
    have HO : opL 3 (L.drop j1) = opL 3 (yx :: L.drop (j1 + 1)) := by rw [d1]
    rw [HO]
    clear ho HO
    obtain ⟨b0, b1, b2, b3, b4, b5, b6⟩ := o3.three
    obtain ⟨a0, a1, a2, a3, a4, a5, a6⟩ := o2.three
    go_wp2_with fail
    go_region_with (first
      | (go_at_call 128
         refine (HX (j1 + 1) _ s2.drew (by omega)).mono ?_
         rintro e w3 (⟨x3, j3, tv3, g3, l3, rfl, t3, kk, s3⟩ | ⟨j3, g3, rfl, kk⟩)
         case inr =>
           go_wp2_with fail
           exact bodyPost_panic rfl (.inr ⟨j3, g_lvl (by decide) (fun _ => hnot) g1 (G.at d1 (g_moreBad ho2 g3)), rfl, k.drew.trans kk⟩)
         replace o2 := kk.own o2.drew (by simp; omega)
         replace o3 := kk.own o3.drew (by simp; omega)
         replace t1 := t1.drew.keep kk (by show W0.heap.size < _; (try simp only [alloc_size]); omega)
         replace k := k.drew.trans kk
         have y3 := kk.size
         (try simp only [drew_size] at y3 t3)
         (try simp only [alloc_size] at y3 t3)
         clear kk
         obtain ⟨ad3, cap3, rfl, -, -⟩ := t3.shape
         have z3 := s3.own.lt
         obtain ⟨ro30, ro31, ro32, ro33, ro34, ro35, ro36⟩ := o3.three)
      | (go_at_call 68
         have on := Own.new w3 #[.int .i64 x1.o, .int .i64 x1.n, .slice ad1 x1.ks.length cap1, .int .i64 x3.o, .int .i64 x3.n, .slice ad3 x3.ks.length cap3] 24
         refine (pnode2_any _ _ 2 2 _).mono ?_
         rintro e w4 ⟨rfl, hb⟩
         replace o2 := (o2.alloc _).below hb
         replace o3 := (o3.alloc _).below hb
         replace on := on.below hb
         replace t1 := (t1.alloc _).below hb
         replace t3 := (t3.alloc _).below hb
         replace k := (k.alloc _).later hb
         have y4 := hb.size
         (try simp only [alloc_size] at y4)
         have sn := (s3.alloc _).below hb
         obtain ⟨a0, a1, a2, a3, a4, a5, a6⟩ := o2.three))
    all_goals (
      have T := tree_two (Q := Lo (w.heap.size + 1)) (o := ((opL 3 (yx :: L.drop (j1 + 1)) : Nat) : Int)) (by show ¬ (_ < _); omega) on (t1.bars fun u _ (h : u < _) => (by show u < _; omega)) (t3.bars fun u _ (h : u < _) => (by show u < _; omega)) 2
      go_wp2_with fail
      clear a0 a1 a2 a3 a4 a5
      refine ret_cells (vs := [.int .i64 ((opL 3 (yx :: L.drop (j1 + 1)) : Nat) : Int), .int .i64 0, _]) rfl Tryz.underlying24 rfl (by kernel_rfl) (B := w.heap.size) (o2.put3 _ _ _) rfl rfl ?_
      exact .inl ⟨_, j3, _, g_lvl (by decide) (fun _ => hnot) g1 (G.at d1 (g_one ho2 g3)), by omega, rfl, (T.set3 (by show w.heap.size < _; omega) _ _ _).lo (by omega), k.set3 (by omega) _ _ _, sn.set3 (by omega) _ _ _⟩)
end Go.Proofs.YthnlenbfknbmcaaGreatDoor
