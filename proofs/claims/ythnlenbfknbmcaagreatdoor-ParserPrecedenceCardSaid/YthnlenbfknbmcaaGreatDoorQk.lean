/-
  Rows of expressions with operators of a level between them.
-/
import Derived.Test.YthnlenbfknbmcaaGreatDoorQj
namespace Go.Proofs.YthnlenbfknbmcaaGreatDoor
open Go.RowKit Go.Shelf
set_option maxRecDepth 100000
variable {W0 : World} {v : Value} {m : Nat} {L : List Tok}

def readOf (P : Nat) (w : World) : Nat := match w.cell? ⟨P, 2, none⟩ with | some (.int _ n) => n.toNat | _ => 0
theorem St.read {i : Nat} {w : World} (h : St W0 v m L i w) : readOf W0.heap.size w = i := by
  have := h.own.cell 2 _ rfl
  unfold readOf
  rw [this]
  simp
set_option maxHeartbeats 3200000 in
theorem row_0 (hE : Env W0 v m L) {n : Nat} (HX : Meth W0 v m L 92 (.lvl 2) n) (i : Nat) (w : World) (hS : St W0 v m L i w) (hn : L.length < i + n) :
    Calls Tryz.prog 91 #[.pointer (some ⟨W0.heap.size, 0, none⟩), .int .i64 0, .func (.func 92) #[.pointer (some ⟨W0.heap.size, 0, none⟩)] #[]] w (PEnd W0 v m L (.lvl 1) i w) := by
  have hP := hS.own.lt
  have k := Kept.refl (some W0.heap.size) w
  go_enter Tryz.func91, Tryz.ntmps91
  go_wp2_with fail
  have o6 := Own.new w zE 24
  refine (HX i _ (hS.alloc _) (by omega)).mono ?_
  rintro e w1 (⟨x1, j1, tv1, g1, l1, rfl, t1, kk, s1⟩ | ⟨j1, g1, rfl, kk⟩)
  case inr =>
    go_wp2_with fail
    exact bodyPost_panic rfl (.inr ⟨j1, g_lvlBad (by decide) (fun h => absurd h (by decide)) g1, rfl, (k.alloc _).trans kk⟩)
  replace o6 := kk.own o6 (by simp; omega)
  replace k := (k.alloc _).trans kk
  have y1 := kk.size
  (try simp only [alloc_size] at y1)
  (try simp only [alloc_size] at t1)
  clear kk
  obtain ⟨ad1, cap1, rfl, -, -⟩ := t1.shape
  have z1 := s1.own.lt
  go_wp2_with fail
  have o7 := Own.new w1 #[.int .i64 x1.o, .int .i64 x1.n, .slice ad1 x1.ks.length cap1] 24
  have HS : Hid (∀ a, G (.tail 1 x1) (L.drop j1) a → G (.lvl 1) (L.drop i) a) := Lib.hid fun a h => g_lvl (by decide) (fun h => absurd h (by decide)) g1 h
  replace t1 : Tree (fun u => u < w.heap.size + 1 ∨ u = w1.heap.size) w1 x1 _ := t1.bars fun u hu (h : u < _ ∨ u = _) => (by show u < _; omega)
  go_loopw [8] (fun _ wr => ∃ x j ad cap, (∀ a, G (.tail 1 x) (L.drop j) a → G (.lvl 1) (L.drop i) a) ∧ i ≤ j ∧ Own wr w.heap.size [.int .i64 0, .int .i64 0, .slice none 0 0] ∧ Own wr w1.heap.size [.int .i64 x.o, .int .i64 x.n, .slice ad x.ks.length cap] ∧ Tree (fun u => u < w.heap.size + 1 ∨ u = w1.heap.size) wr x (.agg #[.int .i64 x.o, .int .i64 x.n, .slice ad x.ks.length cap]) ∧ Kept (some W0.heap.size) w wr ∧ St W0 v m L j wr) (fun _ wr => L.length - readOf W0.heap.size wr)
  case atStart => exact ⟨x1, j1, ad1, cap1, HS.out, l1, (o6.alloc _), o7, (t1.alloc _), (k.alloc _), (s1.alloc _)⟩
  case round =>
    clear HS t1 o6 o7 k g1 hS s1 z1
    obtain ⟨x1, j1, ad1, cap1, hpre, l1, o6, o7, t1, k, s1⟩ := hrel
    have HS := Lib.hid hpre
    clear hpre
    have z1 := s1.own.lt
    have yr := o7.lt
    by_cases ho : opL 1 (L.drop j1) = 0
    · have hop := opr_none hE 0 (by decide) j1 _ s1 ho
      go_wp2_with fail
      refine hop.mono ?_
      rintro e w2 ⟨rfl, kk, s2⟩
      replace o6 := kk.own o6 (by simp; omega)
      replace o7 := kk.own o7 (by simp; omega)
      replace t1 := t1.keep kk (.inl (by omega))
      replace k := k.trans kk
      have y2 := kk.size
      (try simp only [alloc_size] at y2)
      have HG := HS.out _ (g_end ho)
      clear kk HX HS ho hop
      obtain ⟨b0, b1, b2, b3, b4, b5, b6⟩ := o7.three
      obtain ⟨a0, a1, a2, a3, a4, a5, a6⟩ := o6.three
      go_wp2_with fail
      clear a0 a1 a2 a3 a4 a5 b0 b1 b2 b3 b4 b5
      have T := t1.bars (R := Lo (w.heap.size + 1)) fun u _ (h : u < _) => .inl h
      refine ret_cells (vs := [.int .i64 x1.o, .int .i64 x1.n, .slice ad1 x1.ks.length cap1]) rfl Tryz.underlying24 rfl (by kernel_rfl) (B := w.heap.size) (o6.put3 _ _ _) rfl rfl ?_
      exact .inl ⟨x1, j1, _, HG, by omega, rfl, (T.set3 (by show w.heap.size < _; omega) _ _ _).lo (by omega), k.set3 (by omega) _ _ _, s2.set3 (by omega) _ _ _⟩
    · have hop := opr_some hE 0 (by decide) j1 _ s1 ho
      go_wp2_with fail
      refine hop.mono ?_
      rintro e w2 ⟨rfl, kk, s2⟩
      replace o6 := kk.own o6 (by simp; omega)
      replace o7 := kk.own o7 (by simp; omega)
      replace t1 := t1.keep kk (.inl (by omega))
      replace k := k.trans kk
      have y2 := kk.size
      (try simp only [alloc_size] at y2)
      clear kk hop
      obtain ⟨yx, d1, hlt⟩ := op_cons ho
      have ho2 : opL 1 (yx :: L.drop (j1 + 1)) ≠ 0 := by rw [← d1]; exact ho
      have HO : opL 1 (L.drop j1) = opL 1 (yx :: L.drop (j1 + 1)) := by rw [d1]
      rw [HO]
      clear ho HO
      obtain ⟨b0, b1, b2, b3, b4, b5, b6⟩ := o7.three
      go_wp2_with fail
      go_region_with (first
        | (go_at_call 92
           refine (HX (j1 + 1) _ s2.drew (by omega)).mono ?_
           rintro e w3 (⟨x3, j3, tv3, g3, l3, rfl, t3, kk, s3⟩ | ⟨j3, g3, rfl, kk⟩)
           case inr =>
             go_wp2_with fail
             exact bodyPost_panic rfl (.inr ⟨j3, HS.out _ (G.at d1 (g_moreBad ho2 g3)), rfl, k.drew.trans kk⟩)
           replace o6 := kk.own o6.drew (by simp; omega)
           replace o7 := kk.own o7.drew (by simp; omega)
           replace t1 := t1.drew.keep kk (.inl (by omega))
           replace k := k.drew.trans kk
           have y3 := kk.size
           (try simp only [drew_size] at y3 t3)
           (try simp only [alloc_size] at y3 t3)
           clear kk
           obtain ⟨ad3, cap3, rfl, -, -⟩ := t3.shape
           have z3 := s3.own.lt
           obtain ⟨ro70, ro71, ro72, ro73, ro74, ro75, ro76⟩ := o7.three)
        | (go_at_call 68
           have on := Own.new w3 #[.int .i64 x1.o, .int .i64 x1.n, .slice ad1 x1.ks.length cap1, .int .i64 x3.o, .int .i64 x3.n, .slice ad3 x3.ks.length cap3] 24
           refine (pnode2_any _ _ 2 2 _).mono ?_
           rintro e w4 ⟨rfl, hb⟩
           replace o6 := (o6.alloc _).below hb
           replace o7 := (o7.alloc _).below hb
           replace on := on.below hb
           replace t1 := (t1.alloc _).below hb
           replace t3 := (t3.alloc _).below hb
           replace k := (k.alloc _).later hb
           have y4 := hb.size
           (try simp only [alloc_size] at y4)
           have sn := (s3.alloc _).below hb
           obtain ⟨a0, a1, a2, a3, a4, a5, a6⟩ := o7.three))
      all_goals (
        have T := tree_two (Q := (fun u => u < w.heap.size + 1 ∨ u = w1.heap.size)) (o := ((opL 1 (yx :: L.drop (j1 + 1)) : Nat) : Int)) (by show ¬ (_ ∨ _); omega) on t1 (t3.bars fun u _ (h : u < _ ∨ u = _) => (by show u < _; omega)) 2
        have HS2 : Hid (∀ a, G (.tail 1 (nodeE ((opL 1 (yx :: L.drop (j1 + 1)) : Nat) : Int) [x1, x3])) (L.drop j3) a → G (.lvl 1) (L.drop i) a) := Lib.hid fun a h => HS.out _ (G.at d1 (g_more ho2 (by decide) g3 h))
        go_wp2_with fail
        clear a0 a1 a2 a3 a4 a5
        go_roundw
        case rel => exact ⟨nodeE ((opL 1 (yx :: L.drop (j1 + 1)) : Nat) : Int) [x1, x3], j3, _, _, HS2.out, by omega, o6.off3 (by omega) _ _ _, o7.put3 _ _ _, T.set3 (.inr rfl) _ _ _, k.set3 (by omega) _ _ _, sn.set3 (by omega) _ _ _⟩
        case measure => rw [s1.read, (sn.set3 (B := w1.heap.size) (by omega) _ _ _).read]; omega)
set_option maxHeartbeats 3200000 in
theorem row_1 (hE : Env W0 v m L) {n : Nat} (HX : Meth W0 v m L 104 (.lvl 3) n) (i : Nat) (w : World) (hS : St W0 v m L i w) (hn : L.length < i + n) :
    Calls Tryz.prog 91 #[.pointer (some ⟨W0.heap.size, 0, none⟩), .int .i64 1, .func (.func 104) #[.pointer (some ⟨W0.heap.size, 0, none⟩)] #[]] w (PEnd W0 v m L (.lvl 2) i w) := by
  have hP := hS.own.lt
  have k := Kept.refl (some W0.heap.size) w
  go_enter Tryz.func91, Tryz.ntmps91
  go_wp2_with fail
  have o6 := Own.new w zE 24
  refine (HX i _ (hS.alloc _) (by omega)).mono ?_
  rintro e w1 (⟨x1, j1, tv1, g1, l1, rfl, t1, kk, s1⟩ | ⟨j1, g1, rfl, kk⟩)
  case inr =>
    go_wp2_with fail
    exact bodyPost_panic rfl (.inr ⟨j1, g_lvlBad (by decide) (fun h => absurd h (by decide)) g1, rfl, (k.alloc _).trans kk⟩)
  replace o6 := kk.own o6 (by simp; omega)
  replace k := (k.alloc _).trans kk
  have y1 := kk.size
  (try simp only [alloc_size] at y1)
  (try simp only [alloc_size] at t1)
  clear kk
  obtain ⟨ad1, cap1, rfl, -, -⟩ := t1.shape
  have z1 := s1.own.lt
  go_wp2_with fail
  have o7 := Own.new w1 #[.int .i64 x1.o, .int .i64 x1.n, .slice ad1 x1.ks.length cap1] 24
  have HS : Hid (∀ a, G (.tail 2 x1) (L.drop j1) a → G (.lvl 2) (L.drop i) a) := Lib.hid fun a h => g_lvl (by decide) (fun h => absurd h (by decide)) g1 h
  replace t1 : Tree (fun u => u < w.heap.size + 1 ∨ u = w1.heap.size) w1 x1 _ := t1.bars fun u hu (h : u < _ ∨ u = _) => (by show u < _; omega)
  go_loopw [8] (fun _ wr => ∃ x j ad cap, (∀ a, G (.tail 2 x) (L.drop j) a → G (.lvl 2) (L.drop i) a) ∧ i ≤ j ∧ Own wr w.heap.size [.int .i64 0, .int .i64 0, .slice none 0 0] ∧ Own wr w1.heap.size [.int .i64 x.o, .int .i64 x.n, .slice ad x.ks.length cap] ∧ Tree (fun u => u < w.heap.size + 1 ∨ u = w1.heap.size) wr x (.agg #[.int .i64 x.o, .int .i64 x.n, .slice ad x.ks.length cap]) ∧ Kept (some W0.heap.size) w wr ∧ St W0 v m L j wr) (fun _ wr => L.length - readOf W0.heap.size wr)
  case atStart => exact ⟨x1, j1, ad1, cap1, HS.out, l1, (o6.alloc _), o7, (t1.alloc _), (k.alloc _), (s1.alloc _)⟩
  case round =>
    clear HS t1 o6 o7 k g1 hS s1 z1
    obtain ⟨x1, j1, ad1, cap1, hpre, l1, o6, o7, t1, k, s1⟩ := hrel
    have HS := Lib.hid hpre
    clear hpre
    have z1 := s1.own.lt
    have yr := o7.lt
    by_cases ho : opL 2 (L.drop j1) = 0
    · have hop := opr_none hE 1 (by decide) j1 _ s1 ho
      go_wp2_with fail
      refine hop.mono ?_
      rintro e w2 ⟨rfl, kk, s2⟩
      replace o6 := kk.own o6 (by simp; omega)
      replace o7 := kk.own o7 (by simp; omega)
      replace t1 := t1.keep kk (.inl (by omega))
      replace k := k.trans kk
      have y2 := kk.size
      (try simp only [alloc_size] at y2)
      have HG := HS.out _ (g_end ho)
      clear kk HX HS ho hop
      obtain ⟨b0, b1, b2, b3, b4, b5, b6⟩ := o7.three
      obtain ⟨a0, a1, a2, a3, a4, a5, a6⟩ := o6.three
      go_wp2_with fail
      clear a0 a1 a2 a3 a4 a5 b0 b1 b2 b3 b4 b5
      have T := t1.bars (R := Lo (w.heap.size + 1)) fun u _ (h : u < _) => .inl h
      refine ret_cells (vs := [.int .i64 x1.o, .int .i64 x1.n, .slice ad1 x1.ks.length cap1]) rfl Tryz.underlying24 rfl (by kernel_rfl) (B := w.heap.size) (o6.put3 _ _ _) rfl rfl ?_
      exact .inl ⟨x1, j1, _, HG, by omega, rfl, (T.set3 (by show w.heap.size < _; omega) _ _ _).lo (by omega), k.set3 (by omega) _ _ _, s2.set3 (by omega) _ _ _⟩
    · have hop := opr_some hE 1 (by decide) j1 _ s1 ho
      go_wp2_with fail
      refine hop.mono ?_
      rintro e w2 ⟨rfl, kk, s2⟩
      replace o6 := kk.own o6 (by simp; omega)
      replace o7 := kk.own o7 (by simp; omega)
      replace t1 := t1.keep kk (.inl (by omega))
      replace k := k.trans kk
      have y2 := kk.size
      (try simp only [alloc_size] at y2)
      clear kk hop
      obtain ⟨yx, d1, hlt⟩ := op_cons ho
      have ho2 : opL 2 (yx :: L.drop (j1 + 1)) ≠ 0 := by rw [← d1]; exact ho
      have HO : opL 2 (L.drop j1) = opL 2 (yx :: L.drop (j1 + 1)) := by rw [d1]
      rw [HO]
      clear ho HO
      obtain ⟨b0, b1, b2, b3, b4, b5, b6⟩ := o7.three
      go_wp2_with fail
      go_region_with (first
        | (go_at_call 104
           refine (HX (j1 + 1) _ s2.drew (by omega)).mono ?_
           rintro e w3 (⟨x3, j3, tv3, g3, l3, rfl, t3, kk, s3⟩ | ⟨j3, g3, rfl, kk⟩)
           case inr =>
             go_wp2_with fail
             exact bodyPost_panic rfl (.inr ⟨j3, HS.out _ (G.at d1 (g_moreBad ho2 g3)), rfl, k.drew.trans kk⟩)
           replace o6 := kk.own o6.drew (by simp; omega)
           replace o7 := kk.own o7.drew (by simp; omega)
           replace t1 := t1.drew.keep kk (.inl (by omega))
           replace k := k.drew.trans kk
           have y3 := kk.size
           (try simp only [drew_size] at y3 t3)
           (try simp only [alloc_size] at y3 t3)
           clear kk
           obtain ⟨ad3, cap3, rfl, -, -⟩ := t3.shape
           have z3 := s3.own.lt
           obtain ⟨ro70, ro71, ro72, ro73, ro74, ro75, ro76⟩ := o7.three)
        | (go_at_call 68
           have on := Own.new w3 #[.int .i64 x1.o, .int .i64 x1.n, .slice ad1 x1.ks.length cap1, .int .i64 x3.o, .int .i64 x3.n, .slice ad3 x3.ks.length cap3] 24
           refine (pnode2_any _ _ 2 2 _).mono ?_
           rintro e w4 ⟨rfl, hb⟩
           replace o6 := (o6.alloc _).below hb
           replace o7 := (o7.alloc _).below hb
           replace on := on.below hb
           replace t1 := (t1.alloc _).below hb
           replace t3 := (t3.alloc _).below hb
           replace k := (k.alloc _).later hb
           have y4 := hb.size
           (try simp only [alloc_size] at y4)
           have sn := (s3.alloc _).below hb
           obtain ⟨a0, a1, a2, a3, a4, a5, a6⟩ := o7.three))
      all_goals (
        have T := tree_two (Q := (fun u => u < w.heap.size + 1 ∨ u = w1.heap.size)) (o := ((opL 2 (yx :: L.drop (j1 + 1)) : Nat) : Int)) (by show ¬ (_ ∨ _); omega) on t1 (t3.bars fun u _ (h : u < _ ∨ u = _) => (by show u < _; omega)) 2
        have HS2 : Hid (∀ a, G (.tail 2 (nodeE ((opL 2 (yx :: L.drop (j1 + 1)) : Nat) : Int) [x1, x3])) (L.drop j3) a → G (.lvl 2) (L.drop i) a) := Lib.hid fun a h => HS.out _ (G.at d1 (g_more ho2 (by decide) g3 h))
        go_wp2_with fail
        clear a0 a1 a2 a3 a4 a5
        go_roundw
        case rel => exact ⟨nodeE ((opL 2 (yx :: L.drop (j1 + 1)) : Nat) : Int) [x1, x3], j3, _, _, HS2.out, by omega, o6.off3 (by omega) _ _ _, o7.put3 _ _ _, T.set3 (.inr rfl) _ _ _, k.set3 (by omega) _ _ _, sn.set3 (by omega) _ _ _⟩
        case measure => rw [s1.read, (sn.set3 (B := w1.heap.size) (by omega) _ _ _).read]; omega)
set_option maxHeartbeats 3200000 in
theorem row_3 (hE : Env W0 v m L) {n : Nat} (HX : Meth W0 v m L 140 (.lvl 5) n) (i : Nat) (w : World) (hS : St W0 v m L i w) (hn : L.length < i + n) :
    Calls Tryz.prog 91 #[.pointer (some ⟨W0.heap.size, 0, none⟩), .int .i64 3, .func (.func 140) #[.pointer (some ⟨W0.heap.size, 0, none⟩)] #[]] w (PEnd W0 v m L (.lvl 4) i w) := by
  have hP := hS.own.lt
  have k := Kept.refl (some W0.heap.size) w
  go_enter Tryz.func91, Tryz.ntmps91
  go_wp2_with fail
  have o6 := Own.new w zE 24
  refine (HX i _ (hS.alloc _) (by omega)).mono ?_
  rintro e w1 (⟨x1, j1, tv1, g1, l1, rfl, t1, kk, s1⟩ | ⟨j1, g1, rfl, kk⟩)
  case inr =>
    go_wp2_with fail
    exact bodyPost_panic rfl (.inr ⟨j1, g_lvlBad (by decide) (fun h => absurd h (by decide)) g1, rfl, (k.alloc _).trans kk⟩)
  replace o6 := kk.own o6 (by simp; omega)
  replace k := (k.alloc _).trans kk
  have y1 := kk.size
  (try simp only [alloc_size] at y1)
  (try simp only [alloc_size] at t1)
  clear kk
  obtain ⟨ad1, cap1, rfl, -, -⟩ := t1.shape
  have z1 := s1.own.lt
  go_wp2_with fail
  have o7 := Own.new w1 #[.int .i64 x1.o, .int .i64 x1.n, .slice ad1 x1.ks.length cap1] 24
  have HS : Hid (∀ a, G (.tail 4 x1) (L.drop j1) a → G (.lvl 4) (L.drop i) a) := Lib.hid fun a h => g_lvl (by decide) (fun h => absurd h (by decide)) g1 h
  replace t1 : Tree (fun u => u < w.heap.size + 1 ∨ u = w1.heap.size) w1 x1 _ := t1.bars fun u hu (h : u < _ ∨ u = _) => (by show u < _; omega)
  go_loopw [8] (fun _ wr => ∃ x j ad cap, (∀ a, G (.tail 4 x) (L.drop j) a → G (.lvl 4) (L.drop i) a) ∧ i ≤ j ∧ Own wr w.heap.size [.int .i64 0, .int .i64 0, .slice none 0 0] ∧ Own wr w1.heap.size [.int .i64 x.o, .int .i64 x.n, .slice ad x.ks.length cap] ∧ Tree (fun u => u < w.heap.size + 1 ∨ u = w1.heap.size) wr x (.agg #[.int .i64 x.o, .int .i64 x.n, .slice ad x.ks.length cap]) ∧ Kept (some W0.heap.size) w wr ∧ St W0 v m L j wr) (fun _ wr => L.length - readOf W0.heap.size wr)
  case atStart => exact ⟨x1, j1, ad1, cap1, HS.out, l1, (o6.alloc _), o7, (t1.alloc _), (k.alloc _), (s1.alloc _)⟩
  case round =>
    clear HS t1 o6 o7 k g1 hS s1 z1
    obtain ⟨x1, j1, ad1, cap1, hpre, l1, o6, o7, t1, k, s1⟩ := hrel
    have HS := Lib.hid hpre
    clear hpre
    have z1 := s1.own.lt
    have yr := o7.lt
    by_cases ho : opL 4 (L.drop j1) = 0
    · have hop := opr_none hE 3 (by decide) j1 _ s1 ho
      go_wp2_with fail
      refine hop.mono ?_
      rintro e w2 ⟨rfl, kk, s2⟩
      replace o6 := kk.own o6 (by simp; omega)
      replace o7 := kk.own o7 (by simp; omega)
      replace t1 := t1.keep kk (.inl (by omega))
      replace k := k.trans kk
      have y2 := kk.size
      (try simp only [alloc_size] at y2)
      have HG := HS.out _ (g_end ho)
      clear kk HX HS ho hop
      obtain ⟨b0, b1, b2, b3, b4, b5, b6⟩ := o7.three
      obtain ⟨a0, a1, a2, a3, a4, a5, a6⟩ := o6.three
      go_wp2_with fail
      clear a0 a1 a2 a3 a4 a5 b0 b1 b2 b3 b4 b5
      have T := t1.bars (R := Lo (w.heap.size + 1)) fun u _ (h : u < _) => .inl h
      refine ret_cells (vs := [.int .i64 x1.o, .int .i64 x1.n, .slice ad1 x1.ks.length cap1]) rfl Tryz.underlying24 rfl (by kernel_rfl) (B := w.heap.size) (o6.put3 _ _ _) rfl rfl ?_
      exact .inl ⟨x1, j1, _, HG, by omega, rfl, (T.set3 (by show w.heap.size < _; omega) _ _ _).lo (by omega), k.set3 (by omega) _ _ _, s2.set3 (by omega) _ _ _⟩
    · have hop := opr_some hE 3 (by decide) j1 _ s1 ho
      go_wp2_with fail
      refine hop.mono ?_
      rintro e w2 ⟨rfl, kk, s2⟩
      replace o6 := kk.own o6 (by simp; omega)
      replace o7 := kk.own o7 (by simp; omega)
      replace t1 := t1.keep kk (.inl (by omega))
      replace k := k.trans kk
      have y2 := kk.size
      (try simp only [alloc_size] at y2)
      clear kk hop
      obtain ⟨yx, d1, hlt⟩ := op_cons ho
      have ho2 : opL 4 (yx :: L.drop (j1 + 1)) ≠ 0 := by rw [← d1]; exact ho
      have HO : opL 4 (L.drop j1) = opL 4 (yx :: L.drop (j1 + 1)) := by rw [d1]
      rw [HO]
      clear ho HO
      obtain ⟨b0, b1, b2, b3, b4, b5, b6⟩ := o7.three
      go_wp2_with fail
      go_region_with (first
        | (go_at_call 140
           refine (HX (j1 + 1) _ s2.drew (by omega)).mono ?_
           rintro e w3 (⟨x3, j3, tv3, g3, l3, rfl, t3, kk, s3⟩ | ⟨j3, g3, rfl, kk⟩)
           case inr =>
             go_wp2_with fail
             exact bodyPost_panic rfl (.inr ⟨j3, HS.out _ (G.at d1 (g_moreBad ho2 g3)), rfl, k.drew.trans kk⟩)
           replace o6 := kk.own o6.drew (by simp; omega)
           replace o7 := kk.own o7.drew (by simp; omega)
           replace t1 := t1.drew.keep kk (.inl (by omega))
           replace k := k.drew.trans kk
           have y3 := kk.size
           (try simp only [drew_size] at y3 t3)
           (try simp only [alloc_size] at y3 t3)
           clear kk
           obtain ⟨ad3, cap3, rfl, -, -⟩ := t3.shape
           have z3 := s3.own.lt
           obtain ⟨ro70, ro71, ro72, ro73, ro74, ro75, ro76⟩ := o7.three)
        | (go_at_call 68
           have on := Own.new w3 #[.int .i64 x1.o, .int .i64 x1.n, .slice ad1 x1.ks.length cap1, .int .i64 x3.o, .int .i64 x3.n, .slice ad3 x3.ks.length cap3] 24
           refine (pnode2_any _ _ 2 2 _).mono ?_
           rintro e w4 ⟨rfl, hb⟩
           replace o6 := (o6.alloc _).below hb
           replace o7 := (o7.alloc _).below hb
           replace on := on.below hb
           replace t1 := (t1.alloc _).below hb
           replace t3 := (t3.alloc _).below hb
           replace k := (k.alloc _).later hb
           have y4 := hb.size
           (try simp only [alloc_size] at y4)
           have sn := (s3.alloc _).below hb
           obtain ⟨a0, a1, a2, a3, a4, a5, a6⟩ := o7.three))
      all_goals (
        have T := tree_two (Q := (fun u => u < w.heap.size + 1 ∨ u = w1.heap.size)) (o := ((opL 4 (yx :: L.drop (j1 + 1)) : Nat) : Int)) (by show ¬ (_ ∨ _); omega) on t1 (t3.bars fun u _ (h : u < _ ∨ u = _) => (by show u < _; omega)) 2
        have HS2 : Hid (∀ a, G (.tail 4 (nodeE ((opL 4 (yx :: L.drop (j1 + 1)) : Nat) : Int) [x1, x3])) (L.drop j3) a → G (.lvl 4) (L.drop i) a) := Lib.hid fun a h => HS.out _ (G.at d1 (g_more ho2 (by decide) g3 h))
        go_wp2_with fail
        clear a0 a1 a2 a3 a4 a5
        go_roundw
        case rel => exact ⟨nodeE ((opL 4 (yx :: L.drop (j1 + 1)) : Nat) : Int) [x1, x3], j3, _, _, HS2.out, by omega, o6.off3 (by omega) _ _ _, o7.put3 _ _ _, T.set3 (.inr rfl) _ _ _, k.set3 (by omega) _ _ _, sn.set3 (by omega) _ _ _⟩
        case measure => rw [s1.read, (sn.set3 (B := w1.heap.size) (by omega) _ _ _).read]; omega)
set_option maxHeartbeats 3200000 in
theorem row_4 (hE : Env W0 v m L) {n : Nat} (HX : Meth W0 v m L 146 (.lvl 6) n) (i : Nat) (w : World) (hS : St W0 v m L i w) (hn : L.length < i + n) :
    Calls Tryz.prog 91 #[.pointer (some ⟨W0.heap.size, 0, none⟩), .int .i64 4, .func (.func 146) #[.pointer (some ⟨W0.heap.size, 0, none⟩)] #[]] w (PEnd W0 v m L (.lvl 5) i w) := by
  have hP := hS.own.lt
  have k := Kept.refl (some W0.heap.size) w
  go_enter Tryz.func91, Tryz.ntmps91
  go_wp2_with fail
  have o6 := Own.new w zE 24
  refine (HX i _ (hS.alloc _) (by omega)).mono ?_
  rintro e w1 (⟨x1, j1, tv1, g1, l1, rfl, t1, kk, s1⟩ | ⟨j1, g1, rfl, kk⟩)
  case inr =>
    go_wp2_with fail
    exact bodyPost_panic rfl (.inr ⟨j1, g_lvlBad (by decide) (fun h => absurd h (by decide)) g1, rfl, (k.alloc _).trans kk⟩)
  replace o6 := kk.own o6 (by simp; omega)
  replace k := (k.alloc _).trans kk
  have y1 := kk.size
  (try simp only [alloc_size] at y1)
  (try simp only [alloc_size] at t1)
  clear kk
  obtain ⟨ad1, cap1, rfl, -, -⟩ := t1.shape
  have z1 := s1.own.lt
  go_wp2_with fail
  have o7 := Own.new w1 #[.int .i64 x1.o, .int .i64 x1.n, .slice ad1 x1.ks.length cap1] 24
  have HS : Hid (∀ a, G (.tail 5 x1) (L.drop j1) a → G (.lvl 5) (L.drop i) a) := Lib.hid fun a h => g_lvl (by decide) (fun h => absurd h (by decide)) g1 h
  replace t1 : Tree (fun u => u < w.heap.size + 1 ∨ u = w1.heap.size) w1 x1 _ := t1.bars fun u hu (h : u < _ ∨ u = _) => (by show u < _; omega)
  go_loopw [8] (fun _ wr => ∃ x j ad cap, (∀ a, G (.tail 5 x) (L.drop j) a → G (.lvl 5) (L.drop i) a) ∧ i ≤ j ∧ Own wr w.heap.size [.int .i64 0, .int .i64 0, .slice none 0 0] ∧ Own wr w1.heap.size [.int .i64 x.o, .int .i64 x.n, .slice ad x.ks.length cap] ∧ Tree (fun u => u < w.heap.size + 1 ∨ u = w1.heap.size) wr x (.agg #[.int .i64 x.o, .int .i64 x.n, .slice ad x.ks.length cap]) ∧ Kept (some W0.heap.size) w wr ∧ St W0 v m L j wr) (fun _ wr => L.length - readOf W0.heap.size wr)
  case atStart => exact ⟨x1, j1, ad1, cap1, HS.out, l1, (o6.alloc _), o7, (t1.alloc _), (k.alloc _), (s1.alloc _)⟩
  case round =>
    clear HS t1 o6 o7 k g1 hS s1 z1
    obtain ⟨x1, j1, ad1, cap1, hpre, l1, o6, o7, t1, k, s1⟩ := hrel
    have HS := Lib.hid hpre
    clear hpre
    have z1 := s1.own.lt
    have yr := o7.lt
    by_cases ho : opL 5 (L.drop j1) = 0
    · have hop := opr_none hE 4 (by decide) j1 _ s1 ho
      go_wp2_with fail
      refine hop.mono ?_
      rintro e w2 ⟨rfl, kk, s2⟩
      replace o6 := kk.own o6 (by simp; omega)
      replace o7 := kk.own o7 (by simp; omega)
      replace t1 := t1.keep kk (.inl (by omega))
      replace k := k.trans kk
      have y2 := kk.size
      (try simp only [alloc_size] at y2)
      have HG := HS.out _ (g_end ho)
      clear kk HX HS ho hop
      obtain ⟨b0, b1, b2, b3, b4, b5, b6⟩ := o7.three
      obtain ⟨a0, a1, a2, a3, a4, a5, a6⟩ := o6.three
      go_wp2_with fail
      clear a0 a1 a2 a3 a4 a5 b0 b1 b2 b3 b4 b5
      have T := t1.bars (R := Lo (w.heap.size + 1)) fun u _ (h : u < _) => .inl h
      refine ret_cells (vs := [.int .i64 x1.o, .int .i64 x1.n, .slice ad1 x1.ks.length cap1]) rfl Tryz.underlying24 rfl (by kernel_rfl) (B := w.heap.size) (o6.put3 _ _ _) rfl rfl ?_
      exact .inl ⟨x1, j1, _, HG, by omega, rfl, (T.set3 (by show w.heap.size < _; omega) _ _ _).lo (by omega), k.set3 (by omega) _ _ _, s2.set3 (by omega) _ _ _⟩
    · have hop := opr_some hE 4 (by decide) j1 _ s1 ho
      go_wp2_with fail
      refine hop.mono ?_
      rintro e w2 ⟨rfl, kk, s2⟩
      replace o6 := kk.own o6 (by simp; omega)
      replace o7 := kk.own o7 (by simp; omega)
      replace t1 := t1.keep kk (.inl (by omega))
      replace k := k.trans kk
      have y2 := kk.size
      (try simp only [alloc_size] at y2)
      clear kk hop
      obtain ⟨yx, d1, hlt⟩ := op_cons ho
      have ho2 : opL 5 (yx :: L.drop (j1 + 1)) ≠ 0 := by rw [← d1]; exact ho
      have HO : opL 5 (L.drop j1) = opL 5 (yx :: L.drop (j1 + 1)) := by rw [d1]
      rw [HO]
      clear ho HO
      obtain ⟨b0, b1, b2, b3, b4, b5, b6⟩ := o7.three
      go_wp2_with fail
      go_region_with (first
        | (go_at_call 146
           refine (HX (j1 + 1) _ s2.drew (by omega)).mono ?_
           rintro e w3 (⟨x3, j3, tv3, g3, l3, rfl, t3, kk, s3⟩ | ⟨j3, g3, rfl, kk⟩)
           case inr =>
             go_wp2_with fail
             exact bodyPost_panic rfl (.inr ⟨j3, HS.out _ (G.at d1 (g_moreBad ho2 g3)), rfl, k.drew.trans kk⟩)
           replace o6 := kk.own o6.drew (by simp; omega)
           replace o7 := kk.own o7.drew (by simp; omega)
           replace t1 := t1.drew.keep kk (.inl (by omega))
           replace k := k.drew.trans kk
           have y3 := kk.size
           (try simp only [drew_size] at y3 t3)
           (try simp only [alloc_size] at y3 t3)
           clear kk
           obtain ⟨ad3, cap3, rfl, -, -⟩ := t3.shape
           have z3 := s3.own.lt
           obtain ⟨ro70, ro71, ro72, ro73, ro74, ro75, ro76⟩ := o7.three)
        | (go_at_call 68
           have on := Own.new w3 #[.int .i64 x1.o, .int .i64 x1.n, .slice ad1 x1.ks.length cap1, .int .i64 x3.o, .int .i64 x3.n, .slice ad3 x3.ks.length cap3] 24
           refine (pnode2_any _ _ 2 2 _).mono ?_
           rintro e w4 ⟨rfl, hb⟩
           replace o6 := (o6.alloc _).below hb
           replace o7 := (o7.alloc _).below hb
           replace on := on.below hb
           replace t1 := (t1.alloc _).below hb
           replace t3 := (t3.alloc _).below hb
           replace k := (k.alloc _).later hb
           have y4 := hb.size
           (try simp only [alloc_size] at y4)
           have sn := (s3.alloc _).below hb
           obtain ⟨a0, a1, a2, a3, a4, a5, a6⟩ := o7.three))
      all_goals (
        have T := tree_two (Q := (fun u => u < w.heap.size + 1 ∨ u = w1.heap.size)) (o := ((opL 5 (yx :: L.drop (j1 + 1)) : Nat) : Int)) (by show ¬ (_ ∨ _); omega) on t1 (t3.bars fun u _ (h : u < _ ∨ u = _) => (by show u < _; omega)) 2
        have HS2 : Hid (∀ a, G (.tail 5 (nodeE ((opL 5 (yx :: L.drop (j1 + 1)) : Nat) : Int) [x1, x3])) (L.drop j3) a → G (.lvl 5) (L.drop i) a) := Lib.hid fun a h => HS.out _ (G.at d1 (g_more ho2 (by decide) g3 h))
        go_wp2_with fail
        clear a0 a1 a2 a3 a4 a5
        go_roundw
        case rel => exact ⟨nodeE ((opL 5 (yx :: L.drop (j1 + 1)) : Nat) : Int) [x1, x3], j3, _, _, HS2.out, by omega, o6.off3 (by omega) _ _ _, o7.put3 _ _ _, T.set3 (.inr rfl) _ _ _, k.set3 (by omega) _ _ _, sn.set3 (by omega) _ _ _⟩
        case measure => rw [s1.read, (sn.set3 (B := w1.heap.size) (by omega) _ _ _).read]; omega)
end Go.Proofs.YthnlenbfknbmcaaGreatDoor
