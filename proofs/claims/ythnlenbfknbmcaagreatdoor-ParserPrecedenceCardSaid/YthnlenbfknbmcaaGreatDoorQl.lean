/-
  All methods together.
-/
import Derived.Test.YthnlenbfknbmcaaGreatDoorQk
namespace Go.Proofs.YthnlenbfknbmcaaGreatDoor
open Go.RowKit Go.Shelf
set_option maxRecDepth 100000
variable {W0 : World} {v : Value} {m : Nat} {L : List Tok}
set_option maxHeartbeats 800000 in
theorem product_any (hE : Env W0 v m L) {n : Nat} (HX : Meth W0 v m L 146 (.lvl 6) n) : Meth W0 v m L 140 (.lvl 5) n := by
  intro i w hS hn
  have hP := hS.own.lt
  have hmf : ∀ (fn : Fn) (first cap : Array Value) (w : World), (Instr.makeFunc fn first cap).run Tryz.prog w = .ok (.func fn first cap) w := fun _ _ _ _ => rfl
  have k := Kept.refl (some W0.heap.size) w
  go_enter Tryz.func140, Tryz.ntmps140
  go_wp2_with fail
  have o2 := Own.new w zE 24
  refine (row_4 hE HX i _ (hS.alloc _) (by omega)).mono ?_
  rintro e w1 (⟨x1, j1, tv1, g1, l1, rfl, t1, kk, s1⟩ | ⟨j1, g1, rfl, kk⟩)
  case inr =>
    go_wp2_with fail
    exact bodyPost_panic rfl (.inr ⟨j1, g1, rfl, (k.alloc _).trans kk⟩)
  replace o2 := kk.own o2 (by simp; omega)
  replace k := (k.alloc _).trans kk
  have y1 := kk.size
  (try simp only [alloc_size] at y1)
  (try simp only [alloc_size] at t1)
  clear kk
  obtain ⟨ad1, cap1, rfl, -, -⟩ := t1.shape
  have z1 := s1.own.lt
  obtain ⟨a0, a1, a2, a3, a4, a5, a6⟩ := o2.three
  go_wp2_with fail
  clear a0 a1 a2 a3 a4 a5
  refine ret_cells (vs := [.int .i64 x1.o, .int .i64 x1.n, .slice ad1 x1.ks.length cap1]) rfl Tryz.underlying24 rfl (by kernel_rfl) (B := w.heap.size) (o2.put3 _ _ _) rfl rfl ?_
  exact .inl ⟨x1, j1, _, g1, by omega, rfl, (t1.set3 (by show w.heap.size < _; omega) _ _ _).lo (by omega), k.set3 (by omega) _ _ _, s1.set3 (by omega) _ _ _⟩
set_option maxHeartbeats 800000 in
theorem sum_any (hE : Env W0 v m L) {n : Nat} (HX : Meth W0 v m L 140 (.lvl 5) n) : Meth W0 v m L 128 (.lvl 4) n := by
  intro i w hS hn
  have hP := hS.own.lt
  have hmf : ∀ (fn : Fn) (first cap : Array Value) (w : World), (Instr.makeFunc fn first cap).run Tryz.prog w = .ok (.func fn first cap) w := fun _ _ _ _ => rfl
  have k := Kept.refl (some W0.heap.size) w
  go_enter Tryz.func128, Tryz.ntmps128
  go_wp2_with fail
  have o2 := Own.new w zE 24
  refine (row_3 hE HX i _ (hS.alloc _) (by omega)).mono ?_
  rintro e w1 (⟨x1, j1, tv1, g1, l1, rfl, t1, kk, s1⟩ | ⟨j1, g1, rfl, kk⟩)
  case inr =>
    go_wp2_with fail
    exact bodyPost_panic rfl (.inr ⟨j1, g1, rfl, (k.alloc _).trans kk⟩)
  replace o2 := kk.own o2 (by simp; omega)
  replace k := (k.alloc _).trans kk
  have y1 := kk.size
  (try simp only [alloc_size] at y1)
  (try simp only [alloc_size] at t1)
  clear kk
  obtain ⟨ad1, cap1, rfl, -, -⟩ := t1.shape
  have z1 := s1.own.lt
  obtain ⟨a0, a1, a2, a3, a4, a5, a6⟩ := o2.three
  go_wp2_with fail
  clear a0 a1 a2 a3 a4 a5
  refine ret_cells (vs := [.int .i64 x1.o, .int .i64 x1.n, .slice ad1 x1.ks.length cap1]) rfl Tryz.underlying24 rfl (by kernel_rfl) (B := w.heap.size) (o2.put3 _ _ _) rfl rfl ?_
  exact .inl ⟨x1, j1, _, g1, by omega, rfl, (t1.set3 (by show w.heap.size < _; omega) _ _ _).lo (by omega), k.set3 (by omega) _ _ _, s1.set3 (by omega) _ _ _⟩
set_option maxHeartbeats 800000 in
theorem all_any (hE : Env W0 v m L) {n : Nat} (HX : Meth W0 v m L 104 (.lvl 3) n) : Meth W0 v m L 92 (.lvl 2) n := by
  intro i w hS hn
  have hP := hS.own.lt
  have hmf : ∀ (fn : Fn) (first cap : Array Value) (w : World), (Instr.makeFunc fn first cap).run Tryz.prog w = .ok (.func fn first cap) w := fun _ _ _ _ => rfl
  have k := Kept.refl (some W0.heap.size) w
  go_enter Tryz.func92, Tryz.ntmps92
  go_wp2_with fail
  have o2 := Own.new w zE 24
  refine (row_1 hE HX i _ (hS.alloc _) (by omega)).mono ?_
  rintro e w1 (⟨x1, j1, tv1, g1, l1, rfl, t1, kk, s1⟩ | ⟨j1, g1, rfl, kk⟩)
  case inr =>
    go_wp2_with fail
    exact bodyPost_panic rfl (.inr ⟨j1, g1, rfl, (k.alloc _).trans kk⟩)
  replace o2 := kk.own o2 (by simp; omega)
  replace k := (k.alloc _).trans kk
  have y1 := kk.size
  (try simp only [alloc_size] at y1)
  (try simp only [alloc_size] at t1)
  clear kk
  obtain ⟨ad1, cap1, rfl, -, -⟩ := t1.shape
  have z1 := s1.own.lt
  obtain ⟨a0, a1, a2, a3, a4, a5, a6⟩ := o2.three
  go_wp2_with fail
  clear a0 a1 a2 a3 a4 a5
  refine ret_cells (vs := [.int .i64 x1.o, .int .i64 x1.n, .slice ad1 x1.ks.length cap1]) rfl Tryz.underlying24 rfl (by kernel_rfl) (B := w.heap.size) (o2.put3 _ _ _) rfl rfl ?_
  exact .inl ⟨x1, j1, _, g1, by omega, rfl, (t1.set3 (by show w.heap.size < _; omega) _ _ _).lo (by omega), k.set3 (by omega) _ _ _, s1.set3 (by omega) _ _ _⟩
set_option maxHeartbeats 800000 in
theorem any_any (hE : Env W0 v m L) {n : Nat} (HX : Meth W0 v m L 92 (.lvl 2) n) : Meth W0 v m L 67 (.lvl 1) n := by
  intro i w hS hn
  have hP := hS.own.lt
  have hmf : ∀ (fn : Fn) (first cap : Array Value) (w : World), (Instr.makeFunc fn first cap).run Tryz.prog w = .ok (.func fn first cap) w := fun _ _ _ _ => rfl
  have k := Kept.refl (some W0.heap.size) w
  go_enter Tryz.func67, Tryz.ntmps67
  go_wp2_with fail
  have o2 := Own.new w zE 24
  refine (row_0 hE HX i _ (hS.alloc _) (by omega)).mono ?_
  rintro e w1 (⟨x1, j1, tv1, g1, l1, rfl, t1, kk, s1⟩ | ⟨j1, g1, rfl, kk⟩)
  case inr =>
    go_wp2_with fail
    exact bodyPost_panic rfl (.inr ⟨j1, g1, rfl, (k.alloc _).trans kk⟩)
  replace o2 := kk.own o2 (by simp; omega)
  replace k := (k.alloc _).trans kk
  have y1 := kk.size
  (try simp only [alloc_size] at y1)
  (try simp only [alloc_size] at t1)
  clear kk
  obtain ⟨ad1, cap1, rfl, -, -⟩ := t1.shape
  have z1 := s1.own.lt
  obtain ⟨a0, a1, a2, a3, a4, a5, a6⟩ := o2.three
  go_wp2_with fail
  clear a0 a1 a2 a3 a4 a5
  refine ret_cells (vs := [.int .i64 x1.o, .int .i64 x1.n, .slice ad1 x1.ks.length cap1]) rfl Tryz.underlying24 rfl (by kernel_rfl) (B := w.heap.size) (o2.put3 _ _ _) rfl rfl ?_
  exact .inl ⟨x1, j1, _, g1, by omega, rfl, (t1.set3 (by show w.heap.size < _; omega) _ _ _).lo (by omega), k.set3 (by omega) _ _ _, s1.set3 (by omega) _ _ _⟩
set_option maxHeartbeats 1600000 in
theorem none_at (hE : Env W0 v m L) (i : Nat) (w : World) (hS : St W0 v m L i w) (HN : ∀ w', St W0 v m L (i + 1) w' → Calls Tryz.prog 104 #[.pointer (some ⟨W0.heap.size, 0, none⟩)] w' (PEnd W0 v m L (.lvl 3) (i + 1) w'))
    (HC : isT wNot (L.drop i) = false → ∀ w', St W0 v m L i w' → Calls Tryz.prog 111 #[.pointer (some ⟨W0.heap.size, 0, none⟩)] w' (PEnd W0 v m L (.lvl 3) i w')) : Calls Tryz.prog 104 #[.pointer (some ⟨W0.heap.size, 0, none⟩)] w (PEnd W0 v m L (.lvl 3) i w) := by
  have hP := hS.own.lt
  have his : ∀ w', St W0 v m L i w' → Calls Tryz.prog 66 #[.pointer (some ⟨W0.heap.size, 0, none⟩), .string ⟨#[110, 111, 116]⟩] w' (IsEnd W0 v m L i (isT wNot (L.drop i)) w') := fun w' h => is_any hE wNot (by decide) i w' h
  cases hq : isT wNot (L.drop i) with
  | true =>
    rw [hq] at his
    obtain ⟨y, d1, e1⟩ := need_cons hq
    clear HC hq
    have k := Kept.refl (some W0.heap.size) w
    go_enter Tryz.func104, Tryz.ntmps104
    go_wp2_with fail
    have o2 := Own.new w zE 24
    refine (his _ (hS.alloc _)).mono ?_
    rintro e w1 ⟨rfl, kk, s1⟩
    replace o2 := kk.own o2 (by simp; omega)
    replace k := (k.alloc _).trans kk
    have y1 := kk.size
    (try simp only [alloc_size] at y1)
    clear kk
    simp only [if_true] at s1
    go_wp2_with fail
    have HN2 := fun (w3 : World) (h : St W0 v m L (i + 1) w3) => HN w3 h
    refine (HN _ s1).mono ?_
    rintro e w2 (⟨x2, j2, tv2, g2, l2, rfl, t2, kk, s2⟩ | ⟨j2, g2, rfl, kk⟩)
    case inr =>
      go_wp2_with fail
      exact bodyPost_panic rfl (.inr ⟨j2, G.at d1 (g_notBad e1 g2), rfl, k.trans kk⟩)
    replace o2 := kk.own o2 (by simp; omega)
    replace k := k.trans kk
    have y2 := kk.size
    (try simp only [alloc_size] at y2)
    clear kk HN2
    obtain ⟨ad2, cap2, rfl, -, -⟩ := t2.shape
    have z2 := s2.own.lt
    go_wp2_with fail
    have on := Own.new w2 #[.int .i64 x2.o, .int .i64 x2.n, .slice ad2 x2.ks.length cap2] 24
    refine (pnode2_any 15 _ 1 1 _).mono ?_
    rintro e w3 ⟨rfl, hb⟩
    replace o2 := (o2.alloc _).below hb
    replace on := on.below hb
    replace t2 := (t2.alloc _).below hb
    replace k := (k.alloc _).later hb
    have y3 := hb.size
    (try simp only [alloc_size] at y3)
    have sn := (s2.alloc _).below hb
    have T := tree_one (Q := Lo (w.heap.size + 1)) (o := 15) (by show ¬ (_ < _); omega) on (t2.bars fun u _ (h : u < _) => (by show u < _; omega)) 1
    clear on hb
    obtain ⟨a0, a1, a2, a3, a4, a5, a6⟩ := o2.three
    go_wp2_with fail
    clear a0 a1 a2 a3 a4 a5
    refine ret_cells (vs := [.int .i64 15, .int .i64 0, _]) rfl Tryz.underlying24 rfl (by kernel_rfl) (B := w.heap.size) (o2.put3 _ _ _) rfl rfl ?_
    exact .inl ⟨nodeE 15 [x2], j2, _, G.at d1 (g_not e1 g2), by omega, rfl, (T.set3 (by show w.heap.size < _; omega) _ _ _).lo (by omega), k.set3 (by omega) _ _ _, sn.set3 (by omega) _ _ _⟩
  | false =>
    rw [hq] at his
    have hC := HC hq
    clear HC HN
    have k := Kept.refl (some W0.heap.size) w
    go_enter Tryz.func104, Tryz.ntmps104
    go_wp2_with fail
    have o2 := Own.new w zE 24
    refine (his _ (hS.alloc _)).mono ?_
    rintro e w1 ⟨rfl, kk, s1⟩
    replace o2 := kk.own o2 (by simp; omega)
    replace k := (k.alloc _).trans kk
    have y1 := kk.size
    (try simp only [alloc_size] at y1)
    clear kk
    simp only [Bool.false_eq_true, if_false] at s1
    go_wp2_with fail
    refine (hC _ s1).mono ?_
    rintro e w2 (⟨x2, j2, tv2, g2, l2, rfl, t2, kk, s2⟩ | ⟨j2, g2, rfl, kk⟩)
    case inr =>
      go_wp2_with fail
      exact bodyPost_panic rfl (.inr ⟨j2, g2, rfl, k.trans kk⟩)
    replace o2 := kk.own o2 (by simp; omega)
    replace k := k.trans kk
    have y2 := kk.size
    (try simp only [alloc_size] at y2)
    clear kk
    obtain ⟨ad2, cap2, rfl, -, -⟩ := t2.shape
    have z2 := s2.own.lt
    obtain ⟨a0, a1, a2, a3, a4, a5, a6⟩ := o2.three
    go_wp2_with fail
    clear a0 a1 a2 a3 a4 a5
    refine ret_cells (vs := [.int .i64 x2.o, .int .i64 x2.n, .slice ad2 x2.ks.length cap2]) rfl Tryz.underlying24 rfl (by kernel_rfl) (B := w.heap.size) (o2.put3 _ _ _) rfl rfl ?_
    exact .inl ⟨x2, j2, _, g2, by omega, rfl, (t2.set3 (by show w.heap.size < _; omega) _ _ _).lo (by omega), k.set3 (by omega) _ _ _, s2.set3 (by omega) _ _ _⟩
end Go.Proofs.YthnlenbfknbmcaaGreatDoor
namespace Go.Proofs.YthnlenbfknbmcaaGreatDoor
open Go.RowKit Go.Shelf
set_option maxRecDepth 100000
variable {W0 : World} {v : Value} {m : Nat} {L : List Tok}
set_option maxHeartbeats 3200000 in
theorem expression_at (hE : Env W0 v m L) {n : Nat} (HX : Meth W0 v m L 43 .expr n) (i : Nat) (w : World) (hS : St W0 v m L i w) (hn : L.length < i + (n + 1))
    (HA : isT wIf (L.drop i) = false → ∀ w', St W0 v m L i w' → Calls Tryz.prog 67 #[.pointer (some ⟨W0.heap.size, 0, none⟩)] w' (PEnd W0 v m L (.lvl 1) i w')) : Calls Tryz.prog 43 #[.pointer (some ⟨W0.heap.size, 0, none⟩)] w (PEnd W0 v m L .expr i w) := by
  have hP := hS.own.lt
  have his : ∀ w', St W0 v m L i w' → Calls Tryz.prog 66 #[.pointer (some ⟨W0.heap.size, 0, none⟩), .string ⟨#[105, 102]⟩] w' (IsEnd W0 v m L i (isT wIf (L.drop i)) w') := fun w' h => is_any hE wIf (by decide) i w' h
  cases hq : isT wIf (L.drop i) with
  | true =>
    rw [hq] at his
    obtain ⟨y, d1, e1⟩ := need_cons hq
    clear HA hq
    have k := Kept.refl (some W0.heap.size) w
    go_enter Tryz.func43, Tryz.ntmps43
    go_wp2_with fail
    have o2 := Own.new w zE 24
    refine (his _ (hS.alloc _)).mono ?_
    rintro e w1 ⟨rfl, kk, s1⟩
    replace o2 := kk.own o2 (by simp; omega)
    replace k := (k.alloc _).trans kk
    have y1 := kk.size
    (try simp only [alloc_size] at y1)
    clear kk
    simp only [if_true] at s1
    go_wp2_with fail
    refine (HX (i + 1) _ s1 (by omega)).mono ?_
    rintro e w2 (⟨x2, j2, tv2, g2, l2, rfl, t2, kk, s2⟩ | ⟨j2, g2, rfl, kk⟩)
    case inr =>
      go_wp2_with fail
      exact bodyPost_panic rfl (.inr ⟨j2, G.at d1 (g_ifBad e1 (g_exBad g2)), rfl, k.trans kk⟩)
    replace o2 := kk.own o2 (by simp; omega)
    replace k := k.trans kk
    have y2 := kk.size
    (try simp only [alloc_size] at y2)
    (try simp only [alloc_size] at t2)
    clear kk
    obtain ⟨ad2, cap2, rfl, -, -⟩ := t2.shape
    have z2 := s2.own.lt
    go_wp2_with fail
    have o3 := Own.new w2 #[.int .i64 x2.o, .int .i64 x2.n, .slice ad2 x2.ks.length cap2] 24
    refine (need_any (t := wThen) hE (by decide) j2 _ (s2.alloc _)).mono ?_
    rintro e w3 (⟨q3, rfl, kk, s3⟩ | ⟨q3, rfl, kk⟩)
    case inr =>
      go_wp2_with fail
      exact bodyPost_panic rfl (.inr ⟨j2, G.at d1 (g_ifBad e1 (g_exLater g2 (g_litBad q3))), rfl, (k.alloc _).trans kk⟩)
    obtain ⟨y3t, d3, e3⟩ := need_cons q3
    replace o2 := kk.own (o2.alloc _) (by simp; omega)
    replace o3 := kk.own o3 (by simp; omega)
    replace t2 := (t2.alloc _).keep kk (by show W0.heap.size < _; (try simp only [alloc_size]); omega)
    replace k := (k.alloc _).trans kk
    have y3 := kk.size
    (try simp only [alloc_size] at y3)
    clear kk
    go_wp2_with fail
    refine (HX (j2 + 1) _ s3 (by omega)).mono ?_
    rintro e w4 (⟨x4, j4, tv4, g4, l4, rfl, t4, kk, s4⟩ | ⟨j4, g4, rfl, kk⟩)
    case inr =>
      go_wp2_with fail
      exact bodyPost_panic rfl (.inr ⟨j4, G.at d1 (g_ifBad e1 (g_exLater g2 (G.at d3 (g_lit e3 (g_exBad g4))))), rfl, k.trans kk⟩)
    replace o2 := kk.own o2 (by simp; omega)
    replace o3 := kk.own o3 (by simp; omega)
    replace t2 := t2.keep kk (by show W0.heap.size < _; (try simp only [alloc_size]); omega)
    replace k := k.trans kk
    have y4 := kk.size
    (try simp only [alloc_size] at y4)
    (try simp only [alloc_size] at t4)
    clear kk
    obtain ⟨ad4, cap4, rfl, -, -⟩ := t4.shape
    have z4 := s4.own.lt
    go_wp2_with fail
    have o4 := Own.new w4 #[.int .i64 x4.o, .int .i64 x4.n, .slice ad4 x4.ks.length cap4] 24
    refine (need_any (t := wElse) hE (by decide) j4 _ (s4.alloc _)).mono ?_
    rintro e w5 (⟨q5, rfl, kk, s5⟩ | ⟨q5, rfl, kk⟩)
    case inr =>
      go_wp2_with fail
      exact bodyPost_panic rfl (.inr ⟨j4, G.at d1 (g_ifBad e1 (g_exLater g2 (G.at d3 (g_lit e3 (g_exLater g4 (g_litBad q5)))))), rfl, (k.alloc _).trans kk⟩)
    obtain ⟨y5t, d5, e5⟩ := need_cons q5
    replace o2 := kk.own (o2.alloc _) (by simp; omega)
    replace o3 := kk.own (o3.alloc _) (by simp; omega)
    replace o4 := kk.own o4 (by simp; omega)
    replace t2 := (t2.alloc _).keep kk (by show W0.heap.size < _; (try simp only [alloc_size]); omega)
    replace t4 := (t4.alloc _).keep kk (by show W0.heap.size < _; (try simp only [alloc_size]); omega)
    replace k := (k.alloc _).trans kk
    have y5 := kk.size
    (try simp only [alloc_size] at y5)
    clear kk
    obtain ⟨b0, b1, b2, b3, b4, b5, b6⟩ := o3.three
    obtain ⟨c0, c1, c2, c3, c4, c5, c6⟩ := o4.three
    go_wp2_with fail
    go_region_with (first
      | (go_at_call 43
         go_loud (
         refine (HX (j4 + 1) _ s5.drew (by omega)).mono ?_
         rintro e w6 (⟨x6, j6, tv6, g6, l6, rfl, t6, kk, s6⟩ | ⟨j6, g6, rfl, kk⟩)
         case inr =>
           go_wp2_with fail
           exact bodyPost_panic rfl (.inr ⟨j6, G.at d1 (g_ifBad e1 (g_exLater g2 (G.at d3 (g_lit e3 (g_exLater g4 (G.at d5 (g_lit e5 (g_exBad g6)))))))), rfl, k.drew.trans kk⟩)
         replace o2 := kk.own o2.drew (by simp; omega)
         replace o3 := kk.own o3.drew (by simp; omega)
         replace o4 := kk.own o4.drew (by simp; omega)
         replace t2 := t2.drew.keep kk (by show W0.heap.size < _; (try simp only [alloc_size]); omega)
         replace t4 := t4.drew.keep kk (by show W0.heap.size < _; (try simp only [alloc_size]); omega)
         replace k := k.drew.trans kk
         have y6 := kk.size
         (try simp only [drew_size] at y6 t6)
         (try simp only [alloc_size] at y6 t6)
         clear kk
         obtain ⟨ad6, cap6, rfl, -, -⟩ := t6.shape
         have z6 := s6.own.lt
         obtain ⟨ro30, ro31, ro32, ro33, ro34, ro35, ro36⟩ := o3.three
         obtain ⟨ro40, ro41, ro42, ro43, ro44, ro45, ro46⟩ := o4.three))
      | (go_at_call 68
         have on := Own.new w6 #[.int .i64 x2.o, .int .i64 x2.n, .slice ad2 x2.ks.length cap2, .int .i64 x4.o, .int .i64 x4.n, .slice ad4 x4.ks.length cap4, .int .i64 x6.o, .int .i64 x6.n, .slice ad6 x6.ks.length cap6] 24
         refine (pnode2_any _ _ 3 3 _).mono ?_
         rintro e w7 ⟨rfl, hb⟩
         replace o2 := (o2.alloc _).below hb
         replace o3 := (o3.alloc _).below hb
         replace o4 := (o4.alloc _).below hb
         replace on := on.below hb
         replace t2 := (t2.alloc _).below hb
         replace t4 := (t4.alloc _).below hb
         replace t6 := (t6.alloc _).below hb
         replace k := (k.alloc _).later hb
         have y7 := hb.size
         (try simp only [alloc_size] at y7)
         have sn := (s6.alloc _).below hb
         obtain ⟨a0, a1, a2, a3, a4, a5, a6⟩ := o2.three))
    all_goals (
      have T := tree_three (Q := Lo (w.heap.size + 1)) (o := 10) (by show ¬ (_ < _); omega) on (t2.bars fun u _ (h : u < _) => (by show u < _; omega)) (t4.bars fun u _ (h : u < _) => (by show u < _; omega)) (t6.bars fun u _ (h : u < _) => (by show u < _; omega)) 3
      go_wp2_with fail
      clear a0 a1 a2 a3 a4 a5
      refine ret_cells (vs := [.int .i64 10, .int .i64 0, _]) rfl Tryz.underlying24 rfl (by kernel_rfl) (B := w.heap.size) (o2.put3 _ _ _) rfl rfl ?_
      exact .inl ⟨nodeE 10 [x2, x4, x6], j6, _, G.at d1 (g_if e1 (g_ex g2 (G.at d3 (g_lit e3 (g_ex g4 (G.at d5 (g_lit e5 (g_ex g6 g_nil)))))))), by omega, rfl, (T.set3 (by show w.heap.size < _; omega) _ _ _).lo (by omega), k.set3 (by omega) _ _ _, sn.set3 (by omega) _ _ _⟩)
  | false =>
    rw [hq] at his
    have hC := HA hq
    clear HA HX
    have k := Kept.refl (some W0.heap.size) w
    go_enter Tryz.func43, Tryz.ntmps43
    go_wp2_with fail
    have o2 := Own.new w zE 24
    refine (his _ (hS.alloc _)).mono ?_
    rintro e w1 ⟨rfl, kk, s1⟩
    replace o2 := kk.own o2 (by simp; omega)
    replace k := (k.alloc _).trans kk
    have y1 := kk.size
    (try simp only [alloc_size] at y1)
    clear kk
    simp only [Bool.false_eq_true, if_false] at s1
    go_wp2_with fail
    refine (hC _ s1).mono ?_
    rintro e w2 (⟨x2, j2, tv2, g2, l2, rfl, t2, kk, s2⟩ | ⟨j2, g2, rfl, kk⟩)
    case inr =>
      go_wp2_with fail
      exact bodyPost_panic rfl (.inr ⟨j2, g_any hq g2, rfl, k.trans kk⟩)
    replace o2 := kk.own o2 (by simp; omega)
    replace k := k.trans kk
    have y2 := kk.size
    (try simp only [alloc_size] at y2)
    clear kk
    obtain ⟨ad2, cap2, rfl, -, -⟩ := t2.shape
    have z2 := s2.own.lt
    obtain ⟨a0, a1, a2, a3, a4, a5, a6⟩ := o2.three
    go_wp2_with fail
    clear a0 a1 a2 a3 a4 a5
    refine ret_cells (vs := [.int .i64 x2.o, .int .i64 x2.n, .slice ad2 x2.ks.length cap2]) rfl Tryz.underlying24 rfl (by kernel_rfl) (B := w.heap.size) (o2.put3 _ _ _) rfl rfl ?_
    exact .inl ⟨x2, j2, _, g_any hq g2, by omega, rfl, (t2.set3 (by show w.heap.size < _; omega) _ _ _).lo (by omega), k.set3 (by omega) _ _ _, s2.set3 (by omega) _ _ _⟩
end Go.Proofs.YthnlenbfknbmcaaGreatDoor
