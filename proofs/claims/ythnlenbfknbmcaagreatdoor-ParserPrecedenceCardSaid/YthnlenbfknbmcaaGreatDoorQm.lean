/-
  An atom.
-/
import Derived.Test.YthnlenbfknbmcaaGreatDoorQl
namespace Go.Proofs.YthnlenbfknbmcaaGreatDoor
open Go.RowKit Go.Shelf
set_option maxRecDepth 100000
variable {W0 : World} {v : Value} {m : Nat} {L : List Tok}

theorem opr5 (t : List UInt8) : findO opsO 5 t = if t = wMin then some 8 else if t = wMax then some 9 else none := by
  unfold findO opsO hitO wMin wMax
  have c : ∀ (a b : List UInt8), (a == b) = decide (a = b) := fun a b => by exact Bool.eq_iff_iff.2 (by simp)
  by_cases h1 : t = [109, 105, 110]
  · subst h1; simp [List.find?, c]
  · by_cases h2 : t = [109, 97, 120]
    · subst h2; simp [List.find?, c]
    · simp [List.find?, c, h1, h2]
theorem text_in {i : Nat} {t : List UInt8} (h : (nextT L i).t = t) (ht : t ≠ []) : ∃ x, L.drop i = x :: L.drop (i + 1) ∧ x.t = t ∧ i < L.length ∧ x ∈ L ∧ nextT L i = x.rt := by
  unfold nextT at h
  split at h
  · next hi => exact ⟨L[i], List.drop_eq_getElem_cons hi, h, hi, List.getElem_mem hi, nextT_in hi⟩
  · exact absurd h.symm ht
theorem op5_some (hE : Env W0 v m L) (o : Int) (i : Nat) (w : World) (hS : St W0 v m L i w) (ho : findO opsO 5 (nextT L i).t = some o) : Calls Tryz.prog 103 #[.pointer (some ⟨W0.heap.size, 0, none⟩), .int .i64 5] w fun e w' => e = .returned (.tuple #[.int .i64 o, .bool true]) ∧ Kept (some W0.heap.size) w w' ∧ St W0 v m L (i + 1) w' := by
  have := operator_any hE 5 i w hS
  rw [show ((5 : Nat) : Int) = 5 from rfl, ho] at this
  exact this
theorem op5_none (hE : Env W0 v m L) (i : Nat) (w : World) (hS : St W0 v m L i w) (ho : findO opsO 5 (nextT L i).t = none) : Calls Tryz.prog 103 #[.pointer (some ⟨W0.heap.size, 0, none⟩), .int .i64 5] w fun e w' => e = .returned (.tuple #[.int .i64 0, .bool false]) ∧ Kept (some W0.heap.size) w w' ∧ St W0 v m L i w' := by
  have := operator_any hE 5 i w hS
  rw [show ((5 : Nat) : Int) = 5 from rfl, ho] at this
  exact this
theorem num_k {x : Tok} (h : x.k = 2 ∨ x.k = 3 → numT x.t) (hw : x.t = wMin ∨ x.t = wMax ∨ x.t = wOpen) : x.k ≠ 2 ∧ x.k ≠ 3 := by
  have key : ¬ (x.k = 2 ∨ x.k = 3) := fun hk => by
    have := num_no (h hk)
    rcases hw with hw | hw | hw <;> simp [hw] at this
  omega
theorem leaf_good {x : Tok} {r : List Tok} (h : (leafO x.rt).1 ≠ 0) : G .atom (x :: r) (.ok [leafE (leafO x.rt).1 (leafO x.rt).2] r) := by
  obtain ⟨xk, xn, t⟩ := x
  have e : leafO (Tok.rt ⟨xk, xn, t⟩) = if (xk : Int) = 2 then (1, (cents t : Int)) else if (xk : Int) = 3 then (2, (cents t : Int)) else if varF t ≠ 0 then (3, (varF t : Int)) else (0, 0) := rfl
  rw [e] at h ⊢
  by_cases h2 : xk = 2
  · subst h2; exact g_aNum rfl
  rw [if_neg (show ¬ (xk : Int) = 2 by omega)] at h ⊢
  by_cases h3 : xk = 3
  · subst h3; exact g_aMon rfl
  rw [if_neg (show ¬ (xk : Int) = 3 by omega)] at h ⊢
  by_cases hv : varF t = 0
  · rw [hv] at h; simp at h
  · rw [if_pos hv]; exact g_aVar h2 h3 hv
theorem leaf_bad (i : Nat) (h : (leafO (nextT L i)).1 = 0) (h4 : (nextT L i).t ≠ wMin) (h5 : (nextT L i).t ≠ wMax) (h6 : (nextT L i).t ≠ wOpen) : G .atom (L.drop i) (.bad (L.drop i)) := by
  unfold nextT at *
  split at h
  · next hi =>
    rw [List.drop_eq_getElem_cons hi]
    simp only [hi, dif_pos] at h4 h5 h6
    generalize L[i] = x at *
    obtain ⟨xk, xn, t⟩ := x
    have e : leafO (Tok.rt ⟨xk, xn, t⟩) = if (xk : Int) = 2 then (1, (cents t : Int)) else if (xk : Int) = 3 then (2, (cents t : Int)) else if varF t ≠ 0 then (3, (varF t : Int)) else (0, 0) := rfl
    rw [e] at h
    simp only [Tok.rt] at h4 h5 h6
    by_cases h2 : xk = 2
    · subst h2; simp at h
    rw [if_neg (show ¬ (xk : Int) = 2 by omega)] at h
    by_cases h3 : xk = 3
    · subst h3; simp at h
    rw [if_neg (show ¬ (xk : Int) = 3 by omega)] at h
    by_cases hv : varF t = 0
    · exact g_aBad h2 h3 hv h4 h5 h6
    · rw [if_pos hv] at h; cases h
  · next hi => rw [List.drop_of_length_le (by omega)]; exact g_aEnd
set_option maxHeartbeats 1600000 in
theorem atom_pair (hE : Env W0 v m L) {n : Nat} (HX : Meth W0 v m L 43 .expr n) (o : Int) (i : Nat) (w : World) (hS : St W0 v m L i w) (hn : L.length < i + (n + 1)) (ho : findO opsO 5 (nextT L i).t = some o)
    (gok : ∀ l r, G (.seq twoI) (L.drop (i + 1)) (.ok l r) → G .atom (L.drop i) (.ok [nodeE o l] r)) (gbad : ∀ r, G (.seq twoI) (L.drop (i + 1)) (.bad r) → G .atom (L.drop i) (.bad r)) : Calls Tryz.prog 146 #[.pointer (some ⟨W0.heap.size, 0, none⟩)] w (PEnd W0 v m L .atom i w) := by
  have hP := hS.own.lt
  have k := Kept.refl (some W0.heap.size) w
  go_enter Tryz.func146, Tryz.ntmps146
  go_wp2_with fail
  have o2 := Own.new w zE 24
  refine (op5_some hE o i _ (hS.alloc _) ho).mono ?_
  rintro e w1 ⟨rfl, kk, s1⟩
  replace o2 := kk.own o2 (by simp; omega)
  replace k := (k.alloc _).trans kk
  have y1 := kk.size
  (try simp only [alloc_size] at y1)
  clear kk
  go_wp2_with fail
  refine (pair_any hE HX o (i + 1) _ s1 (by omega)).mono ?_
  rintro e w2 (⟨xa, xb, j2, tv2, g2, l2, rfl, t2, kk, s2⟩ | ⟨j2, g2, rfl, kk⟩)
  case inr =>
    go_wp2_with fail
    exact bodyPost_panic rfl (.inr ⟨j2, gbad _ g2, rfl, k.trans kk⟩)
  replace o2 := kk.own o2 (by simp; omega)
  replace k := k.trans kk
  have y2 := kk.size
  (try simp only [alloc_size] at y2)
  clear kk
  obtain ⟨ad2, cap2, rfl, -, -⟩ := t2.shape
  have z2 := s2.own.lt
  obtain ⟨a0, a1, a2, a3, a4, a5, a6⟩ := o2.three
  go_wp2_with fail
  clear a0 a1 a2 a3 a4 a5
  refine ret_cells (vs := [_, _, _]) rfl Tryz.underlying24 rfl (by kernel_rfl) (B := w.heap.size) (o2.put3 _ _ _) rfl rfl ?_
  exact .inl ⟨nodeE o [xa, xb], j2, _, gok _ _ g2, by omega, rfl, (t2.set3 (by show w.heap.size < _; omega) _ _ _).lo (by omega), k.set3 (by omega) _ _ _, s2.set3 (by omega) _ _ _⟩
set_option maxHeartbeats 1600000 in
theorem atom_open (hE : Env W0 v m L) {n : Nat} (HX : Meth W0 v m L 43 .expr n) (i : Nat) (w : World) (hS : St W0 v m L i w) (hn : L.length < i + (n + 1)) (ho : findO opsO 5 (nextT L i).t = none) (hq : isT wOpen (L.drop i) = true)
    (gok : ∀ a, G (.seq brI) (L.drop (i + 1)) a → G .atom (L.drop i) a) : Calls Tryz.prog 146 #[.pointer (some ⟨W0.heap.size, 0, none⟩)] w (PEnd W0 v m L .atom i w) := by
  have hP := hS.own.lt
  have his : ∀ w', St W0 v m L i w' → Calls Tryz.prog 66 #[.pointer (some ⟨W0.heap.size, 0, none⟩), .string ⟨#[40]⟩] w' (IsEnd W0 v m L i true w') := fun w' h => by have := is_any hE wOpen (by decide) i w' h; rw [hq] at this; exact this
  have k := Kept.refl (some W0.heap.size) w
  go_enter Tryz.func146, Tryz.ntmps146
  go_wp2_with fail
  have o2 := Own.new w zE 24
  refine (op5_none hE i _ (hS.alloc _) ho).mono ?_
  rintro e w1 ⟨rfl, kk, s1⟩
  replace o2 := kk.own o2 (by simp; omega)
  replace k := (k.alloc _).trans kk
  have y1 := kk.size
  (try simp only [alloc_size] at y1)
  clear kk
  go_wp2_with fail
  refine (his _ s1).mono ?_
  rintro e w2 ⟨rfl, kk, s2⟩
  replace o2 := kk.own o2 (by simp; omega)
  replace k := k.trans kk
  have y2 := kk.size
  (try simp only [alloc_size] at y2)
  clear kk
  simp only [if_true] at s2
  go_wp2_with fail
  refine (HX (i + 1) _ s2 (by omega)).mono ?_
  rintro e w3 (⟨x3, j3, tv3, g3, l3, rfl, t3, kk, s3⟩ | ⟨j3, g3, rfl, kk⟩)
  case inr =>
    go_wp2_with fail
    exact bodyPost_panic rfl (.inr ⟨j3, gok _ (g_exBad g3), rfl, k.trans kk⟩)
  replace o2 := kk.own o2 (by simp; omega)
  replace k := k.trans kk
  have y3 := kk.size
  (try simp only [alloc_size] at y3)
  (try simp only [alloc_size] at t3)
  clear kk
  obtain ⟨ad3, cap3, rfl, -, -⟩ := t3.shape
  have z3 := s3.own.lt
  go_wp2_with fail
  have o5 := Own.new w3 #[.int .i64 x3.o, .int .i64 x3.n, .slice ad3 x3.ks.length cap3] 24
  refine (need_any (t := wShut) hE (by decide) j3 _ (s3.alloc _)).mono ?_
  rintro e w4 (⟨q4, rfl, kk, s4⟩ | ⟨q4, rfl, kk⟩)
  case inr =>
    go_wp2_with fail
    exact bodyPost_panic rfl (.inr ⟨j3, gok _ (g_exLater g3 (g_litBad q4)), rfl, (k.alloc _).trans kk⟩)
  obtain ⟨y4t, d4, e4⟩ := need_cons q4
  replace o2 := kk.own (o2.alloc _) (by simp; omega)
  replace o5 := kk.own o5 (by simp; omega)
  replace t3 := (t3.alloc _).keep kk (by show W0.heap.size < _; (try simp only [alloc_size]); omega)
  replace k := (k.alloc _).trans kk
  have y4 := kk.size
  (try simp only [alloc_size] at y4)
  clear kk
  have HG := gok _ (g_ex g3 (G.at d4 (g_lit e4 g_nil)))
  clear gok his
  obtain ⟨b0, b1, b2, b3, b4, b5, b6⟩ := o5.three
  obtain ⟨a0, a1, a2, a3, a4, a5, a6⟩ := o2.three
  go_wp2_with fail
  clear a0 a1 a2 a3 a4 a5 b0 b1 b2 b3 b4 b5
  refine ret_cells (vs := [.int .i64 x3.o, .int .i64 x3.n, .slice ad3 x3.ks.length cap3]) rfl Tryz.underlying24 rfl (by kernel_rfl) (B := w.heap.size) (o2.put3 _ _ _) rfl rfl ?_
  exact .inl ⟨x3, j3 + 1, _, HG, by omega, rfl, (t3.set3 (by show w.heap.size < _; omega) _ _ _).lo (by omega), k.set3 (by omega) _ _ _, s4.set3 (by omega) _ _ _⟩
set_option maxHeartbeats 1600000 in
theorem atom_leaf (hE : Env W0 v m L) (i : Nat) (w : World) (hS : St W0 v m L i w) (ho : findO opsO 5 (nextT L i).t = none) (hq : isT wOpen (L.drop i) = false) (h4 : (nextT L i).t ≠ wMin) (h5 : (nextT L i).t ≠ wMax) : Calls Tryz.prog 146 #[.pointer (some ⟨W0.heap.size, 0, none⟩)] w (PEnd W0 v m L .atom i w) := by
  have hP := hS.own.lt
  have h6 : (nextT L i).t ≠ wOpen := by rw [drop_isT (by decide)] at hq; simpa using hq
  have his : ∀ w', St W0 v m L i w' → Calls Tryz.prog 66 #[.pointer (some ⟨W0.heap.size, 0, none⟩), .string ⟨#[40]⟩] w' (IsEnd W0 v m L i false w') := fun w' h => by have := is_any hE wOpen (by decide) i w' h; rw [hq] at this; exact this
  have hnx : ∀ w', St W0 v m L i w' → Calls Tryz.prog 52 #[.pointer (some ⟨W0.heap.size, 0, none⟩)] w' (Ret (tokV (nextT L i)) w') := fun w' h => next_any hE i w' h
  have hnum : (nextT L i).k = 2 ∨ (nextT L i).k = 3 → numT (nextT L i).t := by
    intro h
    unfold nextT at *
    split at h
    · next hi =>
      rw [dif_pos hi]
      refine hE.nums _ (List.getElem_mem hi) ?_
      rcases h with h | h
      · left; have : ((L[i].k : Nat) : Int) = 2 := h; omega
      · right; have : ((L[i].k : Nat) : Int) = 3 := h; omega
    · simp at h
  have hlf : ∀ w', St W0 v m L i w' → Calls Tryz.prog 149 #[tokV (nextT L i)] w' (Ret (exV (leafO (nextT L i)).1 (leafO (nextT L i)).2) w') := fun w' h => pleaf_any _ hnum w' (hE.lay.below h.base)
  have hsh := hE.short
  by_cases hz : (leafO (nextT L i)).1 = 0
  · have HG := leaf_bad i hz h4 h5 h6
    rw [hz] at hlf
    generalize (leafO (nextT L i)).2 = u at *
    have hrf : ∀ w', St W0 v m L i w' → Calls Tryz.prog 45 #[.pointer (some ⟨W0.heap.size, 0, none⟩)] w' (Dies 8 (lineAt L (L.drop i) : Nat) (some W0.heap.size) w') := fun w' h => refuse_any hE i w' h
    clear hnum h4 h5 h6 hq hz
    have k := Kept.refl (some W0.heap.size) w
    go_enter Tryz.func146, Tryz.ntmps146
    go_wp2_with fail
    have o2 := Own.new w zE 24
    refine (op5_none hE i _ (hS.alloc _) ho).mono ?_
    rintro e w1 ⟨rfl, kk, s1⟩
    replace o2 := kk.own o2 (by simp; omega)
    replace k := (k.alloc _).trans kk
    have y1 := kk.size
    (try simp only [alloc_size] at y1)
    clear kk
    go_wp2_with fail
    refine (his _ s1).mono ?_
    rintro e w2 ⟨rfl, kk, s2⟩
    replace o2 := kk.own o2 (by simp; omega)
    replace k := k.trans kk
    have y2 := kk.size
    (try simp only [alloc_size] at y2)
    clear kk
    simp only [Bool.false_eq_true, if_false] at s2
    go_wp2_with fail
    refine (hnx _ s2).mono ?_
    rintro e w3 ⟨rfl, hb⟩
    replace o2 := o2.below hb
    replace k := k.later hb
    have y3 := hb.size
    (try simp only [alloc_size] at y3)
    have s3 := s2.below hb
    clear hb
    go_wp2_with fail
    refine (hlf _ s3).mono ?_
    rintro e w4 ⟨rfl, hb⟩
    replace o2 := o2.below hb
    replace k := k.later hb
    have y4 := hb.size
    (try simp only [alloc_size] at y4)
    have s4 := s3.below hb
    clear hb
    unfold exV
    go_wp2_with fail
    have o6 := Own.new w4 #[.int .i64 0, .int .i64 u, .slice none 0 0] 24
    refine (hrf _ (s4.alloc _)).mono ?_
    rintro e w5 ⟨rfl, kk⟩
    go_wp2_with fail
    exact bodyPost_panic rfl (.inr ⟨i, HG, rfl, (k.alloc _).trans kk⟩)
  · have hi : i < L.length := by
      rcases Nat.lt_or_ge i L.length with hl | hl
      · exact hl
      · exfalso; apply hz
        rw [show nextT L i = ⟨0, (lineAt L [] : Nat), []⟩ from dif_neg (by omega)]
        rfl
    have HG : G .atom (L.drop i) (.ok [leafE (leafO (nextT L i)).1 (leafO (nextT L i)).2] (L.drop (i + 1))) := by
      rw [nextT_in hi] at hz ⊢
      rw [List.drop_eq_getElem_cons hi]
      exact leaf_good hz
    have hw : IntKind.i64.wrap ((i : Int) + 1) = (i : Int) + 1 := IntWalk.i64_in _ (by omega)
    generalize (leafO (nextT L i)).1 = lo at *
    generalize (leafO (nextT L i)).2 = ln at *
    have hlo : (lo == 0) = false := by rw [beq_eq_false_iff_ne]; exact hz
    clear hnum h4 h5 h6 hq hz
    have k := Kept.refl (some W0.heap.size) w
    go_enter Tryz.func146, Tryz.ntmps146
    go_wp2_with fail
    have o2 := Own.new w zE 24
    refine (op5_none hE i _ (hS.alloc _) ho).mono ?_
    rintro e w1 ⟨rfl, kk, s1⟩
    replace o2 := kk.own o2 (by simp; omega)
    replace k := (k.alloc _).trans kk
    have y1 := kk.size
    (try simp only [alloc_size] at y1)
    clear kk
    go_wp2_with fail
    refine (his _ s1).mono ?_
    rintro e w2 ⟨rfl, kk, s2⟩
    replace o2 := kk.own o2 (by simp; omega)
    replace k := k.trans kk
    have y2 := kk.size
    (try simp only [alloc_size] at y2)
    clear kk
    simp only [Bool.false_eq_true, if_false] at s2
    go_wp2_with fail
    refine (hnx _ s2).mono ?_
    rintro e w3 ⟨rfl, hb⟩
    replace o2 := o2.below hb
    replace k := k.later hb
    have y3 := hb.size
    (try simp only [alloc_size] at y3)
    have s3 := s2.below hb
    clear hb
    go_wp2_with fail
    refine (hlf _ s3).mono ?_
    rintro e w4 ⟨rfl, hb⟩
    replace o2 := o2.below hb
    replace k := k.later hb
    have y4 := hb.size
    (try simp only [alloc_size] at y4)
    have s4 := s3.below hb
    clear hb
    unfold exV
    obtain ⟨c0, c1, c2, f0, f1, f2, z⟩ := s4.three
    have zw := k.size
    obtain ⟨a0, a1, a2, a3, a4, a5, a6⟩ := o2.three
    go_wp2_with fail
    clear a0 a1 a2 a3 a4 a5
    refine ret_cells (vs := [.int .i64 lo, .int .i64 ln, .slice none 0 0]) rfl Tryz.underlying24 rfl (by kernel_rfl) (B := w.heap.size) (((o2.setCell (p := ⟨W0.heap.size, 2, none⟩) (by simp; omega) _).put3 _ _ _).alloc _) rfl rfl ?_
    exact .inl ⟨leafE lo ln, i + 1, _, HG, by omega, rfl, tree_leaf _ _ lo ln none 0, ((k.set (p := W0.heap.size) (b := ⟨W0.heap.size, 2, none⟩) (.inl rfl) _).set3 (by omega) _ _ _).alloc _, ((s4.step hi).set3 (by omega) _ _ _).alloc _⟩
theorem atom_any (hE : Env W0 v m L) {n : Nat} (HX : Meth W0 v m L 43 .expr n) : Meth W0 v m L 146 .atom (n + 1) := by
  intro i w hS hn
  by_cases h4 : (nextT L i).t = wMin
  · obtain ⟨x, d, e, _, hm, _⟩ := text_in h4 (by decide)
    obtain ⟨k2, k3⟩ := num_k (hE.nums x hm) (.inl e)
    exact atom_pair hE HX 8 i w hS hn (by rw [opr5, if_pos h4]) (fun l r h => G.at d (g_aMin k2 k3 e h)) (fun r h => G.at d (g_aMinBad k2 k3 e h))
  by_cases h5 : (nextT L i).t = wMax
  · obtain ⟨x, d, e, _, hm, _⟩ := text_in h5 (by decide)
    obtain ⟨k2, k3⟩ := num_k (hE.nums x hm) (.inr (.inl e))
    exact atom_pair hE HX 9 i w hS hn (by rw [opr5, if_neg h4, if_pos h5]) (fun l r h => G.at d (g_aMax k2 k3 e h)) (fun r h => G.at d (g_aMaxBad k2 k3 e h))
  have ho : findO opsO 5 (nextT L i).t = none := by rw [opr5, if_neg h4, if_neg h5]
  cases hq : isT wOpen (L.drop i) with
  | true =>
    have h6 : (nextT L i).t = wOpen := by rw [drop_isT (by decide)] at hq; simpa using hq
    obtain ⟨x, d, e, _, hm, _⟩ := text_in h6 (by decide)
    obtain ⟨k2, k3⟩ := num_k (hE.nums x hm) (.inr (.inr e))
    exact atom_open hE HX i w hS hn ho hq (fun a h => G.at d (g_aOpen k2 k3 e h))
  | false => exact atom_leaf hE i w hS ho hq h4 h5
theorem PEnd.to {c d : Cat} {i : Nat} {w w' : World} {e : Ending} (h : PEnd W0 v m L c i w e w') (hg : ∀ a, G c (L.drop i) a → G d (L.drop i) a) : PEnd W0 v m L d i w e w' := by
  rcases h with ⟨x, j, tv, h1, h2⟩ | ⟨j, h1, h2⟩
  · exact .inl ⟨x, j, tv, hg _ h1, h2⟩
  · exact .inr ⟨j, hg _ h1, h2⟩
theorem none_any (hE : Env W0 v m L) {n : Nat} (HX : Meth W0 v m L 128 (.lvl 4) n) : ∀ k, k ≤ n → Meth W0 v m L 104 (.lvl 3) k := by
  intro k
  induction k with
  | zero => intro _ i w hS hn; have := hS.le; omega
  | succ k ih =>
    intro hk i w hS hn
    exact none_at hE i w hS (fun w' h => ih (by omega) (i + 1) w' h (by omega)) (fun hq w' h => compared_any hE HX i w' h (by omega) hq)
theorem expression_any (hE : Env W0 v m L) : ∀ n, Meth W0 v m L 43 .expr n := by
  intro n
  induction n with
  | zero => intro i w hS hn; have := hS.le; omega
  | succ n ih =>
    have h6 : Meth W0 v m L 146 (.lvl 6) (n + 1) := fun i w hS hn => (atom_any hE ih i w hS hn).mono fun _ _ h => h.to fun _ g => g_atom (by decide) g
    have h5 := product_any hE h6
    have h4 := sum_any hE h5
    have h3 := none_any hE h4 (n + 1) (Nat.le_refl _)
    have h2 := all_any hE h3
    have h1 := any_any hE h2
    intro i w hS hn
    exact expression_at hE ih i w hS hn (fun _ w' h => h1 i w' h hn)
/-- an expression is read -/
theorem expr_any (hE : Env W0 v m L) (i : Nat) (w : World) (hS : St W0 v m L i w) : Calls Tryz.prog 43 #[.pointer (some ⟨W0.heap.size, 0, none⟩)] w (PEnd W0 v m L .expr i w) := expression_any hE (L.length + 1) i w hS (by omega)
end Go.Proofs.YthnlenbfknbmcaaGreatDoor
