/-
  What the sweep over the ends computes: plain lists.
-/
import Derived.Test.YtfhhkbijcleedaaSpanMost
namespace Go.Proofs.Ytfhhkbijcleedaa
open Go.RowKit Go.Shelf Go.Lib Go.Sort

/-! ### sets: order, members, one form only -/
def lastU (x : Int) (l : List Sp) : Int := match l.getLast? with | none => x | some t => t.2
theorem lastU_nil (x : Int) : lastU x [] = x := rfl
theorem lastU_snoc (x : Int) (l : List Sp) (t : Sp) : lastU x (l ++ [t]) = t.2 := by simp [lastU]
theorem lastU_cons (x : Int) (s : Sp) (l : List Sp) : lastU x (s :: l) = lastU s.2 l := by
  rcases List.eq_nil_or_concat l with rfl | ⟨l, t, rfl⟩
  · rfl
  · have hcat : l.concat t = l ++ [t] := by simp
    rw [hcat, lastU_snoc, ← List.cons_append, lastU_snoc]
theorem okFrom_snoc : ∀ (l : List Sp) (x : Int) (s : Sp), okFrom x (l ++ [s]) = (okFrom x l && (wf s && decide (lastU x l < s.1)))
  | [], x, s => by simp only [List.nil_append, okFrom, Bool.true_and, Bool.and_true]; rfl
  | t :: l, x, s => by
    rw [List.cons_append, okFrom, okFrom, okFrom_snoc l, lastU_cons]
    simp [Bool.and_assoc]
theorem has_append (l m : List Sp) (n : Int) : has (l ++ m) n = (has l n || has m n) := by simp [has]
theorem has_nil (n : Int) : has [] n = false := rfl
theorem has_before : ∀ (l : List Sp) (x n : Int), okFrom x l = true → n ≤ x → has l n = false
  | [], _, _, _, _ => rfl
  | s :: l, x, n, h, hn => by
    simp only [okFrom, Bool.and_eq_true, decide_eq_true_eq, wf] at h
    obtain ⟨⟨⟨⟨h1, h2⟩, h3⟩, h4⟩, h5⟩ := h
    rw [has_cons, has_before l s.2 n h5 (by omega)]
    simp [isIn]; omega
theorem has_head {s : Sp} {l : List Sp} {x : Int} (h : okFrom x (s :: l) = true) : has (s :: l) s.1 = true := by
  simp only [okFrom, Bool.and_eq_true, decide_eq_true_eq, wf] at h
  rw [has_cons]; simp [isIn]; omega
theorem set_ext : ∀ (x y : List Sp) (p q : Int), okFrom p x = true → okFrom q y = true → (∀ n, has x n = has y n) → x = y
  | [], [], _, _, _, _, _ => rfl
  | [], t :: y, _, _, _, hy, h => by have := h t.1; rw [has_head hy, has_nil] at this; cases this
  | s :: x, [], _, _, hx, _, h => by have := h s.1; rw [has_head hx, has_nil] at this; cases this
  | s :: x, t :: y, p, q, hx, hy, h => by
    have hx0 := has_head hx
    have hy0 := has_head hy
    simp only [okFrom, Bool.and_eq_true, decide_eq_true_eq, wf] at hx hy
    obtain ⟨⟨⟨⟨a1, a2⟩, a3⟩, a4⟩, a5⟩ := hx
    obtain ⟨⟨⟨⟨b1, b2⟩, b3⟩, b4⟩, b5⟩ := hy
    have e1 : s.1 = t.1 := by
      rcases Int.lt_trichotomy s.1 t.1 with hl | he | hl
      · have h1 := h s.1
        rw [hx0, has_cons, has_before y t.2 s.1 b5 (by omega)] at h1
        simp [isIn] at h1; omega
      · exact he
      · have h1 := h t.1
        rw [hy0, has_cons, has_before x s.2 t.1 a5 (by omega)] at h1
        simp [isIn] at h1; omega
    have e2 : s.2 = t.2 := by
      rcases Int.lt_trichotomy s.2 t.2 with hl | he | hl
      · have h1 := h s.2
        rw [has_cons, has_cons, has_before x s.2 s.2 a5 (by omega), has_before y t.2 s.2 b5 (by omega)] at h1
        simp [isIn] at h1; omega
      · exact he
      · have h1 := h t.2
        rw [has_cons, has_cons, has_before x s.2 t.2 a5 (by omega), has_before y t.2 t.2 b5 (by omega)] at h1
        simp [isIn] at h1; omega
    have e : s = t := Prod.ext e1 e2
    subst e
    congr 1
    refine set_ext x y s.2 s.2 a5 b5 fun n => ?_
    by_cases hn : n ≤ s.2
    · rw [has_before x s.2 n a5 hn, has_before y s.2 n b5 hn]
    · have h1 := h n
      have hi : isIn n s = false := by simp [isIn]; omega
      rwa [has_cons, has_cons, hi, Bool.false_or, Bool.false_or] at h1

/-! ### the fold that gathers pieces -/
def Ch : Int → List (Sp × (Int × Int)) → Prop
  | _, [] => True
  | x, y :: l => x ≤ y.1.1 ∧ y.1.1 < y.1.2 ∧ y.1.2 ≤ 1000000000 ∧ Ch y.1.2 l
theorem app_ok (acc : List Sp) (s : Sp) (h : okFrom (-1) acc = true) (hl : lastU (-1) acc ≤ s.1) (h0 : 0 ≤ s.1) (h1 : s.1 < s.2) (h2 : s.2 ≤ 1000000000) :
    okFrom (-1) (app acc s) = true ∧ lastU (-1) (app acc s) = s.2 ∧ ∀ n, has (app acc s) n = (has acc n || isIn n s) := by
  have hw : wf s = true := by simp [wf]; omega
  rcases List.eq_nil_or_concat acc with rfl | ⟨l, t, rfl⟩
  · rw [app_nil]
    refine ⟨by simp [okFrom, hw]; omega, rfl, fun n => by simp [has]⟩
  · have hcat : l.concat t = l ++ [t] := by simp
    rw [hcat] at h hl ⊢
    rw [lastU_snoc] at hl
    have hh := h
    rw [okFrom_snoc] at h
    simp only [Bool.and_eq_true, decide_eq_true_eq, wf] at h
    obtain ⟨g1, ⟨⟨g2, g3⟩, g4⟩, g5⟩ := h
    by_cases he : t.2 = s.1
    · rw [app_yes _ _ _ he]
      refine ⟨?_, lastU_snoc _ _ _, fun n => ?_⟩
      · rw [okFrom_snoc, g1]; simp [wf]; omega
      · rw [has_append, has_append, Bool.or_assoc]
        congr 1
        simp only [has, List.any_cons, List.any_nil, Bool.or_false]
        rw [Bool.eq_iff_iff]; simp [isIn]; omega
    · rw [app_no _ _ _ he]
      refine ⟨?_, lastU_snoc _ _ _, fun n => ?_⟩
      · rw [okFrom_snoc, hh, lastU_snoc, hw]; simp; omega
      · rw [has_append]; simp [has]
def gat (f : Bool → Bool → Bool) (acc : List Sp) (l : List (Sp × (Int × Int))) : List Sp := l.foldl (fun acc x => if f (decide (0 < x.2.1)) (decide (0 < x.2.2)) then app acc x.1 else acc) acc
theorem gat_ok (f : Bool → Bool → Bool) : ∀ (l : List (Sp × (Int × Int))) (acc : List Sp) (x : Int), okFrom (-1) acc = true → lastU (-1) acc ≤ x → 0 ≤ x → Ch x l →
    okFrom (-1) (gat f acc l) = true ∧ ∀ n, has (gat f acc l) n = (has acc n || l.any (fun y => f (decide (0 < y.2.1)) (decide (0 < y.2.2)) && isIn n y.1))
  | [], acc, x, h, _, _, _ => ⟨h, fun n => by simp [gat]⟩
  | y :: l, acc, x, h, hl, hx, hc => by
    obtain ⟨c1, c2, c3, c4⟩ := hc
    have hstep : gat f acc (y :: l) = gat f (if f (decide (0 < y.2.1)) (decide (0 < y.2.2)) then app acc y.1 else acc) l := rfl
    rw [hstep]
    cases hf : f (decide (0 < y.2.1)) (decide (0 < y.2.2)) with
    | true =>
      obtain ⟨k1, k2, k3⟩ := app_ok acc y.1 h (by omega) (by omega) c2 c3
      obtain ⟨r1, r2⟩ := gat_ok f l (app acc y.1) y.1.2 k1 (by omega) (by omega) c4
      refine ⟨r1, fun n => ?_⟩
      have := r2 n
      simp only [if_true] at this ⊢
      rw [this, k3 n]
      simp [hf, Bool.or_assoc]
    | false =>
      obtain ⟨r1, r2⟩ := gat_ok f l acc y.1.2 h (by omega) (by omega) c4
      refine ⟨r1, fun n => ?_⟩
      have := r2 n
      simp only [Bool.false_eq_true, if_false] at this ⊢
      rw [this]
      simp [hf]

/-! ### the sweep -/
def D (p : Int → Bool) : List En → Int × Int
  | [] => (0, 0)
  | e :: es => if p e.1 then bump (D p es) e else D p es
theorem D_perm (p : Int → Bool) {es fs : List En} (h : es.Perm fs) : D p es = D p fs := by
  induction h with
  | nil => rfl
  | cons e _ ih => simp [D, ih]
  | swap e e' l =>
    simp only [D]
    split <;> split <;> try rfl
    simp only [bump]
    split <;> split <;> simp <;> omega
  | trans _ _ h1 h2 => rw [h1, h2]
def add2 (c d : Int × Int) : Int × Int := (c.1 + d.1, c.2 + d.2)
theorem add2_bump (c d : Int × Int) (e : En) : add2 c (bump d e) = add2 (bump c e) d := by
  simp only [add2, bump]; split <;> simp <;> omega
theorem D_none (p : Int → Bool) (es : List En) (h : ∀ e ∈ es, p e.1 = false) : D p es = (0, 0) := by
  induction es with
  | nil => rfl
  | cons e es ih => rw [D, h e List.mem_cons_self]; simpa using ih (fun e' h' => h e' (List.mem_cons_of_mem _ h'))
def Up : Int → List En → Prop
  | _, [] => True
  | x, e :: es => x ≤ e.1 ∧ Up e.1 es
theorem Up.all : ∀ {es : List En} {x : Int}, Up x es → ∀ e ∈ es, x ≤ e.1
  | [], _, _, e, he => by cases he
  | d :: es, x, h, e, he => by
    rcases List.mem_cons.1 he with rfl | he
    · exact h.1
    · exact Int.le_trans h.1 (Up.all h.2 e he)
theorem pcs_ch : ∀ (es : List En) (x : Int) (c : Int × Int), Up x es → (∀ e ∈ es, e.1 ≤ 1000000000) → Ch x (pcs x c es)
  | [], _, _, _, _ => by simp [pcs, Ch]
  | e :: es, x, c, h, hb => by
    have ih := pcs_ch es e.1 (bump c e) h.2 (fun e' h' => hb e' (List.mem_cons_of_mem _ h'))
    have h1 := h.1
    have h2 := hb e List.mem_cons_self
    rw [pcs]
    split
    · next hc => exact ⟨Int.le_refl _, hc.1, h2, ih⟩
    · have weak : ∀ (l : List (Sp × (Int × Int))) (u v : Int), u ≤ v → Ch v l → Ch u l := by
        intro l u v huv hl
        cases l with
        | nil => trivial
        | cons y l => exact ⟨Int.le_trans huv hl.1, hl.2⟩
      simpa using weak _ x e.1 h1 ih
theorem ch_before : ∀ (l : List (Sp × (Int × Int))) (x n : Int) (g : Int × Int → Bool), Ch x l → n < x → l.any (fun y => g y.2 && isIn n y.1) = false
  | [], _, _, _, _, _ => rfl
  | y :: l, x, n, g, h, hn => by
    rw [List.any_cons, ch_before l y.1.2 n g h.2.2.2 (by have := h.1; have := h.2.1; omega)]
    have : isIn n y.1 = false := by have := h.1; simp [isIn]; omega
    rw [this]; simp
theorem sweep (g : Int × Int → Bool) (hg : g (0, 0) = false) : ∀ (es : List En) (x : Int) (c : Int × Int) (n : Int), Up x es → (∀ e ∈ es, e.1 ≤ 1000000000) → add2 c (D (fun _ => true) es) = (0, 0) → x ≤ n →
    (pcs x c es).any (fun y => g y.2 && isIn n y.1) = g (add2 c (D (fun v => decide (v ≤ n)) es))
  | [], x, c, n, _, _, ht, _ => by
    simp only [D, add2, Int.add_zero] at ht ⊢
    rw [ht, hg]; rfl
  | e :: es, x, c, n, hu, hb, ht, hn => by
    have hb' : ∀ e' ∈ es, e'.1 ≤ 1000000000 := fun e' h' => hb e' (List.mem_cons_of_mem _ h')
    rw [pcs, List.any_append]
    by_cases hne : n < e.1
    · have hrest := ch_before _ e.1 n g (pcs_ch es e.1 (bump c e) hu.2 hb') hne
      have hD : D (fun v => decide (v ≤ n)) (e :: es) = (0, 0) := D_none _ _ fun e' h' => by
        rcases List.mem_cons.1 h' with rfl | h'
        · simp; omega
        · have := hu.2.all e' h'; simp; omega
      rw [hrest, hD, Bool.or_false]
      have hc0 : add2 c (0, 0) = c := by simp [add2]
      rw [hc0]
      by_cases hz : c.1 = 0 ∧ c.2 = 0
      · have hcz : c = (0, 0) := Prod.ext hz.1 hz.2
        rw [if_neg (fun h => h.2 hz), hcz, hg]; rfl
      · rw [if_pos ⟨by omega, hz⟩]
        have hi : isIn n (x, e.1) = true := by simp [isIn]; omega
        simp [hi]
    · have hfirst : (if x < e.1 ∧ ¬ (c.1 = 0 ∧ c.2 = 0) then [((x, e.1), c)] else []).any (fun y => g y.2 && isIn n y.1) = false := by
        split
        · have hi : isIn n (x, e.1) = false := by simp [isIn]; omega
          simp [hi]
        · rfl
      rw [hfirst, Bool.false_or, D]
      have hdec : (decide (e.1 ≤ n)) = true := by simp; omega
      simp only [hdec, if_true]
      rw [add2_bump]
      refine sweep g hg es e.1 (bump c e) n hu.2 hb' ?_ (by omega)
      rw [← add2_bump]; simpa [D] using ht

theorem up_of_pairwise : ∀ (es : List En) (x : Int), (∀ e ∈ es, x ≤ e.1) → es.Pairwise (fun a b => a.1 ≤ b.1) → Up x es
  | [], _, _, _ => trivial
  | e :: es, x, h, hp => by
    rw [List.pairwise_cons] at hp
    exact ⟨h e List.mem_cons_self, up_of_pairwise es e.1 hp.1 hp.2⟩
theorem sortE_pairwise (d : List En) : (sortE d).Pairwise (fun a b => a.1 ≤ b.1) := by
  have h2 : (sortE d).Pairwise (fun x y => (!ltOf cmpE y x) = true) := by
    refine List.pairwise_mergeSort (fun x y z h1 h2 => ?_) (fun x y => ?_) d
    · simp only [Bool.not_eq_true', Bool.eq_false_iff, ne_eq, cmpE_lt] at *; omega
    · simp only [Bool.or_eq_true, Bool.not_eq_true', Bool.eq_false_iff, ne_eq, cmpE_lt]; omega
  refine h2.imp fun {x y} h => ?_
  simp only [Bool.not_eq_true', Bool.eq_false_iff, ne_eq, cmpE_lt] at h; omega
theorem D_append (p : Int → Bool) (es fs : List En) : D p (es ++ fs) = add2 (D p es) (D p fs) := by
  induction es with
  | nil => simp [D, add2]
  | cons e es ih =>
    rw [List.cons_append, D, D, ih]
    split
    · simp only [bump, add2]; split <;> simp <;> omega
    · rfl
theorem D_raw0 (n : Int) : ∀ (l : List Sp), (∀ s ∈ l, s.1 < s.2) → D (fun v => decide (v ≤ n)) (raw 0 l) = (deep l n, 0)
  | [], _ => rfl
  | s :: l, h => by
    have ih := D_raw0 n l (fun t ht => h t (List.mem_cons_of_mem _ ht))
    have hs := h s List.mem_cons_self
    have e : raw 0 (s :: l) = (s.1, 0, 1) :: (s.2, 0, -1) :: raw 0 l := rfl
    rw [e, D, D, ih, deep]
    by_cases h1 : n < s.1
    · have u1 : ¬ s.1 ≤ n := by omega
      have u2 : ¬ s.2 ≤ n := by omega
      simp [isIn, u1, u2]
    · have u1 : s.1 ≤ n := by omega
      by_cases h2 : n < s.2
      · have u2 : ¬ s.2 ≤ n := by omega
        simp [bump, isIn, u1, u2, h2]; omega
      · have u2 : s.2 ≤ n := by omega
        simp [bump, isIn, u1, u2, h2]; omega
theorem D_raw1 (n : Int) : ∀ (l : List Sp), (∀ s ∈ l, s.1 < s.2) → D (fun v => decide (v ≤ n)) (raw 1 l) = (0, deep l n)
  | [], _ => rfl
  | s :: l, h => by
    have ih := D_raw1 n l (fun t ht => h t (List.mem_cons_of_mem _ ht))
    have hs := h s List.mem_cons_self
    have e : raw 1 (s :: l) = (s.1, 1, 1) :: (s.2, 1, -1) :: raw 1 l := rfl
    rw [e, D, D, ih, deep]
    by_cases h1 : n < s.1
    · have u1 : ¬ s.1 ≤ n := by omega
      have u2 : ¬ s.2 ≤ n := by omega
      simp [isIn, u1, u2]
    · have u1 : s.1 ≤ n := by omega
      by_cases h2 : n < s.2
      · have u2 : ¬ s.2 ≤ n := by omega
        simp [bump, isIn, u1, u2, h2]; omega
      · have u2 : s.2 ≤ n := by omega
        simp [bump, isIn, u1, u2, h2]; omega
theorem D_total (w : Int) : ∀ (l : List Sp), D (fun _ => true) (raw w l) = (0, 0)
  | [] => rfl
  | s :: l => by
    have ih := D_total w l
    have e : raw w (s :: l) = (s.1, w, 1) :: (s.2, w, -1) :: raw w l := rfl
    rw [e, D, D, ih]
    simp only [bump]
    by_cases hw : w = 0 <;> simp [hw]
theorem deep_nonneg : ∀ (l : List Sp) (n : Int), 0 ≤ deep l n
  | [], _ => by simp [deep]
  | s :: l, n => by have := deep_nonneg l n; simp only [deep]; split <;> omega
theorem deep_pos : ∀ (l : List Sp) (n : Int), decide (0 < deep l n) = has l n
  | [], _ => rfl
  | s :: l, n => by
    have h := deep_nonneg l n
    have ih := deep_pos l n
    rw [has_cons, deep]
    cases hi : isIn n s with
    | true => simp; omega
    | false => simpa using ih

/-- spans within the bounds -/
def Bd (l : List Sp) : Prop := ∀ s ∈ l, 0 ≤ s.1 ∧ s.1 < s.2 ∧ s.2 ≤ 1000000000
theorem ends_facts (a b : List Sp) (ha : Bd a) (hb : Bd b) : Up 0 (endsL a b) ∧ (∀ e ∈ endsL a b, e.1 ≤ 1000000000) ∧ add2 (0, 0) (D (fun _ => true) (endsL a b)) = (0, 0) ∧ ∀ n, add2 (0, 0) (D (fun v => decide (v ≤ n)) (endsL a b)) = (deep a n, deep b n) := by
  have hall := ends_all (fun v => 0 ≤ v ∧ v ≤ 1000000000) a b (fun s hs => by have := ha s hs; omega) (fun s hs => by have := hb s hs; omega)
  have hperm : (endsL a b).Perm (raw 0 a ++ raw 1 b) := List.mergeSort_perm _ _
  refine ⟨up_of_pairwise _ _ (fun e he => (hall e he).1) (sortE_pairwise _), fun e he => (hall e he).2, ?_, fun n => ?_⟩
  · rw [D_perm _ hperm, D_append, D_total, D_total]; rfl
  · rw [D_perm _ hperm, D_append, D_raw0 n a (fun s hs => (ha s hs).2.1), D_raw1 n b (fun s hs => (hb s hs).2.1)]; simp [add2]
theorem pieces_sweep (g : Int × Int → Bool) (hg : g (0, 0) = false) (a b : List Sp) (ha : Bd a) (hb : Bd b) (n : Int) : (piecesL a b).any (fun y => g y.2 && isIn n y.1) = g (deep a n, deep b n) := by
  obtain ⟨h1, h2, h3, h4⟩ := ends_facts a b ha hb
  by_cases hn : 0 ≤ n
  · have := sweep g hg (endsL a b) 0 (0, 0) n h1 h2 h3 hn
    rw [h4 n] at this; exact this
  · have hz : ∀ l : List Sp, Bd l → deep l n = 0 := by
      intro l hl
      have h5 := deep_pos l n
      have h6 : has l n = false := by
        rw [has, List.any_eq_false]; intro s hs; have := hl s hs; simp [isIn]; omega
      have h7 := deep_nonneg l n
      rw [h6] at h5; simp at h5; omega
    rw [hz a ha, hz b hb, hg]
    exact ch_before _ 0 n g (pcs_ch _ _ _ h1 h2) (by omega)

theorem combL_ok (f : Bool → Bool → Bool) (hf : f false false = false) (a b : List Sp) (ha : Bd a) (hb : Bd b) : okFrom (-1) (combL f a b) = true ∧ ∀ n, has (combL f a b) n = f (has a n) (has b n) := by
  obtain ⟨h1, h2, _, _⟩ := ends_facts a b ha hb
  obtain ⟨r1, r2⟩ := gat_ok f (piecesL a b) [] 0 rfl (by decide) (by omega) (pcs_ch _ _ _ h1 h2)
  refine ⟨r1, fun n => ?_⟩
  have h5 := pieces_sweep (fun c => f (decide (0 < c.1)) (decide (0 < c.2))) (by simpa using hf) a b ha hb n
  rw [deep_pos, deep_pos] at h5
  exact (r2 n).trans (by rw [has_nil, Bool.false_or]; exact h5)
theorem combL_len (f : Bool → Bool → Bool) (a b : List Sp) : (combL f a b).length ≤ 2 * a.length + 2 * b.length := by
  have h1 := gather_length f (piecesL a b)
  have h2 := pcs_length (endsL a b) 0 (0, 0)
  rw [ends_len] at h2
  exact Nat.le_trans h1 h2
end Go.Proofs.Ytfhhkbijcleedaa
