/-
  The sets that the program makes, as slices that read; span.Union, Meet, Less; one; usable.
-/
import Derived.Test.YtfhhkbijcleedaaSpanComb
import Derived.Test.YtfhhkbijcleedaaSpanRef2
namespace Go.Proofs.Ytfhhkbijcleedaa
open Go.RowKit Go.Shelf

theorem add_zero0 (g m : Nat) : (⟨g, 0, none⟩ : Addr).add m = ⟨g, m, none⟩ := by
  unfold Addr.add; split
  · next h => subst h; rfl
  · simp
theorem flatS_get : ∀ (d : List Sp) (t : Nat), t < d.length * 2 → (d.flatMap encS)[t]? = some ((encS d[t / 2]!)[t % 2]!)
  | [], t, h => by simp at h
  | x :: d, 0, _ => by simp [encS]
  | x :: d, 1, _ => by simp [encS]
  | x :: d, t + 2, h => by
    have ih := flatS_get d t (by simp at h; omega)
    have e : (t + 2) / 2 = t / 2 + 1 := by omega
    have e2 : (t + 2) % 2 = t % 2 := by omega
    rw [List.flatMap_cons, List.getElem?_append_right (by simp [encS]), e, e2]
    simpa [encS] using ih
theorem Spans.of_own {w : World} {v : Value} {l : List Sp} {base : Nat} (h : w.ownsRow base 42 2 v l.length (l.flatMap encS)) (hi : IS l) (hs : l.length ≤ 140737488351232) : Spans w v l := by
  refine ⟨own_shape h, fun ad n cap e i hil => ?_, hi, hs⟩
  obtain ⟨_, ⟨_, h0⟩ | ⟨g, cap', cur, hv, _, hh, _, _, _, hct⟩⟩ := h
  · omega
  · rw [hv] at e; cases e
    have key : ∀ j, j < 2 → cur[i * 2 + j]? = some ((encS l[i])[j]!) := by
      intro j hj
      have h2 := flatS_get l (i * 2 + j) (by omega)
      rw [show (i * 2 + j) / 2 = i by omega, show (i * 2 + j) % 2 = j by omega, getElem!_pos l i hil] at h2
      rw [← hct, List.getElem?_take] at h2
      split at h2
      · simpa using h2
      · cases h2
    refine ⟨_, rfl, (Array.getElem?_eq_some_iff.1 hh).1, ?_, ?_⟩
    · rw [add_zero0]; have := key 0 (by omega); simpa [World.cell?, hh, encS] using this
    · rw [add_zero0]; have := key 1 (by omega); simpa [World.cell?, hh, encS] using this

theorem pcs_all (p : Int → Prop) : ∀ (es : List En) (x : Int) (c : Int × Int), p x → (∀ e ∈ es, p e.1) → ∀ y ∈ pcs x c es, p y.1.1 ∧ p y.1.2
  | [], _, _, _, _, y, hy => by simp [pcs] at hy
  | e :: es, x, c, hx, he, y, hy => by
    rw [pcs, List.mem_append] at hy
    have h1 := he e List.mem_cons_self
    rcases hy with hy | hy
    · split at hy
      · simp at hy; subst hy; exact ⟨hx, h1⟩
      · cases hy
    · exact pcs_all p es _ _ h1 (fun e' h' => he e' (List.mem_cons_of_mem _ h')) y hy
theorem app_all (p : Int → Prop) (l : List Sp) (s : Sp) (hl : ∀ t ∈ l, p t.1 ∧ p t.2) (hs : p s.1 ∧ p s.2) : ∀ t ∈ app l s, p t.1 ∧ p t.2 := by
  rcases List.eq_nil_or_concat l with rfl | ⟨l, t, rfl⟩
  · intro t ht; simp [app] at ht; subst ht; exact hs
  · have hcat : l.concat t = l ++ [t] := by simp
    rw [hcat] at hl ⊢
    have ht := hl t (by simp)
    by_cases h : t.2 = s.1
    · rw [app_yes _ _ _ h]; intro u hu
      rcases List.mem_append.1 hu with hu | hu
      · exact hl u (by simp [hu])
      · simp at hu; subst hu; exact ⟨ht.1, hs.2⟩
    · rw [app_no _ _ _ h]; intro u hu
      rcases List.mem_append.1 hu with hu | hu
      · exact hl u hu
      · simp at hu; subst hu; exact hs
theorem gather_all (p : Int → Prop) (f : Bool → Bool → Bool) (l : List (Sp × (Int × Int))) (h : ∀ y ∈ l, p y.1.1 ∧ p y.1.2) : ∀ t ∈ gather f l, p t.1 ∧ p t.2 := by
  have key : ∀ (l : List (Sp × (Int × Int))) (acc : List Sp), (∀ y ∈ l, p y.1.1 ∧ p y.1.2) → (∀ t ∈ acc, p t.1 ∧ p t.2) → ∀ t ∈ l.foldl (fun acc x => if f (decide (0 < x.2.1)) (decide (0 < x.2.2)) then app acc x.1 else acc) acc, p t.1 ∧ p t.2 := by
    intro l
    induction l with
    | nil => intro acc _ h; simpa using h
    | cons x l ih =>
      intro acc hl ha
      rw [List.foldl_cons]
      refine ih _ (fun y hy => hl y (List.mem_cons_of_mem _ hy)) ?_
      split
      · exact app_all p _ _ ha (hl x List.mem_cons_self)
      · exact ha
  exact key l [] h (by simp)
theorem ends_all (p : Int → Prop) (a b : List Sp) (ha : ∀ s ∈ a, p s.1 ∧ p s.2) (hb : ∀ s ∈ b, p s.1 ∧ p s.2) : ∀ e ∈ endsL a b, p e.1 := by
  intro e he
  unfold endsL sortE at he
  rw [List.mem_mergeSort, List.mem_append] at he
  simp only [raw, List.mem_flatMap] at he
  rcases he with ⟨s, hs, h⟩ | ⟨s, hs, h⟩ <;> simp at h <;> rcases h with rfl | rfl
  · exact (ha s hs).1
  · exact (ha s hs).2
  · exact (hb s hs).1
  · exact (hb s hs).2
theorem comb_ints (f : Bool → Bool → Bool) (a b : List Sp) (ha : IS a) (hb : IS b) : IS (comb f a b).1 := by
  have h : IS (combL f a b) := gather_all I64 f _ (pcs_all I64 _ 0 (0, 0) (by constructor <;> decide) (ends_all I64 a b ha hb))
  unfold comb
  split
  · split
    · intro s hs; cases hs
    · exact h
  · intro s hs; cases hs
theorem comb_len (f : Bool → Bool → Bool) (a b : List Sp) : (comb f a b).1.length ≤ 1000 := by
  unfold comb
  split
  · split
    · simp
    · simp; omega
  · simp

section
variable (va vb : Value) (a b : List Sp) (w : World) (ha : Spans w va a) (hb : Spans w vb b)
include ha hb
theorem union_any : Calls Try.prog 13 #[va, vb] w fun e w' => ∃ v', e = .returned (.tuple #[v', .int .i64 (comb (· || ·) a b).2]) ∧ Spans w' v' (comb (· || ·) a b).1 ∧ Below w.heap.size w w' := by
  have hcon := combine_any 33 (· || ·) (enters_of Try.func33 (by kernel_rfl) rfl) union1_any va vb a b w ha hb
  have hi := comb_ints (· || ·) a b ha.ints hb.ints
  have hl := comb_len (· || ·) a b
  generalize comb (· || ·) a b = r at hcon hi hl ⊢
  go_enter Try.func13, Try.ntmps13
  go_wp2_with (go_at_call 32; refine hcon.mono ?_; rintro e w' ⟨v', rfl, hown, hx⟩)
  exact bodyPost_ret (results_tmp2 rfl _ _ _) rfl ⟨_, rfl, Spans.of_own hown hi (by omega), hx⟩
theorem meet_any : Calls Try.prog 16 #[va, vb] w fun e w' => ∃ v', e = .returned (.tuple #[v', .int .i64 (comb (· && ·) a b).2]) ∧ Spans w' v' (comb (· && ·) a b).1 ∧ Below w.heap.size w w' := by
  have hcon := combine_any 35 (· && ·) (enters_of Try.func35 (by kernel_rfl) rfl) meet1_any va vb a b w ha hb
  have hi := comb_ints (· && ·) a b ha.ints hb.ints
  have hl := comb_len (· && ·) a b
  generalize comb (· && ·) a b = r at hcon hi hl ⊢
  go_enter Try.func16, Try.ntmps16
  go_wp2_with (go_at_call 32; refine hcon.mono ?_; rintro e w' ⟨v', rfl, hown, hx⟩)
  exact bodyPost_ret (results_tmp2 rfl _ _ _) rfl ⟨_, rfl, Spans.of_own hown hi (by omega), hx⟩
theorem less_any : Calls Try.prog 18 #[va, vb] w fun e w' => ∃ v', e = .returned (.tuple #[v', .int .i64 (comb (fun x y => x && !y) a b).2]) ∧ Spans w' v' (comb (fun x y => x && !y) a b).1 ∧ Below w.heap.size w w' := by
  have hcon := combine_any 36 (fun x y => x && !y) (enters_of Try.func36 (by kernel_rfl) rfl) less1_any va vb a b w ha hb
  have hi := comb_ints (fun x y => x && !y) a b ha.ints hb.ints
  have hl := comb_len (fun x y => x && !y) a b
  generalize comb (fun x y => x && !y) a b = r at hcon hi hl ⊢
  go_enter Try.func18, Try.ntmps18
  go_wp2_with (go_at_call 32; refine hcon.mono ?_; rintro e w' ⟨v', rfl, hown, hx⟩)
  exact bodyPost_ret (results_tmp2 rfl _ _ _) rfl ⟨_, rfl, Spans.of_own hown hi (by omega), hx⟩
end

theorem one_any (x y : Int) (hx : I64 x) (hy : I64 y) (w : World) : Calls Try.prog 29 #[.int .i64 x, .int .i64 y] w fun e w' => ∃ v', e = .returned v' ∧ Spans w' v' [(x, y)] ∧ Below w.heap.size w w' := by
  have ho := Own.new w #[.int .i64 x, .int .i64 y] 42
  have hsp : Spans (w.alloc (.cells #[.int .i64 x, .int .i64 y] 42)) (.slice (some ⟨w.heap.size, 0, none⟩) 1 1) [(x, y)] := by
    refine ⟨⟨_, _, rfl⟩, fun ad n cap e i hi => ?_, fun s hs => ?_, by simp⟩
    · cases e
      obtain rfl : i = 0 := by simpa using hi
      exact ⟨_, rfl, ho.lt, ho.cell 0 _ rfl, ho.cell 1 _ rfl⟩
    · simp at hs; subst hs; exact ⟨hx, hy⟩
  go_enter Try.func29, Try.ntmps29
  go_wp2_with fail
  go_ret
  exact ⟨_, rfl, hsp, (Below.refl _ w).alloc (Nat.le_refl _) _⟩
end Go.Proofs.Ytfhhkbijcleedaa
