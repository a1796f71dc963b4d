/-
  'combine': the range over the pieces.
-/
import Derived.Test.YtfhhkbijcleedaaSpanApp
import Derived.Test.YtfhhkbijcleedaaSpanRef
namespace Go.Proofs.Ytfhhkbijcleedaa
open Go.RowKit Go.Shelf
attribute [local go_sem] Oper.semAt_some

set_option maxHeartbeats 1000000 in
theorem pieces_any (pa pb : Option Addr) (na ca nb cb : Nat) (w : World) : Calls Try.prog 37 #[.slice pa na ca, .slice pb nb cb] w fun e w' => e = .returned (.func (.func 40) #[] #[.pointer (some ⟨w.heap.size, 0, none⟩), .pointer (some ⟨w.heap.size + 1, 0, none⟩)]) ∧
    Own w' w.heap.size [.slice pa na ca] ∧ Own w' (w.heap.size + 1) [.slice pb nb cb] ∧ Below w.heap.size w w' := by
  have h1 := (Own.new w #[.slice pa na ca] 22).alloc (.cells #[.slice pb nb cb] 22)
  have h2 := Own.new (w.alloc (.cells #[.slice pa na ca] 22)) #[.slice pb nb cb] 22
  rw [World.size_alloc] at h2
  go_enter Try.func37, Try.ntmps37
  go_wp2_with fail
  go_ret
  exact ⟨rfl, h1, h2, ((Below.refl _ w).alloc (Nat.le_refl _) _).alloc (by simp) _⟩

theorem union1_any (x y : Bool) (w : World) : Calls Try.prog 33 #[.bool x, .bool y] w (Same (.bool (x || y)) w) := by
  cases x <;> cases y <;>
  · go_enter Try.func33, Try.ntmps33
    go_wp2_with fail
    go_ret
    exact Same.mk rfl rfl
theorem meet1_any (x y : Bool) (w : World) : Calls Try.prog 35 #[.bool x, .bool y] w (Same (.bool (x && y)) w) := by
  cases x <;> cases y <;>
  · go_enter Try.func35, Try.ntmps35
    go_wp2_with fail
    go_ret
    exact Same.mk rfl rfl
theorem less1_any (x y : Bool) (w : World) : Calls Try.prog 36 #[.bool x, .bool y] w (Same (.bool (x && !y)) w) := by
  cases x <;> cases y <;>
  · go_enter Try.func36, Try.ntmps36
    go_wp2_with fail
    go_ret
    exact Same.mk rfl rfl

def gather (f : Bool → Bool → Bool) (l : List (Sp × (Int × Int))) : List Sp := l.foldl (fun acc x => if f (decide (0 < x.2.1)) (decide (0 < x.2.2)) then app acc x.1 else acc) []
theorem gather_snoc (f : Bool → Bool → Bool) (l : List (Sp × (Int × Int))) (x : Sp × (Int × Int)) : gather f (l ++ [x]) = if f (decide (0 < x.2.1)) (decide (0 < x.2.2)) then app (gather f l) x.1 else gather f l := by
  simp [gather]
theorem app_length (l : List Sp) (s : Sp) : (app l s).length ≤ l.length + 1 := by
  rcases List.eq_nil_or_concat l with rfl | ⟨l, t, rfl⟩
  · simp [app]
  · have hcat : l.concat t = l ++ [t] := by simp
    rw [hcat]
    by_cases h : t.2 = s.1
    · rw [app_yes _ _ _ h]; simp
    · rw [app_no _ _ _ h]; simp
theorem gather_length (f : Bool → Bool → Bool) (l : List (Sp × (Int × Int))) : (gather f l).length ≤ l.length := by
  have key : ∀ (l : List (Sp × (Int × Int))) (acc : List Sp), (l.foldl (fun acc x => if f (decide (0 < x.2.1)) (decide (0 < x.2.2)) then app acc x.1 else acc) acc).length ≤ acc.length + l.length := by
    intro l
    induction l with
    | nil => intro acc; simp
    | cons x l ih =>
      intro acc
      rw [List.foldl_cons]
      have h2 := app_length acc x.1
      by_cases hc : f (decide (0 < x.2.1)) (decide (0 < x.2.2)) = true
      · have h1 := ih (app acc x.1)
        simp only [hc, if_true, List.length_cons]; omega
      · have h1 := ih acc
        simp only [hc, if_false, List.length_cons, Bool.false_eq_true]; omega
  simpa [gather] using key l []
theorem pcs_length : ∀ (es : List En) (x : Int) (c : Int × Int), (pcs x c es).length ≤ es.length
  | [], _, _ => by simp [pcs]
  | e :: es, x, c => by
    rw [pcs, List.length_append]
    have := pcs_length es e.1 (bump c e)
    split <;> simp <;> omega
def combL (f : Bool → Bool → Bool) (a b : List Sp) : List Sp := gather f (piecesL a b)
def comb (f : Bool → Bool → Bool) (a b : List Sp) : List Sp × Int :=
  if valid a && valid b then (if 1000 < (combL f a b).length then ([], 2) else (combL f a b, 0)) else ([], 1)

def InvC (w : World) (Bl B5 : Nat) (k : FuncId) (G : List Sp) (W : World) : Prop :=
  ∃ v, W.heap[Bl]? = some (.cells #[v] 22 (0, 0)) ∧ W.heap[B5]? = some (.cells #[.func (.func k) #[] #[]] 45 (0, 0)) ∧ W.ownsRow w.heap.size 42 2 v G.length (G.flatMap encS) ∧ Below w.heap.size w W

theorem InvC.abide {w : World} {Bl B5 : Nat} {k : FuncId} {B : Nat} (hB : w.heap.size ≤ B) (G : List (Sp × (Int × Int)) → List Sp) : Abide (keepI 50) B (fun pre W => InvC w Bl B5 k (G pre) W) := by
  rintro s W W' ⟨v, h1, h2, ⟨h0, h3⟩, h4⟩ ht
  refine ⟨v, ht.2 _ _ h1 rfl, ht.2 _ _ h2 rfl, ⟨h0, ?_⟩, h4.trans (ht.1.mono hB)⟩
  rcases h3 with h3 | ⟨g, cap, cur, hv, hg, hh, hr⟩
  · exact .inl h3
  · exact .inr ⟨g, cap, cur, hv, hg, ht.2 _ _ hh rfl, hr⟩

theorem Kp.of_below {W W' : World} (h : Below W.heap.size W W') : Kp W W' := ⟨h.size, fun k _ _ _ hk _ => (h.block k (Array.getElem?_eq_some_iff.1 hk).1).trans hk⟩
theorem KeepsFrom.of_below {B : Nat} {W W' : World} (h : Below W.heap.size W W') : KeepsFrom B W W' := ⟨h.size, fun k _ _ hk _ => (h.block k (Array.getElem?_eq_some_iff.1 hk).1).trans hk⟩

theorem store_post {w W2 W3 : World} {Bl B5 B : Nat} {k : FuncId} {G : List Sp} {v v' : Value} (h1 : W2.heap[Bl]? = some (.cells #[v] 22 (0, 0))) (h2 : W2.heap[B5]? = some (.cells #[.func (.func k) #[] #[]] 45 (0, 0)))
    (hx : Below w.heap.size w W2) (hBl : w.heap.size ≤ Bl) (ht : Turn (keepJ 42) w.heap.size W2 W3) (hown : W3.ownsRow w.heap.size 42 2 v' G.length (G.flatMap encS)) :
    KeepsFrom B W2 (W3.setCell ⟨Bl, 0, none⟩ v') ∧ Kp W2 (W3.setCell ⟨Bl, 0, none⟩ v') ∧ InvC w Bl B5 k G (W3.setCell ⟨Bl, 0, none⟩ v') := by
  have h3 := ht.2 _ _ h1 rfl
  have hs : W2.heap.size ≤ (W3.setCell ⟨Bl, 0, none⟩ v').heap.size := by have := ht.1.size; simpa using this
  have hoth : ∀ (i : Nat) (o : Obj), i ≠ Bl → W3.heap[i]? = some o → (W3.setCell ⟨Bl, 0, none⟩ v').heap[i]? = some o := fun i o hi ho => (Below.heap_setCell W3 ⟨Bl, 0, none⟩ v' i hi).trans ho
  refine ⟨⟨hs, fun i o _ hi ho => ?_⟩, ⟨hs, fun i xs t fr hi n1 => ?_⟩, ?_⟩
  · refine hoth i o (fun e => ?_) (ht.2 _ _ hi (by cases o <;> simp_all [keepJ, Obj.isCells]))
    subst e; rw [h1] at hi; cases hi; cases ho
  · refine hoth i _ (fun e => ?_) (ht.2 _ _ hi (by rcases n1 with rfl | rfl <;> rfl))
    subst e; rw [h1] at hi; cases hi; simp at n1
  · refine ⟨v', one_setCell h3, hoth _ _ (fun e => ?_) (ht.2 _ _ h2 rfl), ?_, (hx.trans ht.1).setCell hBl v'⟩
    · subst e; rw [h1] at h2; cases h2
    · obtain ⟨q0, q1 | ⟨g, cap, cur, hv, hg, hh, hr⟩⟩ := hown
      · exact ⟨q0, .inl q1⟩
      · exact ⟨q0, .inr ⟨g, cap, cur, hv, hg, hoth _ _ (fun e => by subst e; rw [h3] at hh; cases hh) hh, hr⟩⟩

set_option maxHeartbeats 4000000 in
theorem combine_any (k : FuncId) (f : Bool → Bool → Bool) (hen : ∀ args w, (callFunc k args).run Try.prog w = .ok (.enter k args) w) (hf : ∀ x y w, Calls Try.prog k #[.bool x, .bool y] w (Same (.bool (f x y)) w)) (va vb : Value) (a b : List Sp) (w : World) (ha : Spans w va a) (hb0 : Spans w vb b) :
    Calls Try.prog 32 #[va, vb, .func (.func k) #[] #[]] w fun e w' => ∃ v', e = .returned (.tuple #[v', .int .i64 (comb f a b).2]) ∧ w'.ownsRow w.heap.size 42 2 v' (comb f a b).1.length ((comb f a b).1.flatMap encS) ∧ Below w.heap.size w w' := by
  obtain ⟨ada, capa, rfl, _⟩ := ha.open
  obtain ⟨adb, capb, rfl, _⟩ := hb0.open
  refine (callsIn_wide (n := 9)).1 ?_
  refine callsIn_of_wp_marks Try.func32 rfl trivial ?_ rfl
  simp only [Try.ntmps32, List.size_toArray, List.length_cons, List.length_nil, Nat.reduceAdd, Nat.reduceSub, Array.replicate_succ, Array.replicate_zero, List.push_toArray, List.append_toArray, List.nil_append, List.cons_append]
  have ha1 := ha.below ((Below.refl _ w).alloc (Nat.le_refl _) (.cells #[.func (.func k) #[] #[]] 45))
  have hv1 := valid_any _ a _ ha1
  gi_wp2
  refine ⟨trivial, ?_⟩
  refine (callsIn_wide.2 hv1).mono ?_
  rintro e w1 ⟨rfl, hx1⟩
  clear hv1
  have hB0 : Below w.heap.size w (w.alloc (.cells #[.func (.func k) #[] #[]] 45)) := (Below.refl _ w).alloc (Nat.le_refl _) _
  have hk1 : w1.heap[w.heap.size]? = some (.cells #[.func (.func k) #[] #[]] 45 (0, 0)) := (hx1.block _ (by simp)).trans (blk_new w _)
  replace hx1 : Below w.heap.size w w1 := hB0.trans (hx1.mono hB0.size)
  have ha1 := ha.below hx1
  have hb1 := hb0.below hx1
  clear ha hb0 hB0
  cases hva : valid a with
  | false =>
    have hcomb : comb f a b = ([], 1) := by simp [comb, hva]
    gi_wp2
    refine ⟨trivial, ?_⟩
    gi_wp2
    exact ⟨_, results_tmp2 rfl _ _ _, .slice none 0 0, by rw [hcomb]; rfl, by rw [hcomb]; exact World.ownsRow_nil _ _ _ _, hx1⟩
  | true =>
    have hv2 := valid_any _ b _ hb1
    gi_wp2
    refine ⟨trivial, ?_⟩
    refine (callsIn_wide.2 hv2).mono ?_
    rintro e w2 ⟨rfl, hx2⟩
    clear hv2
    have hk2 := (hx2.block _ (Array.getElem?_eq_some_iff.1 hk1).1).trans hk1
    have ha2 := ha1.below hx2
    have hb2 := hb1.below hx2
    replace hx2 : Below w.heap.size w w2 := hx1.trans (hx2.mono hx1.size)
    clear ha1 hb1 hx1 hk1
    cases hvb : valid b with
    | false =>
      have hcomb : comb f a b = ([], 1) := by simp [comb, hva, hvb]
      gi_wp2
      exact ⟨_, results_tmp2 rfl _ _ _, .slice none 0 0, by rw [hcomb]; rfl, by rw [hcomb]; exact World.ownsRow_nil _ _ _ _, hx2⟩
    | true =>
      have hab0 : a.length + b.length ≤ 3000 := by have := valid_len hva; have := valid_len hvb; omega
      have hB3 : Below w2.heap.size w2 (w2.alloc (.cells #[.slice none 0 0] 22)) := (Below.refl _ w2).alloc (Nat.le_refl _) _
      have hl3 := blk_new w2 (.cells #[.slice none 0 0] 22)
      have hk3 := blk_alloc hk2 (.cells #[.slice none 0 0] 22)
      have hpc := pieces_any ada adb a.length capa b.length capb (w2.alloc (.cells #[.slice none 0 0] 22))
      gi_wp2
      refine ⟨trivial, ?_⟩
      refine (callsIn_wide.2 hpc).mono ?_
      rintro e w3 ⟨rfl, hOa, hOb, hx3⟩
      clear hpc
      simp only [World.size_alloc] at hOa hOb
      have hl4 := (hx3.block _ (by simp)).trans hl3
      have hk4 := (hx3.block _ (Array.getElem?_eq_some_iff.1 hk3).1).trans hk3
      have hx4 : Below w.heap.size w w3 := (hx2.trans (hB3.mono hx2.size)).trans (hx3.mono (by have := hx2.size; simp; omega))
      have ha4 := (ha2.below hB3).below hx3
      have hb4 := (hb2.below hB3).below hx3
      have hs3 := hx3.size
      rw [World.size_alloc] at hs3
      clear hx3 hB3 ha2 hb2 hl3 hk3 hk2
      gi_wp2
      have hcomb : comb f a b = if 1000 < (combL f a b).length then ([], 2) else (combL f a b, 0) := by simp [comb, hva, hvb]
      clear hva hvb
      have hpl : (piecesL a b).length ≤ 6000 := by have h := pcs_length (endsL a b) 0 (0, 0); rw [ends_len] at h; unfold piecesL; omega
      refine range_gives (T := 50) (Kp := Kp) (xs := piecesL a b) (encs := encP) rfl (by omega) rfl trivial (enters_of Try.func40 (by kernel_rfl) rfl)
        (pieces1_gives _ _ _ _ a b _ w3 (by omega) ha4 hb4 hab0 hOa hOb) ?kt ?kb (Below.refl _ _) (fun _ => rfl)
        (fun pre W => InvC w w2.heap.size w.heap.size k (gather f pre) W) (InvC.abide hx4.size (gather f)) ?start ?round ?done
      case kt => exact fun h1 h2 => ⟨Nat.le_trans h1.1 h2.1, fun i xs t fr hi n1 => h2.2 i xs t fr (h1.2 i xs t fr hi n1) n1⟩
      case kb =>
        refine fun W l o o' hl ho => ⟨by simp, fun i xs t fr hi _ => ?_⟩
        rw [World.putObj_heap_other (fun e => ?_)]
        · exact hi
        · subst e; rw [hl] at hi; cases hi; cases ho
      case start => exact ⟨_, hl4, hk4, World.ownsRow_nil _ _ _ _, hx4⟩
      case round =>
        rintro l pre x W hwl ⟨v, g1, g2, g3, g4⟩ hlen
        obtain ⟨⟨x0, x1⟩, c0, c1⟩ := x
        simp only [encP]
        gi_wp2
        have hA : Below W.heap.size W ((W.alloc (.cells #[.int .i64 x0, .int .i64 x1] 42)).alloc (.cells #[.int .i64 c0, .int .i64 c1] 50)) := ((Below.refl _ W).alloc (Nat.le_refl _) _).alloc (by simp) _
        have hn1 := blk_alloc (blk_new W (.cells #[.int .i64 x0, .int .i64 x1] 42)) (.cells #[.int .i64 c0, .int .i64 c1] 50)
        have hn2 := blk_new (W.alloc (.cells #[.int .i64 x0, .int .i64 x1] 42)) (.cells #[.int .i64 c0, .int .i64 c1] 50)
        rw [World.size_alloc] at hn2
        refine ⟨KeepsFrom.of_below hA, Kp.of_below hA, fun W2 ht _ hcl => ?_⟩
        replace hn1 := hcl _ _ hn1 rfl
        replace hn2 := hcl _ _ hn2 rfl
        replace g1 := hcl _ _ ((hA.block _ (Array.getElem?_eq_some_iff.1 g1).1).trans g1) rfl
        replace g2 := hcl _ _ ((hA.block _ (Array.getElem?_eq_some_iff.1 g2).1).trans g2) rfl
        replace g3 : W2.ownsRow w.heap.size 42 2 v (gather f pre).length ((gather f pre).flatMap encS) := by
          obtain ⟨q0, q1 | ⟨g, cap, cur, hv, hg, hh, hr⟩⟩ := g3
          · exact ⟨q0, .inl q1⟩
          · exact ⟨q0, .inr ⟨g, cap, cur, hv, hg, hcl _ _ ((hA.block _ (Array.getElem?_eq_some_iff.1 hh).1).trans hh) rfl, hr⟩⟩
        replace g4 : Below w.heap.size w W2 := (g4.trans (hA.mono g4.size)).trans (ht.1.mono hx4.size)
        clear hA ht hcl
        have hgl := gather_length f pre
        have hsn := gather_snoc f pre ((x0, x1), c0, c1)
        obtain ⟨a0, a1, _, _, _⟩ := blk2 hn1
        obtain ⟨d0, d1, _, _, _⟩ := blk2 hn2
        have b1 := cell_of_one g1
        have b2 := cell_of_one g2
        have b1f := free_of_one g1
        have hf1 := hf (decide (0 < c0)) (decide (0 < c1)) W2
        simp only at hsn
        generalize f (decide (0 < c0)) (decide (0 < c1)) = r at hf1 hsn
        gi_wp2
        refine ⟨trivial, ?_⟩
        refine (CallsIn.inRound l (callsIn_wide.2 hf1)).mono ?_
        rintro e W3 ⟨rfl, rfl⟩
        cases r with
        | false =>
          gi_wp2
          exact ⟨KeepsFrom.of_below (Below.refl _ _), Kp.of_below (Below.refl _ _), v, g1, g2, g3, g4⟩
        | true =>
          have happ := appended_any v (gather f pre) (x0, x1) W2 w.heap.size g3 g4.size (by omega)
          gi_wp2
          refine ⟨trivial, ?_⟩
          refine (CallsIn.inRound l (callsIn_wide.2 happ)).mono ?_
          rintro e W3 ⟨v', rfl, hown, ht⟩
          have h3 := ht.2 _ _ g1 rfl
          have u1 := cell_of_one h3
          have u2 := free_of_one h3
          obtain ⟨p', cap', rfl⟩ := own_shape hown
          have hpost := store_post (B := w3.heap.size) g1 g2 g4 hx2.size ht hown
          clear happ hf1 b1 b2 b1f
          gi_wp2
      case done =>
        rintro D W hD ⟨v, g1, g2, g3, g4⟩ hdf
        have hgp : gather f (piecesL a b) = combL f a b := rfl
        rw [hgp] at g3
        have b1 := cell_of_one g1
        obtain ⟨p', cap', rfl⟩ := own_shape g3
        generalize combL f a b = L at g3 hcomb b1
        have hL : L.length ≤ 9223372036854775807 := by
          obtain ⟨_, ⟨_, h⟩ | ⟨_, _, _, _, _, _, h1, h2, _⟩⟩ := g3
          · omega
          · exact Nat.le_trans h1 (by unfold maxLen at h2; exact h2)
        by_cases h1000 : 1000 < L.length
        · rw [if_pos h1000] at hcomb
          gi_wp2
          refine ⟨by simp, .inl ⟨_, _, rfl, run_takeDeferred hdf, ?_⟩⟩
          exact ⟨_, results_tmp2 rfl _ _ _, .slice none 0 0, by rw [hcomb]; rfl, by rw [hcomb]; exact World.ownsRow_nil _ _ _ _, g4.trans (Turn.putObj (T := 50) (Nat.le_trans hx4.size hD) hdf rfl).1⟩
        · rw [if_neg h1000] at hcomb
          gi_wp2
          refine ⟨by simp, .inl ⟨_, _, rfl, run_takeDeferred hdf, ?_⟩⟩
          exact ⟨_, results_tmp2 rfl _ _ _, .slice p' L.length cap', by rw [hcomb]; rfl, by rw [hcomb]; exact ownsRow_putObj g3 _ hdf rfl, g4.trans (Turn.putObj (T := 50) (Nat.le_trans hx4.size hD) hdf rfl).1⟩
end Go.Proofs.Ytfhhkbijcleedaa
