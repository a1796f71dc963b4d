/-
  What the reference's loops compute: next, combine, Most.
-/
import Derived.Test.YtfhhkbijcleedaaSpanMostMath
namespace Go.Proofs.Ytfhhkbijcleedaa
open Go.RowKit

def nx1 (n v least : Int) : Int := if n < v ∧ (least < 0 ∨ v < least) then v else least
def nxS (n : Int) (least : Int) (s : Sp) : Int := nx1 n s.2 (nx1 n s.1 least)
def nextL (a b : List Sp) (n : Int) : Int := (a ++ b).foldl (nxS n) (-1)
/-- least is the least of the ends beyond n that have come, or -1 -/
def NxI (n : Int) (l : List Sp) (r : Int) : Prop :=
  (r = -1 ∧ ∀ s ∈ l, s.1 ≤ n ∧ s.2 ≤ n) ∨ (n < r ∧ (∃ s ∈ l, r = s.1 ∨ r = s.2) ∧ ∀ s ∈ l, (n < s.1 → r ≤ s.1) ∧ (n < s.2 → r ≤ s.2))
theorem nx_fold (n : Int) (h0 : 0 ≤ n) : ∀ (l pre : List Sp) (r : Int), NxI n pre r → NxI n (pre ++ l) (l.foldl (nxS n) r)
  | [], pre, r, h => by simpa using h
  | s :: l, pre, r, h => by
    rw [List.foldl_cons, show pre ++ s :: l = (pre ++ [s]) ++ l by simp]
    refine nx_fold n h0 l (pre ++ [s]) _ ?_
    have hmem : ∀ (P : Sp → Prop), (∀ t ∈ pre ++ [s], P t) ↔ (∀ t ∈ pre, P t) ∧ P s := by
      intro P; simp only [List.mem_append, List.mem_singleton]
      exact ⟨fun h => ⟨fun t ht => h t (.inl ht), h s (.inr rfl)⟩, fun h t ht => ht.elim (h.1 t) (fun e => e ▸ h.2)⟩
    have hs : s ∈ pre ++ [s] := by simp
    have hp : ∀ t ∈ pre, t ∈ pre ++ [s] := fun t ht => by simp [ht]
    unfold nxS nx1
    rcases h with ⟨rfl, h⟩ | ⟨h1, ⟨t, ht, hte⟩, h2⟩
    · by_cases c1 : n < s.1
      · rw [if_pos (⟨c1, by omega⟩ : n < s.1 ∧ ((-1 : Int) < 0 ∨ s.1 < -1))]
        by_cases c2 : n < s.2 ∧ (s.1 < 0 ∨ s.2 < s.1)
        · rw [if_pos c2]
          exact .inr ⟨c2.1, ⟨s, hs, .inr rfl⟩, (hmem _).2 ⟨fun t ht => by have := h t ht; omega, by omega⟩⟩
        · rw [if_neg c2]
          exact .inr ⟨c1, ⟨s, hs, .inl rfl⟩, (hmem _).2 ⟨fun t ht => by have := h t ht; omega, by omega⟩⟩
      · rw [if_neg (by omega : ¬ (n < s.1 ∧ ((-1 : Int) < 0 ∨ s.1 < -1)))]
        by_cases c2 : n < s.2
        · rw [if_pos ⟨c2, by omega⟩]
          exact .inr ⟨c2, ⟨s, hs, .inr rfl⟩, (hmem _).2 ⟨fun t ht => by have := h t ht; omega, by omega⟩⟩
        · rw [if_neg (by omega)]
          exact .inl ⟨rfl, (hmem _).2 ⟨h, by omega⟩⟩
    · by_cases c1 : n < s.1 ∧ (r < 0 ∨ s.1 < r)
      · rw [if_pos c1]
        by_cases c2 : n < s.2 ∧ (s.1 < 0 ∨ s.2 < s.1)
        · rw [if_pos c2]
          exact .inr ⟨c2.1, ⟨s, hs, .inr rfl⟩, (hmem _).2 ⟨fun t ht => by have := h2 t ht; omega, by omega⟩⟩
        · rw [if_neg c2]
          exact .inr ⟨c1.1, ⟨s, hs, .inl rfl⟩, (hmem _).2 ⟨fun t ht => by have := h2 t ht; omega, by omega⟩⟩
      · rw [if_neg c1]
        by_cases c2 : n < s.2 ∧ (r < 0 ∨ s.2 < r)
        · rw [if_pos c2]
          exact .inr ⟨c2.1, ⟨s, hs, .inr rfl⟩, (hmem _).2 ⟨fun t ht => by have := h2 t ht; omega, by omega⟩⟩
        · rw [if_neg c2]
          exact .inr ⟨h1, ⟨t, hp t ht, hte⟩, (hmem _).2 ⟨h2, by omega⟩⟩
theorem next_ok (a b : List Sp) (n : Int) (h0 : 0 ≤ n) : NxI n (a ++ b) (nextL a b n) := by
  have := nx_fold n h0 (a ++ b) [] (-1) (.inl ⟨rfl, fun s hs => (by cases hs)⟩)
  rw [List.nil_append] at this; exact this

/-- the loop of the reference's combine -/
structure RInv (f : Bool → Bool → Bool) (a b : List Sp) (at_ : Int) (out : List Sp) : Prop where
  pos : 0 ≤ at_
  inc : okFrom (-1) out = true
  last : lastU (-1) out ≤ at_
  mem : ∀ n, has out n = (decide (n < at_) && f (has a n) (has b n))
theorem has_neg (l : List Sp) (h : Bd l) (n : Int) (hn : n < 0) : has l n = false := by
  rw [has, List.any_eq_false]; intro s hs; have := h s hs; simp [isIn]; omega
theorem RInv.start (f : Bool → Bool → Bool) (hf : f false false = false) (a b : List Sp) (ha : Bd a) (hb : Bd b) : RInv f a b 0 [] :=
  ⟨by omega, rfl, by decide, fun n => by
    rw [has_nil]
    by_cases hn : n < 0
    · rw [has_neg a ha n hn, has_neg b hb n hn, hf]; simp
    · simp [hn]⟩
theorem has_const (l : List Sp) (at_ e n : Int) (h : ∀ s ∈ l, (at_ < s.1 → e ≤ s.1) ∧ (at_ < s.2 → e ≤ s.2)) (h1 : at_ ≤ n) (h2 : n < e) : has l n = has l at_ := by
  induction l with
  | nil => rfl
  | cons s l ih =>
    rw [has_cons, has_cons, ih (fun t ht => h t (List.mem_cons_of_mem _ ht))]
    have := h s List.mem_cons_self
    congr 1
    rw [Bool.eq_iff_iff]; simp [isIn]; omega
theorem RInv.step {f : Bool → Bool → Bool} {a b : List Sp} {at_ : Int} {out : List Sp} (h : RInv f a b at_ out) (ha : Bd a) (hb : Bd b) (hpos : 0 < nextL a b at_) :
    at_ < nextL a b at_ ∧ nextL a b at_ ≤ 1000000000 ∧ RInv f a b (nextL a b at_) (if f (has a at_) (has b at_) then app out (at_, nextL a b at_) else out) := by
  rcases next_ok a b at_ h.pos with ⟨h1, _⟩ | ⟨h1, ⟨s, hs, he⟩, h2⟩
  · omega
  · have hle : nextL a b at_ ≤ 1000000000 := by
      rcases List.mem_append.1 hs with hs | hs
      · have := ha s hs; omega
      · have := hb s hs; omega
    have hca := fun n => has_const a at_ (nextL a b at_) n (fun t ht => h2 t (List.mem_append_left _ ht))
    have hcb := fun n => has_const b at_ (nextL a b at_) n (fun t ht => h2 t (List.mem_append_right _ ht))
    refine ⟨h1, hle, ?_⟩
    cases hf : f (has a at_) (has b at_) with
    | true =>
      obtain ⟨k1, k2, k3⟩ := app_ok out (at_, nextL a b at_) h.inc h.last h.pos h1 hle
      simp only [if_true]
      refine ⟨by omega, k1, by rw [k2]; exact Int.le_refl _, fun n => ?_⟩
      rw [k3 n, h.mem n]
      by_cases c1 : n < at_
      · have : isIn n (at_, nextL a b at_) = false := by simp [isIn]; omega
        have c2 : n < nextL a b at_ := by omega
        rw [this]; simp [c1, c2]
      · by_cases c2 : n < nextL a b at_
        · have : isIn n (at_, nextL a b at_) = true := by simp [isIn]; omega
          rw [this, hca n (by omega) c2, hcb n (by omega) c2, hf]; simp [c2]
        · have : isIn n (at_, nextL a b at_) = false := by simp [isIn]; omega
          rw [this]; simp [c1, c2]
    | false =>
      simp only [Bool.false_eq_true, if_false]
      refine ⟨by omega, h.inc, by have := h.last; omega, fun n => ?_⟩
      rw [h.mem n]
      by_cases c1 : n < at_
      · have c2 : n < nextL a b at_ := by omega
        simp [c1, c2]
      · by_cases c2 : n < nextL a b at_
        · rw [hca n (by omega) c2, hcb n (by omega) c2, hf]; simp
        · simp [c1, c2]
theorem RInv.finish {f : Bool → Bool → Bool} (hf : f false false = false) {a b : List Sp} {at_ : Int} {out : List Sp} (h : RInv f a b at_ out) (ha : Bd a) (hb : Bd b) (hneg : ¬ 0 < nextL a b at_) : out = combL f a b := by
  have hc := combL_ok f hf a b ha hb
  refine set_ext out _ (-1) (-1) h.inc hc.1 fun n => ?_
  rw [h.mem n, hc.2 n]
  rcases next_ok a b at_ h.pos with ⟨_, h1⟩ | ⟨h1, _⟩
  · by_cases c1 : n < at_
    · simp [c1]
    · have hz : ∀ l : List Sp, (∀ s ∈ l, s ∈ a ++ b) → has l n = false := by
        intro l hl
        rw [has, List.any_eq_false]; intro s hs; have := h1 s (hl s hs); simp [isIn]; omega
      rw [hz a (fun s hs => List.mem_append_left _ hs), hz b (fun s hs => List.mem_append_right _ hs), hf]; simp
  · have := h.pos; omega
theorem ok_len : ∀ (l : List Sp) (x : Int), okFrom x l = true → x + l.length ≤ lastU x l
  | [], x, _ => by simp [lastU]
  | s :: l, x, h => by
    simp only [okFrom, Bool.and_eq_true, decide_eq_true_eq, wf] at h
    have ih := ok_len l s.2 h.2
    rw [lastU_cons]; simp only [List.length_cons]; omega

/-! ### the reference's Most -/
def rm (l : List Sp) (acc : Int × Int) (s : Sp) : Int × Int := if acc.2 < deep l s.1 ∨ (deep l s.1 = acc.2 ∧ s.1 < acc.1) then (s.1, deep l s.1) else acc
def rmostL (l : List Sp) : Int × Int := l.foldl (rm l) (0, 0)
theorem rm_fold (l : List Sp) (hl : ∀ s ∈ l, 1 ≤ deep l s.1) : ∀ (m pre : List Sp) (acc : Int × Int), (∀ s ∈ m, s ∈ l) → (∀ s ∈ pre, deep l s.1 ≤ acc.2 ∧ (deep l s.1 = acc.2 → acc.1 ≤ s.1)) → ((acc = (0, 0) ∧ pre = []) ∨ ∃ s ∈ pre, acc = (s.1, deep l s.1)) →
    (∀ s ∈ pre ++ m, deep l s.1 ≤ (m.foldl (rm l) acc).2 ∧ (deep l s.1 = (m.foldl (rm l) acc).2 → (m.foldl (rm l) acc).1 ≤ s.1)) ∧ ((m.foldl (rm l) acc = (0, 0) ∧ pre ++ m = []) ∨ ∃ s ∈ pre ++ m, m.foldl (rm l) acc = (s.1, deep l s.1))
  | [], pre, acc, _, h1, h2 => by rw [List.append_nil]; exact ⟨h1, h2⟩
  | s :: m, pre, acc, hm, h1, h2 => by
    rw [List.foldl_cons, show pre ++ s :: m = (pre ++ [s]) ++ m by simp]
    have hs := hl s (hm s List.mem_cons_self)
    refine rm_fold l hl m (pre ++ [s]) _ (fun t ht => hm t (List.mem_cons_of_mem _ ht)) ?_ ?_
    · intro t ht
      unfold rm
      rcases List.mem_append.1 ht with ht | ht
      · have := h1 t ht
        split
        · simp only; omega
        · exact this
      · simp only [List.mem_singleton] at ht; subst ht
        split
        · simp only; omega
        · omega
    · unfold rm
      split
      · exact .inr ⟨s, by simp, rfl⟩
      · rcases h2 with ⟨rfl, rfl⟩ | ⟨t, ht, e⟩
        · next hc => exact absurd (.inl (by simp only; omega)) hc
        · exact .inr ⟨t, by simp [ht], e⟩
theorem deep_le_of (l : List Sp) (n m : Int) (h : ∀ s ∈ l, isIn n s = true → isIn m s = true) : deep l n ≤ deep l m := by
  induction l with
  | nil => simp [deep]
  | cons s l ih =>
    have := ih (fun t ht => h t (List.mem_cons_of_mem _ ht))
    have h1 := h s List.mem_cons_self
    simp only [deep]
    cases c1 : isIn n s with
    | true => rw [h1 c1]; omega
    | false => simp only [Bool.false_eq_true, if_false]; split <;> omega
theorem top_start : ∀ (l : List Sp) (n : Int), deep l n ≠ 0 → ∃ s ∈ l, isIn n s = true ∧ ∀ t ∈ l, isIn n t = true → t.1 ≤ s.1
  | [], n, h => by simp [deep] at h
  | s :: l, n, h => by
    by_cases hl : deep l n = 0
    · have hi : isIn n s = true := by
        cases hc : isIn n s with
        | true => rfl
        | false => simp [deep, hc, hl] at h
      refine ⟨s, List.mem_cons_self, hi, fun t ht hti => ?_⟩
      rcases List.mem_cons.1 ht with rfl | ht
      · exact Int.le_refl _
      · have h3 := deep_pos l n
        rw [hl] at h3
        have : has l n = true := List.any_eq_true.2 ⟨t, ht, hti⟩
        rw [this] at h3; simp at h3
    · obtain ⟨t, ht, hti, hmax⟩ := top_start l n hl
      by_cases hc : isIn n s = true ∧ t.1 < s.1
      · refine ⟨s, List.mem_cons_self, hc.1, fun u hu hui => ?_⟩
        rcases List.mem_cons.1 hu with rfl | hu
        · exact Int.le_refl _
        · have := hmax u hu hui; omega
      · refine ⟨t, List.mem_cons_of_mem _ ht, hti, fun u hu hui => ?_⟩
        rcases List.mem_cons.1 hu with rfl | hu
        · by_cases h5 : t.1 < u.1
          · exact absurd ⟨hui, h5⟩ hc
          · omega
        · exact hmax u hu hui
theorem rmost_eq (l : List Sp) (hl : Bd l) : rmostL l = mostL l := by
  by_cases hne : l = []
  · subst hne
    have h : endsL [] [] = [] := by simp [endsL, sortE, raw]
    simp [rmostL, mostL, piecesL, h, pcs]
  · have hd : ∀ s ∈ l, 1 ≤ deep l s.1 := fun s hs => by
      have h1 := deep_pos l s.1
      have h2 : has l s.1 = true := List.any_eq_true.2 ⟨s, hs, by have := hl s hs; simp [isIn]; omega⟩
      rw [h2] at h1; simp at h1; omega
    obtain ⟨h1, h2⟩ := rm_fold l hd l [] (0, 0) (fun s hs => hs) (fun s hs => (by cases hs)) (.inl ⟨rfl, rfl⟩)
    have hr : l.foldl (rm l) (0, 0) = rmostL l := rfl
    rw [hr, List.nil_append] at h1 h2
    rcases h2 with ⟨_, h2⟩ | ⟨s, hs, e⟩
    · exact absurd h2 hne
    · have key : ∀ n, deep l n ≤ (rmostL l).2 ∧ (deep l n < (rmostL l).2 ∨ (rmostL l).1 ≤ n) := by
        intro n
        have hp : 1 ≤ (rmostL l).2 := by rw [e]; exact hd s hs
        by_cases hz : deep l n = 0
        · rw [hz]; exact ⟨by omega, .inl (by omega)⟩
        · obtain ⟨t, ht, hti, hmax⟩ := top_start l n hz
          have hle : deep l n ≤ deep l t.1 := deep_le_of l n t.1 fun u hu hui => by
            have := hmax u hu hui
            simp [isIn] at hui hti ⊢; omega
          have g1 := h1 t ht
          have : t.1 ≤ n := by simp [isIn] at hti; omega
          refine ⟨by omega, ?_⟩
          by_cases g2 : deep l n < (rmostL l).2
          · exact .inl g2
          · right; have := g1.2 (by omega); omega
      have e1 : deep l (rmostL l).1 = (rmostL l).2 := by rw [e]
      obtain ⟨m1, _, _, _⟩ := most_ok l hl hne 0
      obtain ⟨_, _, m3, m4⟩ := most_ok l hl hne (rmostL l).1
      have k := key (mostL l).1
      rw [e1] at m3 m4
      rw [m1] at k
      exact Prod.ext (by omega) (by omega)
end Go.Proofs.Ytfhhkbijcleedaa
