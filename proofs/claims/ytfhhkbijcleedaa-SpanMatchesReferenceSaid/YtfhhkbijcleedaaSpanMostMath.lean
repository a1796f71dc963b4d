/-
  What Most finds: the first number that is in most spans.
-/
import Derived.Test.YtfhhkbijcleedaaSpanMath
namespace Go.Proofs.Ytfhhkbijcleedaa
open Go.RowKit

theorem pcs_nz : ∀ (es : List En) (x : Int) (c : Int × Int), ∀ y ∈ pcs x c es, ¬ y.2 = (0, 0)
  | [], _, _, y, hy => by simp [pcs] at hy
  | e :: es, x, c, y, hy => by
    rw [pcs, List.mem_append] at hy
    rcases hy with hy | hy
    · split at hy
      · next h => simp at hy; subst hy; intro hc; simp only [Prod.ext_iff] at hc; exact h.2 hc
      · cases hy
    · exact pcs_nz es _ _ y hy
theorem ch_mem : ∀ (l : List (Sp × (Int × Int))) (x : Int), Ch x l → ∀ y ∈ l, x ≤ y.1.1 ∧ y.1.1 < y.1.2
  | [], _, _, y, hy => by cases hy
  | z :: l, x, h, y, hy => by
    rcases List.mem_cons.1 hy with rfl | hy
    · exact ⟨h.1, h.2.1⟩
    · have := ch_mem l _ h.2.2.2 y hy; exact ⟨by have := h.1; have := h.2.1; omega, this.2⟩
theorem most_fold : ∀ (ps : List (Sp × (Int × Int))) (x : Int) (acc : Int × Int), Ch x ps →
    acc.2 ≤ (ps.foldl mostStep acc).2 ∧ (∀ y ∈ ps, y.2.1 ≤ (ps.foldl mostStep acc).2) ∧
    (ps.foldl mostStep acc = acc ∨ ∃ y ∈ ps, ps.foldl mostStep acc = (y.1.1, y.2.1) ∧ acc.2 < y.2.1 ∧ ∀ y' ∈ ps, y'.1.1 < y.1.1 → y'.2.1 < y.2.1)
  | [], _, acc, _ => ⟨Int.le_refl _, fun y hy => (by cases hy), .inl rfl⟩
  | z :: l, x, acc, h => by
    rw [List.foldl_cons]
    obtain ⟨i1, i2, i3⟩ := most_fold l z.1.2 (mostStep acc z) h.2.2.2
    have hz : acc.2 ≤ (mostStep acc z).2 ∧ z.2.1 ≤ (mostStep acc z).2 := by unfold mostStep; split <;> simp <;> omega
    refine ⟨by omega, fun y hy => ?_, ?_⟩
    · rcases List.mem_cons.1 hy with rfl | hy
      · omega
      · exact i2 y hy
    · rcases i3 with i3 | ⟨y, hy, e, hlt, hfirst⟩
      · rw [i3]
        by_cases hc : acc.2 < z.2.1
        · refine .inr ⟨z, List.mem_cons_self, by simp [mostStep, hc], hc, fun y' hy' hb => ?_⟩
          rcases List.mem_cons.1 hy' with rfl | hy'
          · omega
          · have := ch_mem l _ h.2.2.2 y' hy'; have := h.2.1; omega
        · exact .inl (by simp [mostStep, hc])
      · refine .inr ⟨y, List.mem_cons_of_mem _ hy, e, by omega, fun y' hy' hb => ?_⟩
        rcases List.mem_cons.1 hy' with rfl | hy'
        · omega
        · exact hfirst y' hy' hb
theorem most_ok (l : List Sp) (hl : Bd l) (hne : l ≠ []) (n : Int) : deep l (mostL l).1 = (mostL l).2 ∧ 1 ≤ (mostL l).2 ∧ deep l n ≤ (mostL l).2 ∧ (deep l n < (mostL l).2 ∨ (mostL l).1 ≤ n) := by
  have hnil : Bd [] := fun s hs => by cases hs
  obtain ⟨h1, h2, _, _⟩ := ends_facts l [] hl hnil
  have hch : Ch 0 (piecesL l []) := pcs_ch _ _ _ h1 h2
  have hA : ∀ y ∈ piecesL l [], ∀ m, isIn m y.1 = true → y.2.1 = deep l m := by
    intro y hy m hm
    have hs := pieces_sweep (fun c => decide (c = y.2)) (by simp only [decide_eq_false_iff_not]; exact fun e => pcs_nz _ _ _ y hy e.symm) l [] hl hnil m
    have ht : (piecesL l []).any (fun y' => decide (y'.2 = y.2) && isIn m y'.1) = true := List.any_eq_true.2 ⟨y, hy, by simp [hm]⟩
    rw [ht] at hs
    have := of_decide_eq_true hs.symm
    rw [← this]
  have hB : ∀ m, deep l m ≠ 0 → ∃ y ∈ piecesL l [], isIn m y.1 = true := by
    intro m hm
    have hs := pieces_sweep (fun c => decide (c ≠ (0, 0))) (by simp) l [] hl hnil m
    have ht : decide ((deep l m, deep [] m) ≠ (0, 0)) = true := by
      simp only [decide_eq_true_eq, ne_eq, Prod.mk.injEq, not_and]; intro h; exact absurd h hm
    rw [ht] at hs
    obtain ⟨y, hy, hp⟩ := List.any_eq_true.1 hs
    simp only [Bool.and_eq_true] at hp
    exact ⟨y, hy, hp.2⟩
  obtain ⟨f1, f2, f3⟩ := most_fold (piecesL l []) 0 (0, 0) hch
  have hr : (piecesL l []).foldl mostStep (0, 0) = mostL l := rfl
  rw [hr] at f1 f2 f3
  have hpos : 0 < (mostL l).2 := by
    cases l with
    | nil => exact absurd rfl hne
    | cons s l =>
      have hs := hl s List.mem_cons_self
      have hd : deep (s :: l) s.1 ≠ 0 := by
        have := deep_nonneg l s.1
        have hi : isIn s.1 s = true := by simp [isIn]; omega
        simp only [deep, hi, if_true]; omega
      obtain ⟨y, hy, hi⟩ := hB _ hd
      have e := hA y hy _ hi
      have := f2 y hy
      have := deep_nonneg (s :: l) s.1
      omega
  rcases f3 with f3 | ⟨y, hy, e, _, hfirst⟩
  · rw [f3] at hpos; simp at hpos
  · have hyi : isIn y.1.1 y.1 = true := by have := ch_mem _ _ hch y hy; simp [isIn]; omega
    have e1 := hA y hy _ hyi
    rw [e] at f2 hpos ⊢
    refine ⟨e1.symm, by simp only at hpos ⊢; omega, ?_⟩
    have hk := deep_nonneg l n
    by_cases hz : deep l n = 0
    · simp only at hpos ⊢; rw [hz]; exact ⟨by omega, .inl hpos⟩
    · obtain ⟨y', hy', hi'⟩ := hB n hz
      have e2 := hA y' hy' n hi'
      have e3 := f2 y' hy'
      rw [← e2]
      refine ⟨e3, ?_⟩
      by_cases hlt : n < y.1.1
      · left
        refine hfirst y' hy' ?_
        simp [isIn] at hi'; omega
      · right; simp only; omega
theorem wf_bd {l : List Sp} (h : l.all wf = true) : Bd l := fun s hs => by
  have := List.all_eq_true.1 h s hs; simp [wf] at this; omega
end Go.Proofs.Ytfhhkbijcleedaa
