/-
  'appended': a piece behind an owned set.
-/
import Derived.Test.YtfhhkbijcleedaaSpanPieces
namespace Go.Proofs.Ytfhhkbijcleedaa
open Go.RowKit Go.Shelf

theorem Try.infoSpan : (Try.prog.info? 42).map (fun i => (i.zero, i.size, i.bytes)) = some (some (.agg #[.int .i64 0, .int .i64 0]), 2, 16) := by kernel_rfl
def encS (x : Sp) : List Value := [.int .i64 x.1, .int .i64 x.2]
def app (l : List Sp) (s : Sp) : List Sp :=
  match l.getLast? with
  | none => [s]
  | some t => if t.2 = s.1 then l.dropLast ++ [(t.1, s.2)] else l ++ [s]
theorem app_nil (s : Sp) : app [] s = [s] := rfl
theorem app_yes (l : List Sp) (t s : Sp) (h : t.2 = s.1) : app (l ++ [t]) s = l ++ [(t.1, s.2)] := by simp [app, h]
theorem app_no (l : List Sp) (t s : Sp) (h : ¬ t.2 = s.1) : app (l ++ [t]) s = l ++ [t] ++ [s] := by simp [app, h]
theorem lenS (d : List Sp) : (d.flatMap encS).length = d.length * 2 := by
  induction d with
  | nil => rfl
  | cons x d ih => rw [List.flatMap_cons, List.length_append, ih]; simp [encS]; omega
/-- w' is w but for spans beyond base -/
theorem Turn.trans {keep : Obj → Bool} {B : Nat} {a b c : World} (h : Turn keep B a b) (k : Turn keep B b c) : Turn keep B a c := ⟨h.1.trans k.1, fun i o hi ho => k.2 i o (h.2 i o hi ho) ho⟩
theorem Turn.alloc {keep : Obj → Bool} {B : Nat} {a b : World} (h : Turn keep B a b) (hB : B ≤ b.heap.size) (o : Obj) : Turn keep B a (b.alloc o) := h.trans (Turn.of_below hB ((Below.refl _ b).alloc (Nat.le_refl _) o))
theorem Turn.drew {keep : Obj → Bool} {B : Nat} {a b : World} (h : Turn keep B a b) : Turn keep B a b.drew := ⟨h.1.drew, h.2⟩
theorem Turn.refl (keep : Obj → Bool) (B : Nat) (a : World) : Turn keep B a a := ⟨Below.refl _ _, fun _ _ h _ => h⟩
theorem Turn.grownRow {T : TypeId} {B : Nat} {a w' : World} {base size n : Nat} {v : Value} {xs : List Value} (hg : a.grownBy w' v.ownBlock) (ho : a.ownsRow base T size v n xs) (hB : B ≤ a.heap.size) (hb : B ≤ base) : Turn (keepJ T) B a w' := by
  refine ⟨(Below.refl B a).grown hg hB (fun k hk => Nat.le_trans hb (own_row ho k hk)), fun k o hk hkeep => ?_⟩
  obtain ⟨_, ⟨rfl, _⟩ | ⟨g, cap, cur, rfl, _, hh, _⟩⟩ := ho
  · exact (hg.block k (Array.getElem?_eq_some_iff.1 hk).1 (by simp [Value.ownBlock])).trans hk
  · by_cases hkg : k = g
    · subst hkg; rw [hh] at hk; cases hk; simp [keepJ] at hkeep
    · exact (hg.block k (Array.getElem?_eq_some_iff.1 hk).1 (by simp [Value.ownBlock]; omega)).trans hk

theorem own_below {w w1 : World} {base : Nat} {e : TypeId} {size n : Nat} {v : Value} {xs : List Value} (h : w.ownsRow base e size v n xs) (hb : Below w.heap.size w w1) : w1.ownsRow base e size v n xs := by
  obtain ⟨h0, h1 | ⟨g, cap, cur, hv, hg, hh, hr⟩⟩ := h
  · exact ⟨h0, .inl h1⟩
  · exact ⟨h0, .inr ⟨g, cap, cur, hv, hg, (hb.block g (Array.getElem?_eq_some_iff.1 hh).1).trans hh, hr⟩⟩

set_option maxHeartbeats 2000000 in
theorem appended_any (v : Value) (l : List Sp) (s : Sp) (w : World) (base : Nat) (hown : w.ownsRow base 42 2 v l.length (l.flatMap encS)) (hB : base ≤ w.heap.size) (hlen : l.length ≤ 1000000) :
    Calls Try.prog 38 #[v, .agg #[.int .i64 s.1, .int .i64 s.2]] w fun e w' => ∃ v', e = .returned v' ∧ w'.ownsRow base 42 2 v' (app l s).length ((app l s).flatMap encS) ∧ Turn (keepJ 42) base w w' := by
  obtain ⟨s0, s1⟩ := s
  obtain ⟨i0, hi, hz0, hz1, hz2⟩ := info_parts Try.infoSpan
  rcases List.eq_nil_or_concat l with rfl | ⟨l, t, rfl⟩
  · rw [app_nil]
    have hown0 := hown
    obtain ⟨p, cap, rfl⟩ := own_shape hown
    go_enter Try.func38, Try.ntmps38
    go_wp2_with fail
    go_quiet (fail)
    go_wp2_with (at_builtin; refine wpList_append_own _ rfl _ _ 22 rfl base 42 i0 (.agg #[.int .i64 0, .int .i64 0]) 2 16 Try.underlying22 hi hz0 hz1 hz2 rfl (by decide) _ 0 _ rfl (own_below hown ((below_drewN ((Below.refl _ w).alloc (Nat.le_refl _) _) _).alloc (by simp) _)) ⟨w.heap.size + 1, 0, none⟩ 1 1 [.int .i64 s0, .int .i64 s1] rfl rfl (by intro j u hj; match j, hj with | 0, hj => (simp at hj; subst hj; exact (Own.at _ #[.int .i64 s0, .int .i64 s1] 42 (w.heap.size + 1) (by simp)).cell 0 _ rfl) | 1, hj => (simp at hj; subst hj; exact (Own.at _ #[.int .i64 s0, .int .i64 s1] 42 (w.heap.size + 1) (by simp)).cell 1 _ rfl)) (by intro u hu; simp at hu; rcases hu with rfl | rfl <;> rfl) (by unfold maxLen; omega) (by omega) (by simp; omega) ?_; intro v' w1 hown' hgrow _)
    go_ret
    exact ⟨_, rfl, by simpa [encS] using hown', ((Turn.refl _ _ w).trans (Turn.of_below hB ((below_drewN ((Below.refl _ w).alloc (Nat.le_refl _) _) _).alloc (by simp) _))).trans (Turn.grownRow hgrow (own_below hown ((below_drewN ((Below.refl _ w).alloc (Nat.le_refl _) _) _).alloc (by simp) _)) (by simp; omega) (Nat.le_refl _))⟩
  · have hcat : l.concat t = l ++ [t] := by simp
    rw [hcat] at hown hlen ⊢
    rw [List.length_append, List.length_singleton] at hown
    obtain ⟨_, ⟨_, h0⟩ | ⟨g, cap, cur, rfl, hg, hh, hc1, hc2, hcs, hct⟩⟩ := id hown
    · omega
    have hsz : g < w.heap.size := (Array.getElem?_eq_some_iff.1 hh).1
    have hcm : l.length * 2 + 1 < cur.size := by rw [hcs]; omega
    have hcr : cur[l.length * 2 + 1]? = some (.int .i64 t.2) := by
      have h2 : (cur.toList.take ((l.length + 1) * 2))[l.length * 2 + 1]? = some (.int .i64 t.2) := by
        rw [hct, List.flatMap_append, List.getElem?_append_right (by rw [lenS]; omega), lenS]; simp [encS]
      rw [List.getElem?_take] at h2
      split at h2
      · simpa using h2
      · cases h2
    have hc : w.cell? ⟨g, l.length * 2 + 1, none⟩ = some (.int .i64 t.2) := by simp [World.cell?, hh, hcr]
    have hf : w.frozen? ⟨g, l.length * 2 + 1, none⟩ = false := by simp [World.frozen?, hh]
    by_cases he : t.2 = s0
    · rw [app_yes _ _ (s0, s1) he]
      simp only [List.length_append, List.length_singleton] at hlen ⊢
      clear hcr hown
      subst he
      go_enter Try.func38, Try.ntmps38
      go_wp2_with fail
      go_quiet (fail)
      go_wp2_with fail
      have hbd : Below w.heap.size w ((w.alloc (.cells #[.int .i64 t.2, .int .i64 s1] 42)).drewN nq) := below_drewN ((Below.refl _ w).alloc (Nat.le_refl _) _) _
      have hhd := (hbd.block g hsz).trans hh
      go_ret
      refine ⟨_, rfl, ⟨by rw [lenS]; simp, .inr ⟨g, cap, cur.setIfInBounds (l.length * 2 + 1) (.int .i64 s1), rfl, hg, heap_setCell_same _ _ _ _ _ _ hhd, hc1, hc2, by simpa using hcs, ?_⟩⟩, (Turn.of_below hB hbd).trans (Turn.setCell hg hhd)⟩
      rw [Array.toList_setIfInBounds, List.take_set, hct, List.flatMap_append, List.flatMap_append, List.set_append_right _ _ (by rw [lenS]; omega), lenS]
      simp [encS]
    · rw [app_no _ _ (s0, s1) he]
      simp only [List.length_append, List.length_singleton] at hlen ⊢
      clear hcr hct hcm hcs
      go_enter Try.func38, Try.ntmps38
      go_wp2_with fail
      go_quiet (fail)
      go_wp2_with (at_builtin; refine wpList_append_own _ rfl _ _ 22 rfl base 42 i0 (.agg #[.int .i64 0, .int .i64 0]) 2 16 Try.underlying22 hi hz0 hz1 hz2 rfl (by decide) _ (l.length + 1) _ rfl (own_below hown ((below_drewN ((Below.refl _ w).alloc (Nat.le_refl _) _) _).alloc (by simp) _)) ⟨w.heap.size + 1, 0, none⟩ 1 1 [.int .i64 s0, .int .i64 s1] rfl rfl (by intro j u hj; match j, hj with | 0, hj => (simp at hj; subst hj; exact (Own.at _ #[.int .i64 s0, .int .i64 s1] 42 (w.heap.size + 1) (by simp)).cell 0 _ rfl) | 1, hj => (simp at hj; subst hj; exact (Own.at _ #[.int .i64 s0, .int .i64 s1] 42 (w.heap.size + 1) (by simp)).cell 1 _ rfl)) (by intro u hu; simp at hu; rcases hu with rfl | rfl <;> rfl) (by unfold maxLen; omega) (by omega) (by simp; omega) ?_; intro v' w1 hown' hgrow _)
      go_ret
      exact ⟨_, rfl, by simpa [encS] using hown', ((Turn.refl _ _ w).trans (Turn.of_below hB ((below_drewN ((Below.refl _ w).alloc (Nat.le_refl _) _) _).alloc (by simp) _))).trans (Turn.grownRow hgrow (own_below hown ((below_drewN ((Below.refl _ w).alloc (Nat.le_refl _) _) _).alloc (by simp) _)) (by simp; omega) (Nat.le_refl _))⟩

end Go.Proofs.Ytfhhkbijcleedaa
