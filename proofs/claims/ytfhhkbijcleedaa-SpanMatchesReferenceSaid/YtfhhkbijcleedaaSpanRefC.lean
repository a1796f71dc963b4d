/-
  The reference's combine, Union, Meet, Less, Count, Weekday, Most.
-/
import Derived.Test.YtfhhkbijcleedaaSpanNext
namespace Go.Proofs.Ytfhhkbijcleedaa
open Go.RowKit Go.Shelf

def mE (e : Int) : Nat := if e ≤ 0 then 0 else (1000000001 - e).toNat
theorem lt_meas (e1 e2 : Int) (h1 : 0 < e1) (h2 : e1 ≤ 1000000000) (h : 0 < e2 → e1 < e2 ∧ e2 ≤ 1000000000) : mE e2 < mE e1 := by
  unfold mE
  rw [if_neg (show ¬ e1 ≤ 0 by omega)]
  split
  · omega
  · have := h (by omega); omega


set_option maxHeartbeats 8000000 in
theorem refCombU_any (va vb : Value) (a b : List Sp) (w : World) (ha : Spans w va a) (hb0 : Spans w vb b) :
    Calls Try.prog 34 #[va, vb, .int .i64 1] w fun e w' => ∃ v', e = .returned (.tuple #[v', .int .i64 (comb (· || ·) a b).2]) ∧ w'.ownsRow w.heap.size 42 2 v' (comb (· || ·) a b).1.length ((comb (· || ·) a b).1.flatMap encS) ∧ Below w.heap.size w w' := by
  obtain ⟨i0, hi, hz0, hz1, hz2⟩ := info_parts Try.infoSpan
  have hv1 := refValid_any va a w ha
  have hb := Below.refl w.heap.size w
  cases hva : valid a with
  | false =>
    rw [hva] at hv1
    have hcomb : comb (· || ·) a b = ([], 1) := by simp [comb, hva]
    rw [hcomb]
    go_enter Try.func34, Try.ntmps34
    go_wp2_with fail
    refine hv1.mono ?_
    rintro e w1 ⟨rfl, hx⟩
    replace hb := hb.trans (hx.mono hb.size)
    have hv2 := refValid_any vb b w1 (hb0.below hx)
    generalize valid b = vb1 at hv2
    clear ha hb0 hx
    go_wp2_with fail
    refine hv2.mono ?_
    rintro e w2 ⟨rfl, hx⟩
    replace hb := hb.trans (hx.mono hb.size)
    go_wp2_with fail
    exact bodyPost_ret (results_tmp2 rfl _ _ _) rfl ⟨.slice none 0 0, rfl, World.ownsRow_nil _ _ _ _, hb⟩
  | true =>
    rw [hva] at hv1
    cases hvb : valid b with
    | false =>
      have hcomb : comb (· || ·) a b = ([], 1) := by simp [comb, hva, hvb]
      rw [hcomb]
      go_enter Try.func34, Try.ntmps34
      go_wp2_with fail
      refine hv1.mono ?_
      rintro e w1 ⟨rfl, hx⟩
      replace hb := hb.trans (hx.mono hb.size)
      have hv2 := refValid_any vb b w1 (hb0.below hx)
      rw [hvb] at hv2
      clear ha hb0 hx
      go_wp2_with fail
      refine hv2.mono ?_
      rintro e w2 ⟨rfl, hx⟩
      replace hb := hb.trans (hx.mono hb.size)
      go_wp2_with fail
      exact bodyPost_ret (results_tmp2 rfl _ _ _) rfl ⟨.slice none 0 0, rfl, World.ownsRow_nil _ _ _ _, hb⟩
    | true =>
      have hcomb : comb (· || ·) a b = if 1000 < (combL (· || ·) a b).length then ([], 2) else (combL (· || ·) a b, 0) := by simp [comb, hva, hvb]
      rw [hcomb]
      have hBa : Bd a := valid_all hva
      have hBb : Bd b := valid_all hvb
      clear hcomb hva
      go_enter Try.func34, Try.ntmps34
      go_wp2_with fail
      refine hv1.mono ?_
      rintro e w1 ⟨rfl, hx⟩
      replace hb := hb.trans (hx.mono hb.size)
      have hv2 := refValid_any vb b w1 (hb0.below hx)
      rw [hvb] at hv2
      clear hx hv1 hvb
      go_wp2_with fail
      refine hv2.mono ?_
      rintro e w2 ⟨rfl, hx⟩
      replace hb := hb.trans (hx.mono hb.size)
      have hn0 := next_any va vb a b 0 w2 (ha.below hb) (hb0.below hb)
      clear hx hv2
      go_wp2_with fail
      refine hn0.mono ?_
      rintro e w3 ⟨rfl, hx⟩
      replace hb := hb.trans (hx.mono hb.size)
      clear hx hn0
      go_wp2_with fail
      go_loopw [10, 11, 12] (fun vo at_ en wr => ∃ (x : Int) (out : List Sp), at_ = .int .i64 x ∧ en = .int .i64 (nextL a b x) ∧ RInv (· || ·) a b x out ∧ (0 < nextL a b x → x < nextL a b x ∧ nextL a b x ≤ 1000000000) ∧ wr.ownsRow w.heap.size 42 2 vo out.length (out.flatMap encS) ∧ Below w.heap.size w wr)
        (fun _ _ en _ => mE (intOf en))
      case atStart => exact ⟨0, [], rfl, rfl, RInv.start (· || ·) rfl a b hBa hBb, fun h => by have := (RInv.start (· || ·) rfl a b hBa hBb).step hBa hBb h; exact ⟨this.1, this.2.1⟩, World.ownsRow_nil _ _ _ _, hb⟩
      case round =>
        obtain ⟨x, out, rfl, rfl, hI, hE, hown, hbr⟩ := hrel
        have hfin := hI.finish rfl hBa hBb
        by_cases hpos : 0 < nextL a b x
        · obtain ⟨hx1, hx2, hI2⟩ := hI.step hBa hBb hpos
          have hE2 : 0 < nextL a b (nextL a b x) → nextL a b x < nextL a b (nextL a b x) ∧ nextL a b (nextL a b x) ≤ 1000000000 := fun h => by have := hI2.step hBa hBb h; exact ⟨this.1, this.2.1⟩
          have hpx := hI.pos
          have hol : out.length ≤ 1000000000 := by have := ok_len out _ hI.inc; have := hI.last; omega
          have hha := has_any va a x wr (ha.below hbr)
          have hnx := fun w' (h : Below w.heap.size w w') => next_any va vb a b (nextL a b x) w' (ha.below h) (hb0.below h)
          have hsb : ∀ w', Below w.heap.size w w' → Spans w' vb b := fun w' h => hb0.below h
          clear hE hI hfin
          generalize has a x = p at hha hI2
          obtain ⟨e2, he2⟩ : ∃ e2, nextL a b (nextL a b x) = e2 := ⟨_, rfl⟩
          rw [he2] at hnx hE2
          have hhb := fun w' (h : Below w.heap.size w w') => has_any vb b x w' (hb0.below h)
          generalize has b x = q at hhb hI2
          generalize nextL a b x = e1 at *
          have hH2 := Lib.hid he2
          clear he2
          clear ha hb0 hsb
          go_wp2_with fail
          refine hha.mono ?_
          rintro e w4 ⟨rfl, hx⟩
          replace hown := own_below hown hx
          replace hbr := hbr.trans (hx.mono hbr.size)
          clear hx hha
          go_wp2_with fail
          refine (hhb _ hbr).mono ?_
          rintro e w5 ⟨rfl, hx⟩
          replace hown := own_below hown hx
          replace hbr := hbr.trans (hx.mono hbr.size)
          clear hx hhb
          cases p <;> cases q
          · replace hI2 : RInv (· || ·) a b e1 out := hI2
            obtain ⟨po, capo, rfl⟩ := own_shape hown
            go_wp2_with fail
            refine (hnx _ hbr).mono ?_
            rintro e w7 ⟨rfl, hx⟩
            have hown7 := own_below hown hx
            have hb7 := hbr.trans (hx.mono hbr.size)
            clear hx hnx
            go_wp2_with fail
            go_roundw
            case rel => exact ⟨e1, out, rfl, by rw [hH2.out], hI2, by rw [hH2.out]; exact hE2, hown7, hb7⟩
            case measure => exact lt_meas e1 e2 hpos hx2 hE2
          · replace hI2 : RInv (· || ·) a b e1 (app out (x, e1)) := hI2
            rcases List.eq_nil_or_concat out with rfl | ⟨l, t, rfl⟩
            · rw [app_nil] at hI2
              obtain ⟨po, capo, rfl⟩ := own_shape hown
              go_wp2_with (at_builtin; refine wpList_append_own _ rfl _ _ 22 rfl w.heap.size 42 i0 (.agg #[.int .i64 0, .int .i64 0]) 2 16 Try.underlying22 hi hz0 hz1 hz2 rfl (by decide) _ 0 _ rfl (hown.alloc _) ⟨w5.heap.size, 0, none⟩ 1 1 [.int .i64 x, .int .i64 e1] rfl rfl (by intro j u hj; match j, hj with | 0, hj => (simp at hj; subst hj; exact (Own.new _ #[.int .i64 x, .int .i64 e1] 42).cell 0 _ rfl) | 1, hj => (simp at hj; subst hj; exact (Own.new _ #[.int .i64 x, .int .i64 e1] 42).cell 1 _ rfl)) (by intro u hu; simp at hu; rcases hu with rfl | rfl <;> rfl) (by unfold maxLen; omega) (by omega) (by have := hbr.size; simp; omega) ?_; intro v' w6 hown' hgrow _; have hb6 := (hbr.alloc hbr.size _).grown hgrow (by have := hbr.size; simp; omega) (own_row hown); clear hgrow)
              have hown6 : w6.ownsRow w.heap.size 42 2 v' [(x, e1)].length ([(x, e1)].flatMap encS) := by simpa [encS] using hown'
              clear hown' hown
              go_wp2_with fail
              refine (hnx _ hb6).mono ?_
              rintro e w7 ⟨rfl, hx⟩
              have hown7 := own_below hown6 hx
              have hb7 := hb6.trans (hx.mono hb6.size)
              clear hx hnx
              go_wp2_with fail
              go_roundw
              case rel => exact ⟨e1, [(x, e1)], rfl, by rw [hH2.out], hI2, by rw [hH2.out]; exact hE2, hown7, hb7⟩
              case measure => exact lt_meas e1 e2 hpos hx2 hE2
            · have hcat : l.concat t = l ++ [t] := by simp
              rw [hcat] at hown hI2 hol
              rw [List.length_append, List.length_singleton] at hown hol
              obtain ⟨_, ⟨_, h0⟩ | ⟨g, cap, cur, rfl, hg, hh, hc1, hc2, hcs, hct⟩⟩ := id hown
              · omega
              have hcm : l.length * 2 + 1 < cur.size := by rw [hcs]; omega
              have hcr : cur[l.length * 2 + 1]? = some (.int .i64 t.2) := by
                have h2 : (cur.toList.take ((l.length + 1) * 2))[l.length * 2 + 1]? = some (.int .i64 t.2) := by
                  rw [hct, List.flatMap_append, List.getElem?_append_right (by rw [lenS]; omega), lenS]; simp [encS]
                rw [List.getElem?_take] at h2
                split at h2
                · simpa using h2
                · cases h2
              have hcc : w5.cell? ⟨g, l.length * 2 + 1, none⟩ = some (.int .i64 t.2) := by simp [World.cell?, hh, hcr]
              have hff : w5.frozen? ⟨g, l.length * 2 + 1, none⟩ = false := by simp [World.frozen?, hh]
              clear hcr
              by_cases he : t.2 = x
              · rw [app_yes _ _ (x, e1) he] at hI2
                subst he
                have hown6 : (w5.setCell ⟨g, l.length * 2 + 1, none⟩ (.int .i64 e1)).ownsRow w.heap.size 42 2 (.slice (some ⟨g, 0, none⟩) (l.length + 1) cap) (l ++ [(t.1, e1)]).length ((l ++ [(t.1, e1)]).flatMap encS) := by
                  refine ⟨by rw [lenS], .inr ⟨g, cap, cur.setIfInBounds (l.length * 2 + 1) (.int .i64 e1), by simp, hg, heap_setCell_same _ _ _ _ _ _ hh, by simpa using hc1, hc2, by simpa using hcs, ?_⟩⟩
                  rw [List.length_append, List.length_singleton, Array.toList_setIfInBounds, List.take_set, hct, List.flatMap_append, List.flatMap_append, List.set_append_right _ _ (by rw [lenS]; omega), lenS]
                  simp [encS]
                have hb6 : Below w.heap.size w (w5.setCell ⟨g, l.length * 2 + 1, none⟩ (.int .i64 e1)) := hbr.setCell hg _
                clear hown hh hct
                go_wp2_with fail
                refine (hnx _ hb6).mono ?_
                rintro e w7 ⟨rfl, hx⟩
                have hown7 := own_below hown6 hx
                have hb7 := hb6.trans (hx.mono hb6.size)
                clear hx hnx
                go_wp2_with fail
                go_roundw
                case rel => exact ⟨e1, (l ++ [(t.1, e1)]), rfl, by rw [hH2.out], hI2, by rw [hH2.out]; exact hE2, hown7, hb7⟩
                case measure => exact lt_meas e1 e2 hpos hx2 hE2
              · rw [app_no _ _ (x, e1) he] at hI2
                clear hct hh hcs hcm
                go_wp2_with (at_builtin; refine wpList_append_own _ rfl _ _ 22 rfl w.heap.size 42 i0 (.agg #[.int .i64 0, .int .i64 0]) 2 16 Try.underlying22 hi hz0 hz1 hz2 rfl (by decide) _ (l.length + 1) _ rfl (hown.alloc _) ⟨w5.heap.size, 0, none⟩ 1 1 [.int .i64 x, .int .i64 e1] rfl rfl (by intro j u hj; match j, hj with | 0, hj => (simp at hj; subst hj; exact (Own.new _ #[.int .i64 x, .int .i64 e1] 42).cell 0 _ rfl) | 1, hj => (simp at hj; subst hj; exact (Own.new _ #[.int .i64 x, .int .i64 e1] 42).cell 1 _ rfl)) (by intro u hu; simp at hu; rcases hu with rfl | rfl <;> rfl) (by unfold maxLen; omega) (by omega) (by have := hbr.size; simp; omega) ?_; intro v' w6 hown' hgrow _; have hb6 := (hbr.alloc hbr.size _).grown hgrow (by have := hbr.size; simp; omega) (own_row hown); clear hgrow)
                have hown6 : w6.ownsRow w.heap.size 42 2 v' (l ++ [t] ++ [(x, e1)]).length ((l ++ [t] ++ [(x, e1)]).flatMap encS) := by simpa [encS] using hown'
                clear hown' hown
                go_wp2_with fail
                refine (hnx _ hb6).mono ?_
                rintro e w7 ⟨rfl, hx⟩
                have hown7 := own_below hown6 hx
                have hb7 := hb6.trans (hx.mono hb6.size)
                clear hx hnx
                go_wp2_with fail
                go_roundw
                case rel => exact ⟨e1, (l ++ [t] ++ [(x, e1)]), rfl, by rw [hH2.out], hI2, by rw [hH2.out]; exact hE2, hown7, hb7⟩
                case measure => exact lt_meas e1 e2 hpos hx2 hE2
          · replace hI2 : RInv (· || ·) a b e1 (app out (x, e1)) := hI2
            rcases List.eq_nil_or_concat out with rfl | ⟨l, t, rfl⟩
            · rw [app_nil] at hI2
              obtain ⟨po, capo, rfl⟩ := own_shape hown
              go_wp2_with (at_builtin; refine wpList_append_own _ rfl _ _ 22 rfl w.heap.size 42 i0 (.agg #[.int .i64 0, .int .i64 0]) 2 16 Try.underlying22 hi hz0 hz1 hz2 rfl (by decide) _ 0 _ rfl (hown.alloc _) ⟨w5.heap.size, 0, none⟩ 1 1 [.int .i64 x, .int .i64 e1] rfl rfl (by intro j u hj; match j, hj with | 0, hj => (simp at hj; subst hj; exact (Own.new _ #[.int .i64 x, .int .i64 e1] 42).cell 0 _ rfl) | 1, hj => (simp at hj; subst hj; exact (Own.new _ #[.int .i64 x, .int .i64 e1] 42).cell 1 _ rfl)) (by intro u hu; simp at hu; rcases hu with rfl | rfl <;> rfl) (by unfold maxLen; omega) (by omega) (by have := hbr.size; simp; omega) ?_; intro v' w6 hown' hgrow _; have hb6 := (hbr.alloc hbr.size _).grown hgrow (by have := hbr.size; simp; omega) (own_row hown); clear hgrow)
              have hown6 : w6.ownsRow w.heap.size 42 2 v' [(x, e1)].length ([(x, e1)].flatMap encS) := by simpa [encS] using hown'
              clear hown' hown
              go_wp2_with fail
              refine (hnx _ hb6).mono ?_
              rintro e w7 ⟨rfl, hx⟩
              have hown7 := own_below hown6 hx
              have hb7 := hb6.trans (hx.mono hb6.size)
              clear hx hnx
              go_wp2_with fail
              go_roundw
              case rel => exact ⟨e1, [(x, e1)], rfl, by rw [hH2.out], hI2, by rw [hH2.out]; exact hE2, hown7, hb7⟩
              case measure => exact lt_meas e1 e2 hpos hx2 hE2
            · have hcat : l.concat t = l ++ [t] := by simp
              rw [hcat] at hown hI2 hol
              rw [List.length_append, List.length_singleton] at hown hol
              obtain ⟨_, ⟨_, h0⟩ | ⟨g, cap, cur, rfl, hg, hh, hc1, hc2, hcs, hct⟩⟩ := id hown
              · omega
              have hcm : l.length * 2 + 1 < cur.size := by rw [hcs]; omega
              have hcr : cur[l.length * 2 + 1]? = some (.int .i64 t.2) := by
                have h2 : (cur.toList.take ((l.length + 1) * 2))[l.length * 2 + 1]? = some (.int .i64 t.2) := by
                  rw [hct, List.flatMap_append, List.getElem?_append_right (by rw [lenS]; omega), lenS]; simp [encS]
                rw [List.getElem?_take] at h2
                split at h2
                · simpa using h2
                · cases h2
              have hcc : w5.cell? ⟨g, l.length * 2 + 1, none⟩ = some (.int .i64 t.2) := by simp [World.cell?, hh, hcr]
              have hff : w5.frozen? ⟨g, l.length * 2 + 1, none⟩ = false := by simp [World.frozen?, hh]
              clear hcr
              by_cases he : t.2 = x
              · rw [app_yes _ _ (x, e1) he] at hI2
                subst he
                have hown6 : (w5.setCell ⟨g, l.length * 2 + 1, none⟩ (.int .i64 e1)).ownsRow w.heap.size 42 2 (.slice (some ⟨g, 0, none⟩) (l.length + 1) cap) (l ++ [(t.1, e1)]).length ((l ++ [(t.1, e1)]).flatMap encS) := by
                  refine ⟨by rw [lenS], .inr ⟨g, cap, cur.setIfInBounds (l.length * 2 + 1) (.int .i64 e1), by simp, hg, heap_setCell_same _ _ _ _ _ _ hh, by simpa using hc1, hc2, by simpa using hcs, ?_⟩⟩
                  rw [List.length_append, List.length_singleton, Array.toList_setIfInBounds, List.take_set, hct, List.flatMap_append, List.flatMap_append, List.set_append_right _ _ (by rw [lenS]; omega), lenS]
                  simp [encS]
                have hb6 : Below w.heap.size w (w5.setCell ⟨g, l.length * 2 + 1, none⟩ (.int .i64 e1)) := hbr.setCell hg _
                clear hown hh hct
                go_wp2_with fail
                refine (hnx _ hb6).mono ?_
                rintro e w7 ⟨rfl, hx⟩
                have hown7 := own_below hown6 hx
                have hb7 := hb6.trans (hx.mono hb6.size)
                clear hx hnx
                go_wp2_with fail
                go_roundw
                case rel => exact ⟨e1, (l ++ [(t.1, e1)]), rfl, by rw [hH2.out], hI2, by rw [hH2.out]; exact hE2, hown7, hb7⟩
                case measure => exact lt_meas e1 e2 hpos hx2 hE2
              · rw [app_no _ _ (x, e1) he] at hI2
                clear hct hh hcs hcm
                go_wp2_with (at_builtin; refine wpList_append_own _ rfl _ _ 22 rfl w.heap.size 42 i0 (.agg #[.int .i64 0, .int .i64 0]) 2 16 Try.underlying22 hi hz0 hz1 hz2 rfl (by decide) _ (l.length + 1) _ rfl (hown.alloc _) ⟨w5.heap.size, 0, none⟩ 1 1 [.int .i64 x, .int .i64 e1] rfl rfl (by intro j u hj; match j, hj with | 0, hj => (simp at hj; subst hj; exact (Own.new _ #[.int .i64 x, .int .i64 e1] 42).cell 0 _ rfl) | 1, hj => (simp at hj; subst hj; exact (Own.new _ #[.int .i64 x, .int .i64 e1] 42).cell 1 _ rfl)) (by intro u hu; simp at hu; rcases hu with rfl | rfl <;> rfl) (by unfold maxLen; omega) (by omega) (by have := hbr.size; simp; omega) ?_; intro v' w6 hown' hgrow _; have hb6 := (hbr.alloc hbr.size _).grown hgrow (by have := hbr.size; simp; omega) (own_row hown); clear hgrow)
                have hown6 : w6.ownsRow w.heap.size 42 2 v' (l ++ [t] ++ [(x, e1)]).length ((l ++ [t] ++ [(x, e1)]).flatMap encS) := by simpa [encS] using hown'
                clear hown' hown
                go_wp2_with fail
                refine (hnx _ hb6).mono ?_
                rintro e w7 ⟨rfl, hx⟩
                have hown7 := own_below hown6 hx
                have hb7 := hb6.trans (hx.mono hb6.size)
                clear hx hnx
                go_wp2_with fail
                go_roundw
                case rel => exact ⟨e1, (l ++ [t] ++ [(x, e1)]), rfl, by rw [hH2.out], hI2, by rw [hH2.out]; exact hE2, hown7, hb7⟩
                case measure => exact lt_meas e1 e2 hpos hx2 hE2
          · replace hI2 : RInv (· || ·) a b e1 (app out (x, e1)) := hI2
            rcases List.eq_nil_or_concat out with rfl | ⟨l, t, rfl⟩
            · rw [app_nil] at hI2
              obtain ⟨po, capo, rfl⟩ := own_shape hown
              go_wp2_with (at_builtin; refine wpList_append_own _ rfl _ _ 22 rfl w.heap.size 42 i0 (.agg #[.int .i64 0, .int .i64 0]) 2 16 Try.underlying22 hi hz0 hz1 hz2 rfl (by decide) _ 0 _ rfl (hown.alloc _) ⟨w5.heap.size, 0, none⟩ 1 1 [.int .i64 x, .int .i64 e1] rfl rfl (by intro j u hj; match j, hj with | 0, hj => (simp at hj; subst hj; exact (Own.new _ #[.int .i64 x, .int .i64 e1] 42).cell 0 _ rfl) | 1, hj => (simp at hj; subst hj; exact (Own.new _ #[.int .i64 x, .int .i64 e1] 42).cell 1 _ rfl)) (by intro u hu; simp at hu; rcases hu with rfl | rfl <;> rfl) (by unfold maxLen; omega) (by omega) (by have := hbr.size; simp; omega) ?_; intro v' w6 hown' hgrow _; have hb6 := (hbr.alloc hbr.size _).grown hgrow (by have := hbr.size; simp; omega) (own_row hown); clear hgrow)
              have hown6 : w6.ownsRow w.heap.size 42 2 v' [(x, e1)].length ([(x, e1)].flatMap encS) := by simpa [encS] using hown'
              clear hown' hown
              go_wp2_with fail
              refine (hnx _ hb6).mono ?_
              rintro e w7 ⟨rfl, hx⟩
              have hown7 := own_below hown6 hx
              have hb7 := hb6.trans (hx.mono hb6.size)
              clear hx hnx
              go_wp2_with fail
              go_roundw
              case rel => exact ⟨e1, [(x, e1)], rfl, by rw [hH2.out], hI2, by rw [hH2.out]; exact hE2, hown7, hb7⟩
              case measure => exact lt_meas e1 e2 hpos hx2 hE2
            · have hcat : l.concat t = l ++ [t] := by simp
              rw [hcat] at hown hI2 hol
              rw [List.length_append, List.length_singleton] at hown hol
              obtain ⟨_, ⟨_, h0⟩ | ⟨g, cap, cur, rfl, hg, hh, hc1, hc2, hcs, hct⟩⟩ := id hown
              · omega
              have hcm : l.length * 2 + 1 < cur.size := by rw [hcs]; omega
              have hcr : cur[l.length * 2 + 1]? = some (.int .i64 t.2) := by
                have h2 : (cur.toList.take ((l.length + 1) * 2))[l.length * 2 + 1]? = some (.int .i64 t.2) := by
                  rw [hct, List.flatMap_append, List.getElem?_append_right (by rw [lenS]; omega), lenS]; simp [encS]
                rw [List.getElem?_take] at h2
                split at h2
                · simpa using h2
                · cases h2
              have hcc : w5.cell? ⟨g, l.length * 2 + 1, none⟩ = some (.int .i64 t.2) := by simp [World.cell?, hh, hcr]
              have hff : w5.frozen? ⟨g, l.length * 2 + 1, none⟩ = false := by simp [World.frozen?, hh]
              clear hcr
              by_cases he : t.2 = x
              · rw [app_yes _ _ (x, e1) he] at hI2
                subst he
                have hown6 : (w5.setCell ⟨g, l.length * 2 + 1, none⟩ (.int .i64 e1)).ownsRow w.heap.size 42 2 (.slice (some ⟨g, 0, none⟩) (l.length + 1) cap) (l ++ [(t.1, e1)]).length ((l ++ [(t.1, e1)]).flatMap encS) := by
                  refine ⟨by rw [lenS], .inr ⟨g, cap, cur.setIfInBounds (l.length * 2 + 1) (.int .i64 e1), by simp, hg, heap_setCell_same _ _ _ _ _ _ hh, by simpa using hc1, hc2, by simpa using hcs, ?_⟩⟩
                  rw [List.length_append, List.length_singleton, Array.toList_setIfInBounds, List.take_set, hct, List.flatMap_append, List.flatMap_append, List.set_append_right _ _ (by rw [lenS]; omega), lenS]
                  simp [encS]
                have hb6 : Below w.heap.size w (w5.setCell ⟨g, l.length * 2 + 1, none⟩ (.int .i64 e1)) := hbr.setCell hg _
                clear hown hh hct
                go_wp2_with fail
                refine (hnx _ hb6).mono ?_
                rintro e w7 ⟨rfl, hx⟩
                have hown7 := own_below hown6 hx
                have hb7 := hb6.trans (hx.mono hb6.size)
                clear hx hnx
                go_wp2_with fail
                go_roundw
                case rel => exact ⟨e1, (l ++ [(t.1, e1)]), rfl, by rw [hH2.out], hI2, by rw [hH2.out]; exact hE2, hown7, hb7⟩
                case measure => exact lt_meas e1 e2 hpos hx2 hE2
              · rw [app_no _ _ (x, e1) he] at hI2
                clear hct hh hcs hcm
                go_wp2_with (at_builtin; refine wpList_append_own _ rfl _ _ 22 rfl w.heap.size 42 i0 (.agg #[.int .i64 0, .int .i64 0]) 2 16 Try.underlying22 hi hz0 hz1 hz2 rfl (by decide) _ (l.length + 1) _ rfl (hown.alloc _) ⟨w5.heap.size, 0, none⟩ 1 1 [.int .i64 x, .int .i64 e1] rfl rfl (by intro j u hj; match j, hj with | 0, hj => (simp at hj; subst hj; exact (Own.new _ #[.int .i64 x, .int .i64 e1] 42).cell 0 _ rfl) | 1, hj => (simp at hj; subst hj; exact (Own.new _ #[.int .i64 x, .int .i64 e1] 42).cell 1 _ rfl)) (by intro u hu; simp at hu; rcases hu with rfl | rfl <;> rfl) (by unfold maxLen; omega) (by omega) (by have := hbr.size; simp; omega) ?_; intro v' w6 hown' hgrow _; have hb6 := (hbr.alloc hbr.size _).grown hgrow (by have := hbr.size; simp; omega) (own_row hown); clear hgrow)
                have hown6 : w6.ownsRow w.heap.size 42 2 v' (l ++ [t] ++ [(x, e1)]).length ((l ++ [t] ++ [(x, e1)]).flatMap encS) := by simpa [encS] using hown'
                clear hown' hown
                go_wp2_with fail
                refine (hnx _ hb6).mono ?_
                rintro e w7 ⟨rfl, hx⟩
                have hown7 := own_below hown6 hx
                have hb7 := hb6.trans (hx.mono hb6.size)
                clear hx hnx
                go_wp2_with fail
                go_roundw
                case rel => exact ⟨e1, (l ++ [t] ++ [(x, e1)]), rfl, by rw [hH2.out], hI2, by rw [hH2.out]; exact hE2, hown7, hb7⟩
                case measure => exact lt_meas e1 e2 hpos hx2 hE2
        · have hL := hfin hpos
          subst hL
          obtain ⟨po, capo, rfl⟩ := own_shape hown
          have hlL : (combL (· || ·) a b).length ≤ 9223372036854775807 := by
            obtain ⟨_, ⟨_, h⟩ | ⟨_, _, _, _, _, _, h1, h2, _⟩⟩ := hown
            · omega
            · exact Nat.le_trans h1 (by unfold maxLen at h2; exact h2)
          clear hE hI hfin ha hb0
          by_cases h1000 : 1000 < (combL (· || ·) a b).length
          · go_wp2_with fail
            exact bodyPost_ret (results_tmp2 rfl _ _ _) rfl ⟨.slice none 0 0, rfl, World.ownsRow_nil _ _ _ _, hbr⟩
          · go_wp2_with fail
            exact bodyPost_ret (results_tmp2 rfl _ _ _) rfl ⟨_, rfl, hown, hbr⟩

set_option maxHeartbeats 8000000 in
theorem refCombM_any (va vb : Value) (a b : List Sp) (w : World) (ha : Spans w va a) (hb0 : Spans w vb b) :
    Calls Try.prog 34 #[va, vb, .int .i64 2] w fun e w' => ∃ v', e = .returned (.tuple #[v', .int .i64 (comb (· && ·) a b).2]) ∧ w'.ownsRow w.heap.size 42 2 v' (comb (· && ·) a b).1.length ((comb (· && ·) a b).1.flatMap encS) ∧ Below w.heap.size w w' := by
  obtain ⟨i0, hi, hz0, hz1, hz2⟩ := info_parts Try.infoSpan
  have hv1 := refValid_any va a w ha
  have hb := Below.refl w.heap.size w
  cases hva : valid a with
  | false =>
    rw [hva] at hv1
    have hcomb : comb (· && ·) a b = ([], 1) := by simp [comb, hva]
    rw [hcomb]
    go_enter Try.func34, Try.ntmps34
    go_wp2_with fail
    refine hv1.mono ?_
    rintro e w1 ⟨rfl, hx⟩
    replace hb := hb.trans (hx.mono hb.size)
    have hv2 := refValid_any vb b w1 (hb0.below hx)
    generalize valid b = vb1 at hv2
    clear ha hb0 hx
    go_wp2_with fail
    refine hv2.mono ?_
    rintro e w2 ⟨rfl, hx⟩
    replace hb := hb.trans (hx.mono hb.size)
    go_wp2_with fail
    exact bodyPost_ret (results_tmp2 rfl _ _ _) rfl ⟨.slice none 0 0, rfl, World.ownsRow_nil _ _ _ _, hb⟩
  | true =>
    rw [hva] at hv1
    cases hvb : valid b with
    | false =>
      have hcomb : comb (· && ·) a b = ([], 1) := by simp [comb, hva, hvb]
      rw [hcomb]
      go_enter Try.func34, Try.ntmps34
      go_wp2_with fail
      refine hv1.mono ?_
      rintro e w1 ⟨rfl, hx⟩
      replace hb := hb.trans (hx.mono hb.size)
      have hv2 := refValid_any vb b w1 (hb0.below hx)
      rw [hvb] at hv2
      clear ha hb0 hx
      go_wp2_with fail
      refine hv2.mono ?_
      rintro e w2 ⟨rfl, hx⟩
      replace hb := hb.trans (hx.mono hb.size)
      go_wp2_with fail
      exact bodyPost_ret (results_tmp2 rfl _ _ _) rfl ⟨.slice none 0 0, rfl, World.ownsRow_nil _ _ _ _, hb⟩
    | true =>
      have hcomb : comb (· && ·) a b = if 1000 < (combL (· && ·) a b).length then ([], 2) else (combL (· && ·) a b, 0) := by simp [comb, hva, hvb]
      rw [hcomb]
      have hBa : Bd a := valid_all hva
      have hBb : Bd b := valid_all hvb
      clear hcomb hva
      go_enter Try.func34, Try.ntmps34
      go_wp2_with fail
      refine hv1.mono ?_
      rintro e w1 ⟨rfl, hx⟩
      replace hb := hb.trans (hx.mono hb.size)
      have hv2 := refValid_any vb b w1 (hb0.below hx)
      rw [hvb] at hv2
      clear hx hv1 hvb
      go_wp2_with fail
      refine hv2.mono ?_
      rintro e w2 ⟨rfl, hx⟩
      replace hb := hb.trans (hx.mono hb.size)
      have hn0 := next_any va vb a b 0 w2 (ha.below hb) (hb0.below hb)
      clear hx hv2
      go_wp2_with fail
      refine hn0.mono ?_
      rintro e w3 ⟨rfl, hx⟩
      replace hb := hb.trans (hx.mono hb.size)
      clear hx hn0
      go_wp2_with fail
      go_loopw [10, 11, 12] (fun vo at_ en wr => ∃ (x : Int) (out : List Sp), at_ = .int .i64 x ∧ en = .int .i64 (nextL a b x) ∧ RInv (· && ·) a b x out ∧ (0 < nextL a b x → x < nextL a b x ∧ nextL a b x ≤ 1000000000) ∧ wr.ownsRow w.heap.size 42 2 vo out.length (out.flatMap encS) ∧ Below w.heap.size w wr)
        (fun _ _ en _ => mE (intOf en))
      case atStart => exact ⟨0, [], rfl, rfl, RInv.start (· && ·) rfl a b hBa hBb, fun h => by have := (RInv.start (· && ·) rfl a b hBa hBb).step hBa hBb h; exact ⟨this.1, this.2.1⟩, World.ownsRow_nil _ _ _ _, hb⟩
      case round =>
        obtain ⟨x, out, rfl, rfl, hI, hE, hown, hbr⟩ := hrel
        have hfin := hI.finish rfl hBa hBb
        by_cases hpos : 0 < nextL a b x
        · obtain ⟨hx1, hx2, hI2⟩ := hI.step hBa hBb hpos
          have hE2 : 0 < nextL a b (nextL a b x) → nextL a b x < nextL a b (nextL a b x) ∧ nextL a b (nextL a b x) ≤ 1000000000 := fun h => by have := hI2.step hBa hBb h; exact ⟨this.1, this.2.1⟩
          have hpx := hI.pos
          have hol : out.length ≤ 1000000000 := by have := ok_len out _ hI.inc; have := hI.last; omega
          have hha := has_any va a x wr (ha.below hbr)
          have hnx := fun w' (h : Below w.heap.size w w') => next_any va vb a b (nextL a b x) w' (ha.below h) (hb0.below h)
          have hsb : ∀ w', Below w.heap.size w w' → Spans w' vb b := fun w' h => hb0.below h
          clear hE hI hfin
          generalize has a x = p at hha hI2
          obtain ⟨e2, he2⟩ : ∃ e2, nextL a b (nextL a b x) = e2 := ⟨_, rfl⟩
          rw [he2] at hnx hE2
          have hhb := fun w' (h : Below w.heap.size w w') => has_any vb b x w' (hb0.below h)
          generalize has b x = q at hhb hI2
          generalize nextL a b x = e1 at *
          have hH2 := Lib.hid he2
          clear he2
          clear ha hb0 hsb
          go_wp2_with fail
          refine hha.mono ?_
          rintro e w4 ⟨rfl, hx⟩
          replace hown := own_below hown hx
          replace hbr := hbr.trans (hx.mono hbr.size)
          clear hx hha
          go_wp2_with fail
          refine (hhb _ hbr).mono ?_
          rintro e w5 ⟨rfl, hx⟩
          replace hown := own_below hown hx
          replace hbr := hbr.trans (hx.mono hbr.size)
          clear hx hhb
          cases p <;> cases q
          · replace hI2 : RInv (· && ·) a b e1 out := hI2
            obtain ⟨po, capo, rfl⟩ := own_shape hown
            go_wp2_with fail
            refine (hnx _ hbr).mono ?_
            rintro e w7 ⟨rfl, hx⟩
            have hown7 := own_below hown hx
            have hb7 := hbr.trans (hx.mono hbr.size)
            clear hx hnx
            go_wp2_with fail
            go_roundw
            case rel => exact ⟨e1, out, rfl, by rw [hH2.out], hI2, by rw [hH2.out]; exact hE2, hown7, hb7⟩
            case measure => exact lt_meas e1 e2 hpos hx2 hE2
          · replace hI2 : RInv (· && ·) a b e1 out := hI2
            obtain ⟨po, capo, rfl⟩ := own_shape hown
            go_wp2_with fail
            refine (hnx _ hbr).mono ?_
            rintro e w7 ⟨rfl, hx⟩
            have hown7 := own_below hown hx
            have hb7 := hbr.trans (hx.mono hbr.size)
            clear hx hnx
            go_wp2_with fail
            go_roundw
            case rel => exact ⟨e1, out, rfl, by rw [hH2.out], hI2, by rw [hH2.out]; exact hE2, hown7, hb7⟩
            case measure => exact lt_meas e1 e2 hpos hx2 hE2
          · replace hI2 : RInv (· && ·) a b e1 out := hI2
            obtain ⟨po, capo, rfl⟩ := own_shape hown
            go_wp2_with fail
            refine (hnx _ hbr).mono ?_
            rintro e w7 ⟨rfl, hx⟩
            have hown7 := own_below hown hx
            have hb7 := hbr.trans (hx.mono hbr.size)
            clear hx hnx
            go_wp2_with fail
            go_roundw
            case rel => exact ⟨e1, out, rfl, by rw [hH2.out], hI2, by rw [hH2.out]; exact hE2, hown7, hb7⟩
            case measure => exact lt_meas e1 e2 hpos hx2 hE2
          · replace hI2 : RInv (· && ·) a b e1 (app out (x, e1)) := hI2
            rcases List.eq_nil_or_concat out with rfl | ⟨l, t, rfl⟩
            · rw [app_nil] at hI2
              obtain ⟨po, capo, rfl⟩ := own_shape hown
              go_wp2_with (at_builtin; refine wpList_append_own _ rfl _ _ 22 rfl w.heap.size 42 i0 (.agg #[.int .i64 0, .int .i64 0]) 2 16 Try.underlying22 hi hz0 hz1 hz2 rfl (by decide) _ 0 _ rfl (hown.alloc _) ⟨w5.heap.size, 0, none⟩ 1 1 [.int .i64 x, .int .i64 e1] rfl rfl (by intro j u hj; match j, hj with | 0, hj => (simp at hj; subst hj; exact (Own.new _ #[.int .i64 x, .int .i64 e1] 42).cell 0 _ rfl) | 1, hj => (simp at hj; subst hj; exact (Own.new _ #[.int .i64 x, .int .i64 e1] 42).cell 1 _ rfl)) (by intro u hu; simp at hu; rcases hu with rfl | rfl <;> rfl) (by unfold maxLen; omega) (by omega) (by have := hbr.size; simp; omega) ?_; intro v' w6 hown' hgrow _; have hb6 := (hbr.alloc hbr.size _).grown hgrow (by have := hbr.size; simp; omega) (own_row hown); clear hgrow)
              have hown6 : w6.ownsRow w.heap.size 42 2 v' [(x, e1)].length ([(x, e1)].flatMap encS) := by simpa [encS] using hown'
              clear hown' hown
              go_wp2_with fail
              refine (hnx _ hb6).mono ?_
              rintro e w7 ⟨rfl, hx⟩
              have hown7 := own_below hown6 hx
              have hb7 := hb6.trans (hx.mono hb6.size)
              clear hx hnx
              go_wp2_with fail
              go_roundw
              case rel => exact ⟨e1, [(x, e1)], rfl, by rw [hH2.out], hI2, by rw [hH2.out]; exact hE2, hown7, hb7⟩
              case measure => exact lt_meas e1 e2 hpos hx2 hE2
            · have hcat : l.concat t = l ++ [t] := by simp
              rw [hcat] at hown hI2 hol
              rw [List.length_append, List.length_singleton] at hown hol
              obtain ⟨_, ⟨_, h0⟩ | ⟨g, cap, cur, rfl, hg, hh, hc1, hc2, hcs, hct⟩⟩ := id hown
              · omega
              have hcm : l.length * 2 + 1 < cur.size := by rw [hcs]; omega
              have hcr : cur[l.length * 2 + 1]? = some (.int .i64 t.2) := by
                have h2 : (cur.toList.take ((l.length + 1) * 2))[l.length * 2 + 1]? = some (.int .i64 t.2) := by
                  rw [hct, List.flatMap_append, List.getElem?_append_right (by rw [lenS]; omega), lenS]; simp [encS]
                rw [List.getElem?_take] at h2
                split at h2
                · simpa using h2
                · cases h2
              have hcc : w5.cell? ⟨g, l.length * 2 + 1, none⟩ = some (.int .i64 t.2) := by simp [World.cell?, hh, hcr]
              have hff : w5.frozen? ⟨g, l.length * 2 + 1, none⟩ = false := by simp [World.frozen?, hh]
              clear hcr
              by_cases he : t.2 = x
              · rw [app_yes _ _ (x, e1) he] at hI2
                subst he
                have hown6 : (w5.setCell ⟨g, l.length * 2 + 1, none⟩ (.int .i64 e1)).ownsRow w.heap.size 42 2 (.slice (some ⟨g, 0, none⟩) (l.length + 1) cap) (l ++ [(t.1, e1)]).length ((l ++ [(t.1, e1)]).flatMap encS) := by
                  refine ⟨by rw [lenS], .inr ⟨g, cap, cur.setIfInBounds (l.length * 2 + 1) (.int .i64 e1), by simp, hg, heap_setCell_same _ _ _ _ _ _ hh, by simpa using hc1, hc2, by simpa using hcs, ?_⟩⟩
                  rw [List.length_append, List.length_singleton, Array.toList_setIfInBounds, List.take_set, hct, List.flatMap_append, List.flatMap_append, List.set_append_right _ _ (by rw [lenS]; omega), lenS]
                  simp [encS]
                have hb6 : Below w.heap.size w (w5.setCell ⟨g, l.length * 2 + 1, none⟩ (.int .i64 e1)) := hbr.setCell hg _
                clear hown hh hct
                go_wp2_with fail
                refine (hnx _ hb6).mono ?_
                rintro e w7 ⟨rfl, hx⟩
                have hown7 := own_below hown6 hx
                have hb7 := hb6.trans (hx.mono hb6.size)
                clear hx hnx
                go_wp2_with fail
                go_roundw
                case rel => exact ⟨e1, (l ++ [(t.1, e1)]), rfl, by rw [hH2.out], hI2, by rw [hH2.out]; exact hE2, hown7, hb7⟩
                case measure => exact lt_meas e1 e2 hpos hx2 hE2
              · rw [app_no _ _ (x, e1) he] at hI2
                clear hct hh hcs hcm
                go_wp2_with (at_builtin; refine wpList_append_own _ rfl _ _ 22 rfl w.heap.size 42 i0 (.agg #[.int .i64 0, .int .i64 0]) 2 16 Try.underlying22 hi hz0 hz1 hz2 rfl (by decide) _ (l.length + 1) _ rfl (hown.alloc _) ⟨w5.heap.size, 0, none⟩ 1 1 [.int .i64 x, .int .i64 e1] rfl rfl (by intro j u hj; match j, hj with | 0, hj => (simp at hj; subst hj; exact (Own.new _ #[.int .i64 x, .int .i64 e1] 42).cell 0 _ rfl) | 1, hj => (simp at hj; subst hj; exact (Own.new _ #[.int .i64 x, .int .i64 e1] 42).cell 1 _ rfl)) (by intro u hu; simp at hu; rcases hu with rfl | rfl <;> rfl) (by unfold maxLen; omega) (by omega) (by have := hbr.size; simp; omega) ?_; intro v' w6 hown' hgrow _; have hb6 := (hbr.alloc hbr.size _).grown hgrow (by have := hbr.size; simp; omega) (own_row hown); clear hgrow)
                have hown6 : w6.ownsRow w.heap.size 42 2 v' (l ++ [t] ++ [(x, e1)]).length ((l ++ [t] ++ [(x, e1)]).flatMap encS) := by simpa [encS] using hown'
                clear hown' hown
                go_wp2_with fail
                refine (hnx _ hb6).mono ?_
                rintro e w7 ⟨rfl, hx⟩
                have hown7 := own_below hown6 hx
                have hb7 := hb6.trans (hx.mono hb6.size)
                clear hx hnx
                go_wp2_with fail
                go_roundw
                case rel => exact ⟨e1, (l ++ [t] ++ [(x, e1)]), rfl, by rw [hH2.out], hI2, by rw [hH2.out]; exact hE2, hown7, hb7⟩
                case measure => exact lt_meas e1 e2 hpos hx2 hE2
        · have hL := hfin hpos
          subst hL
          obtain ⟨po, capo, rfl⟩ := own_shape hown
          have hlL : (combL (· && ·) a b).length ≤ 9223372036854775807 := by
            obtain ⟨_, ⟨_, h⟩ | ⟨_, _, _, _, _, _, h1, h2, _⟩⟩ := hown
            · omega
            · exact Nat.le_trans h1 (by unfold maxLen at h2; exact h2)
          clear hE hI hfin ha hb0
          by_cases h1000 : 1000 < (combL (· && ·) a b).length
          · go_wp2_with fail
            exact bodyPost_ret (results_tmp2 rfl _ _ _) rfl ⟨.slice none 0 0, rfl, World.ownsRow_nil _ _ _ _, hbr⟩
          · go_wp2_with fail
            exact bodyPost_ret (results_tmp2 rfl _ _ _) rfl ⟨_, rfl, hown, hbr⟩

set_option maxHeartbeats 8000000 in
theorem refCombL_any (va vb : Value) (a b : List Sp) (w : World) (ha : Spans w va a) (hb0 : Spans w vb b) :
    Calls Try.prog 34 #[va, vb, .int .i64 3] w fun e w' => ∃ v', e = .returned (.tuple #[v', .int .i64 (comb (fun x y => x && !y) a b).2]) ∧ w'.ownsRow w.heap.size 42 2 v' (comb (fun x y => x && !y) a b).1.length ((comb (fun x y => x && !y) a b).1.flatMap encS) ∧ Below w.heap.size w w' := by
  obtain ⟨i0, hi, hz0, hz1, hz2⟩ := info_parts Try.infoSpan
  have hv1 := refValid_any va a w ha
  have hb := Below.refl w.heap.size w
  cases hva : valid a with
  | false =>
    rw [hva] at hv1
    have hcomb : comb (fun x y => x && !y) a b = ([], 1) := by simp [comb, hva]
    rw [hcomb]
    go_enter Try.func34, Try.ntmps34
    go_wp2_with fail
    refine hv1.mono ?_
    rintro e w1 ⟨rfl, hx⟩
    replace hb := hb.trans (hx.mono hb.size)
    have hv2 := refValid_any vb b w1 (hb0.below hx)
    generalize valid b = vb1 at hv2
    clear ha hb0 hx
    go_wp2_with fail
    refine hv2.mono ?_
    rintro e w2 ⟨rfl, hx⟩
    replace hb := hb.trans (hx.mono hb.size)
    go_wp2_with fail
    exact bodyPost_ret (results_tmp2 rfl _ _ _) rfl ⟨.slice none 0 0, rfl, World.ownsRow_nil _ _ _ _, hb⟩
  | true =>
    rw [hva] at hv1
    cases hvb : valid b with
    | false =>
      have hcomb : comb (fun x y => x && !y) a b = ([], 1) := by simp [comb, hva, hvb]
      rw [hcomb]
      go_enter Try.func34, Try.ntmps34
      go_wp2_with fail
      refine hv1.mono ?_
      rintro e w1 ⟨rfl, hx⟩
      replace hb := hb.trans (hx.mono hb.size)
      have hv2 := refValid_any vb b w1 (hb0.below hx)
      rw [hvb] at hv2
      clear ha hb0 hx
      go_wp2_with fail
      refine hv2.mono ?_
      rintro e w2 ⟨rfl, hx⟩
      replace hb := hb.trans (hx.mono hb.size)
      go_wp2_with fail
      exact bodyPost_ret (results_tmp2 rfl _ _ _) rfl ⟨.slice none 0 0, rfl, World.ownsRow_nil _ _ _ _, hb⟩
    | true =>
      have hcomb : comb (fun x y => x && !y) a b = if 1000 < (combL (fun x y => x && !y) a b).length then ([], 2) else (combL (fun x y => x && !y) a b, 0) := by simp [comb, hva, hvb]
      rw [hcomb]
      have hBa : Bd a := valid_all hva
      have hBb : Bd b := valid_all hvb
      clear hcomb hva
      go_enter Try.func34, Try.ntmps34
      go_wp2_with fail
      refine hv1.mono ?_
      rintro e w1 ⟨rfl, hx⟩
      replace hb := hb.trans (hx.mono hb.size)
      have hv2 := refValid_any vb b w1 (hb0.below hx)
      rw [hvb] at hv2
      clear hx hv1 hvb
      go_wp2_with fail
      refine hv2.mono ?_
      rintro e w2 ⟨rfl, hx⟩
      replace hb := hb.trans (hx.mono hb.size)
      have hn0 := next_any va vb a b 0 w2 (ha.below hb) (hb0.below hb)
      clear hx hv2
      go_wp2_with fail
      refine hn0.mono ?_
      rintro e w3 ⟨rfl, hx⟩
      replace hb := hb.trans (hx.mono hb.size)
      clear hx hn0
      go_wp2_with fail
      go_loopw [10, 11, 12] (fun vo at_ en wr => ∃ (x : Int) (out : List Sp), at_ = .int .i64 x ∧ en = .int .i64 (nextL a b x) ∧ RInv (fun x y => x && !y) a b x out ∧ (0 < nextL a b x → x < nextL a b x ∧ nextL a b x ≤ 1000000000) ∧ wr.ownsRow w.heap.size 42 2 vo out.length (out.flatMap encS) ∧ Below w.heap.size w wr)
        (fun _ _ en _ => mE (intOf en))
      case atStart => exact ⟨0, [], rfl, rfl, RInv.start (fun x y => x && !y) rfl a b hBa hBb, fun h => by have := (RInv.start (fun x y => x && !y) rfl a b hBa hBb).step hBa hBb h; exact ⟨this.1, this.2.1⟩, World.ownsRow_nil _ _ _ _, hb⟩
      case round =>
        obtain ⟨x, out, rfl, rfl, hI, hE, hown, hbr⟩ := hrel
        have hfin := hI.finish rfl hBa hBb
        by_cases hpos : 0 < nextL a b x
        · obtain ⟨hx1, hx2, hI2⟩ := hI.step hBa hBb hpos
          have hE2 : 0 < nextL a b (nextL a b x) → nextL a b x < nextL a b (nextL a b x) ∧ nextL a b (nextL a b x) ≤ 1000000000 := fun h => by have := hI2.step hBa hBb h; exact ⟨this.1, this.2.1⟩
          have hpx := hI.pos
          have hol : out.length ≤ 1000000000 := by have := ok_len out _ hI.inc; have := hI.last; omega
          have hha := has_any va a x wr (ha.below hbr)
          have hnx := fun w' (h : Below w.heap.size w w') => next_any va vb a b (nextL a b x) w' (ha.below h) (hb0.below h)
          have hsb : ∀ w', Below w.heap.size w w' → Spans w' vb b := fun w' h => hb0.below h
          clear hE hI hfin
          generalize has a x = p at hha hI2
          obtain ⟨e2, he2⟩ : ∃ e2, nextL a b (nextL a b x) = e2 := ⟨_, rfl⟩
          rw [he2] at hnx hE2
          have hhb := fun w' (h : Below w.heap.size w w') => has_any vb b x w' (hb0.below h)
          generalize has b x = q at hhb hI2
          generalize nextL a b x = e1 at *
          have hH2 := Lib.hid he2
          clear he2
          clear ha hb0 hsb
          go_wp2_with fail
          refine hha.mono ?_
          rintro e w4 ⟨rfl, hx⟩
          replace hown := own_below hown hx
          replace hbr := hbr.trans (hx.mono hbr.size)
          clear hx hha
          go_wp2_with fail
          refine (hhb _ hbr).mono ?_
          rintro e w5 ⟨rfl, hx⟩
          replace hown := own_below hown hx
          replace hbr := hbr.trans (hx.mono hbr.size)
          clear hx hhb
          cases p <;> cases q
          · replace hI2 : RInv (fun x y => x && !y) a b e1 out := hI2
            obtain ⟨po, capo, rfl⟩ := own_shape hown
            go_wp2_with fail
            refine (hnx _ hbr).mono ?_
            rintro e w7 ⟨rfl, hx⟩
            have hown7 := own_below hown hx
            have hb7 := hbr.trans (hx.mono hbr.size)
            clear hx hnx
            go_wp2_with fail
            go_roundw
            case rel => exact ⟨e1, out, rfl, by rw [hH2.out], hI2, by rw [hH2.out]; exact hE2, hown7, hb7⟩
            case measure => exact lt_meas e1 e2 hpos hx2 hE2
          · replace hI2 : RInv (fun x y => x && !y) a b e1 out := hI2
            obtain ⟨po, capo, rfl⟩ := own_shape hown
            go_wp2_with fail
            refine (hnx _ hbr).mono ?_
            rintro e w7 ⟨rfl, hx⟩
            have hown7 := own_below hown hx
            have hb7 := hbr.trans (hx.mono hbr.size)
            clear hx hnx
            go_wp2_with fail
            go_roundw
            case rel => exact ⟨e1, out, rfl, by rw [hH2.out], hI2, by rw [hH2.out]; exact hE2, hown7, hb7⟩
            case measure => exact lt_meas e1 e2 hpos hx2 hE2
          · replace hI2 : RInv (fun x y => x && !y) a b e1 (app out (x, e1)) := hI2
            rcases List.eq_nil_or_concat out with rfl | ⟨l, t, rfl⟩
            · rw [app_nil] at hI2
              obtain ⟨po, capo, rfl⟩ := own_shape hown
              go_wp2_with (at_builtin; refine wpList_append_own _ rfl _ _ 22 rfl w.heap.size 42 i0 (.agg #[.int .i64 0, .int .i64 0]) 2 16 Try.underlying22 hi hz0 hz1 hz2 rfl (by decide) _ 0 _ rfl (hown.alloc _) ⟨w5.heap.size, 0, none⟩ 1 1 [.int .i64 x, .int .i64 e1] rfl rfl (by intro j u hj; match j, hj with | 0, hj => (simp at hj; subst hj; exact (Own.new _ #[.int .i64 x, .int .i64 e1] 42).cell 0 _ rfl) | 1, hj => (simp at hj; subst hj; exact (Own.new _ #[.int .i64 x, .int .i64 e1] 42).cell 1 _ rfl)) (by intro u hu; simp at hu; rcases hu with rfl | rfl <;> rfl) (by unfold maxLen; omega) (by omega) (by have := hbr.size; simp; omega) ?_; intro v' w6 hown' hgrow _; have hb6 := (hbr.alloc hbr.size _).grown hgrow (by have := hbr.size; simp; omega) (own_row hown); clear hgrow)
              have hown6 : w6.ownsRow w.heap.size 42 2 v' [(x, e1)].length ([(x, e1)].flatMap encS) := by simpa [encS] using hown'
              clear hown' hown
              go_wp2_with fail
              refine (hnx _ hb6).mono ?_
              rintro e w7 ⟨rfl, hx⟩
              have hown7 := own_below hown6 hx
              have hb7 := hb6.trans (hx.mono hb6.size)
              clear hx hnx
              go_wp2_with fail
              go_roundw
              case rel => exact ⟨e1, [(x, e1)], rfl, by rw [hH2.out], hI2, by rw [hH2.out]; exact hE2, hown7, hb7⟩
              case measure => exact lt_meas e1 e2 hpos hx2 hE2
            · have hcat : l.concat t = l ++ [t] := by simp
              rw [hcat] at hown hI2 hol
              rw [List.length_append, List.length_singleton] at hown hol
              obtain ⟨_, ⟨_, h0⟩ | ⟨g, cap, cur, rfl, hg, hh, hc1, hc2, hcs, hct⟩⟩ := id hown
              · omega
              have hcm : l.length * 2 + 1 < cur.size := by rw [hcs]; omega
              have hcr : cur[l.length * 2 + 1]? = some (.int .i64 t.2) := by
                have h2 : (cur.toList.take ((l.length + 1) * 2))[l.length * 2 + 1]? = some (.int .i64 t.2) := by
                  rw [hct, List.flatMap_append, List.getElem?_append_right (by rw [lenS]; omega), lenS]; simp [encS]
                rw [List.getElem?_take] at h2
                split at h2
                · simpa using h2
                · cases h2
              have hcc : w5.cell? ⟨g, l.length * 2 + 1, none⟩ = some (.int .i64 t.2) := by simp [World.cell?, hh, hcr]
              have hff : w5.frozen? ⟨g, l.length * 2 + 1, none⟩ = false := by simp [World.frozen?, hh]
              clear hcr
              by_cases he : t.2 = x
              · rw [app_yes _ _ (x, e1) he] at hI2
                subst he
                have hown6 : (w5.setCell ⟨g, l.length * 2 + 1, none⟩ (.int .i64 e1)).ownsRow w.heap.size 42 2 (.slice (some ⟨g, 0, none⟩) (l.length + 1) cap) (l ++ [(t.1, e1)]).length ((l ++ [(t.1, e1)]).flatMap encS) := by
                  refine ⟨by rw [lenS], .inr ⟨g, cap, cur.setIfInBounds (l.length * 2 + 1) (.int .i64 e1), by simp, hg, heap_setCell_same _ _ _ _ _ _ hh, by simpa using hc1, hc2, by simpa using hcs, ?_⟩⟩
                  rw [List.length_append, List.length_singleton, Array.toList_setIfInBounds, List.take_set, hct, List.flatMap_append, List.flatMap_append, List.set_append_right _ _ (by rw [lenS]; omega), lenS]
                  simp [encS]
                have hb6 : Below w.heap.size w (w5.setCell ⟨g, l.length * 2 + 1, none⟩ (.int .i64 e1)) := hbr.setCell hg _
                clear hown hh hct
                go_wp2_with fail
                refine (hnx _ hb6).mono ?_
                rintro e w7 ⟨rfl, hx⟩
                have hown7 := own_below hown6 hx
                have hb7 := hb6.trans (hx.mono hb6.size)
                clear hx hnx
                go_wp2_with fail
                go_roundw
                case rel => exact ⟨e1, (l ++ [(t.1, e1)]), rfl, by rw [hH2.out], hI2, by rw [hH2.out]; exact hE2, hown7, hb7⟩
                case measure => exact lt_meas e1 e2 hpos hx2 hE2
              · rw [app_no _ _ (x, e1) he] at hI2
                clear hct hh hcs hcm
                go_wp2_with (at_builtin; refine wpList_append_own _ rfl _ _ 22 rfl w.heap.size 42 i0 (.agg #[.int .i64 0, .int .i64 0]) 2 16 Try.underlying22 hi hz0 hz1 hz2 rfl (by decide) _ (l.length + 1) _ rfl (hown.alloc _) ⟨w5.heap.size, 0, none⟩ 1 1 [.int .i64 x, .int .i64 e1] rfl rfl (by intro j u hj; match j, hj with | 0, hj => (simp at hj; subst hj; exact (Own.new _ #[.int .i64 x, .int .i64 e1] 42).cell 0 _ rfl) | 1, hj => (simp at hj; subst hj; exact (Own.new _ #[.int .i64 x, .int .i64 e1] 42).cell 1 _ rfl)) (by intro u hu; simp at hu; rcases hu with rfl | rfl <;> rfl) (by unfold maxLen; omega) (by omega) (by have := hbr.size; simp; omega) ?_; intro v' w6 hown' hgrow _; have hb6 := (hbr.alloc hbr.size _).grown hgrow (by have := hbr.size; simp; omega) (own_row hown); clear hgrow)
                have hown6 : w6.ownsRow w.heap.size 42 2 v' (l ++ [t] ++ [(x, e1)]).length ((l ++ [t] ++ [(x, e1)]).flatMap encS) := by simpa [encS] using hown'
                clear hown' hown
                go_wp2_with fail
                refine (hnx _ hb6).mono ?_
                rintro e w7 ⟨rfl, hx⟩
                have hown7 := own_below hown6 hx
                have hb7 := hb6.trans (hx.mono hb6.size)
                clear hx hnx
                go_wp2_with fail
                go_roundw
                case rel => exact ⟨e1, (l ++ [t] ++ [(x, e1)]), rfl, by rw [hH2.out], hI2, by rw [hH2.out]; exact hE2, hown7, hb7⟩
                case measure => exact lt_meas e1 e2 hpos hx2 hE2
          · replace hI2 : RInv (fun x y => x && !y) a b e1 out := hI2
            obtain ⟨po, capo, rfl⟩ := own_shape hown
            go_wp2_with fail
            refine (hnx _ hbr).mono ?_
            rintro e w7 ⟨rfl, hx⟩
            have hown7 := own_below hown hx
            have hb7 := hbr.trans (hx.mono hbr.size)
            clear hx hnx
            go_wp2_with fail
            go_roundw
            case rel => exact ⟨e1, out, rfl, by rw [hH2.out], hI2, by rw [hH2.out]; exact hE2, hown7, hb7⟩
            case measure => exact lt_meas e1 e2 hpos hx2 hE2
        · have hL := hfin hpos
          subst hL
          obtain ⟨po, capo, rfl⟩ := own_shape hown
          have hlL : (combL (fun x y => x && !y) a b).length ≤ 9223372036854775807 := by
            obtain ⟨_, ⟨_, h⟩ | ⟨_, _, _, _, _, _, h1, h2, _⟩⟩ := hown
            · omega
            · exact Nat.le_trans h1 (by unfold maxLen at h2; exact h2)
          clear hE hI hfin ha hb0
          by_cases h1000 : 1000 < (combL (fun x y => x && !y) a b).length
          · go_wp2_with fail
            exact bodyPost_ret (results_tmp2 rfl _ _ _) rfl ⟨.slice none 0 0, rfl, World.ownsRow_nil _ _ _ _, hbr⟩
          · go_wp2_with fail
            exact bodyPost_ret (results_tmp2 rfl _ _ _) rfl ⟨_, rfl, hown, hbr⟩
end Go.Proofs.Ytfhhkbijcleedaa
