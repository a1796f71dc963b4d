/-
  The walks of the span package's small functions: wellFormed, Valid.
-/
import Derived.Test.YtfhhkbijcleedaaSpanPlain
import Derived.Test.YtfhhkbijcleedaaProg
namespace Go.Proofs.Ytfhhkbijcleedaa
open Go.RowKit

set_option maxHeartbeats 400000 in
theorem wellFormed_any (s : Sp) (w : World) : Calls Try.prog 30 #[.agg #[.int .i64 s.1, .int .i64 s.2]] w (Ret (.bool (wf s)) w) := by
  go_enter Try.func30, Try.ntmps30
  go_wp2_with fail
  all_goals go_ret
  all_goals refine Ret.mk ?_ (by (repeat (first | exact Below.refl _ _ | assumption | refine Below.drew ?_ | refine below_drewN ?_ _ | refine Below.setCell ?_ (by first | omega | (simp <;> omega)) _ | refine Below.alloc ?_ (by first | omega | (simp <;> omega)) _)))
  all_goals (simp [wf]; try omega)

set_option maxHeartbeats 800000 in
theorem valid_any (v : Value) (l : List Sp) (w : World) (h : Spans w v l) : Calls Try.prog 11 #[v] w (Ret (.bool (valid l)) w) := by
  obtain ⟨ad, cap, rfl, hc⟩ := h.open
  have hlen := h.short
  by_cases hm : 1000 < l.length
  · go_enter Try.func11, Try.ntmps11
    go_wp2_with fail
    go_ret
    refine Ret.mk (by simp [valid]; omega) (by (repeat (first | exact Below.refl _ _ | assumption | refine Below.drew ?_ | refine below_drewN ?_ _ | refine Below.setCell ?_ (by first | omega | (simp <;> omega)) _ | refine Below.alloc ?_ (by first | omega | (simp <;> omega)) _)))
  go_enter Try.func11, Try.ntmps11
  go_wp2_with fail
  go_loopw [3, 11] (fun la i wr => ∃ k : Nat, ∃ last : Int, k ≤ l.length ∧ i = .int .i64 k ∧ la = .int .i64 last ∧ valid l = okFrom last (l.drop k) ∧ Below w.heap.size w wr)
    (fun _ i _ => l.length - (intOf i).toNat)
  case atStart => exact ⟨0, -1, by omega, rfl, rfl, by simp [valid]; omega, Below.refl _ _⟩
  case round =>
    obtain ⟨k, last, hk, rfl, rfl, hv, hb⟩ := hrel
    by_cases hkl : k < l.length
    · obtain ⟨a, rfl, hab, hc0, hc1⟩ := hc k hkl
      have hr0 := (hb.cell (p := a.add (k * 2)) (by rw [blk_add]; exact hab)).trans hc0
      have hr1 := (hb.cell (p := a.add (k * 2 + 1)) (by rw [blk_add]; exact hab)).trans hc1
      rw [add_succ] at hr1
      rw [drop_cons hkl] at hv
      generalize l[k] = s at hr0 hr1 hv
      have hn : Below wr.heap.size wr (wr.alloc (.cells #[.int .i64 s.1, .int .i64 s.2] 42)) := (Below.refl _ _).alloc (Nat.le_refl _) _
      have ho := Own.new wr #[.int .i64 s.1, .int .i64 s.2] 42
      obtain ⟨c0, c1, f0, f1, z⟩ := ho.two
      have hw := wellFormed_any s (wr.alloc (.cells #[.int .i64 s.1, .int .i64 s.2] 42))
      go_wp2_with (go_at_call 30; refine hw.mono ?_; rintro e w2 ⟨rfl, hx⟩; have ho2 := ho.below hx; obtain ⟨d0, d1, g0, g1, z2⟩ := ho2.two)
      all_goals replace hb := (hb.trans (hn.mono hb.size)).trans (hx.mono (by have := hb.size; simp; omega))
      · go_ret
        refine Ret.mk ?_ hb
        have h1 : wf s = true := by assumption
        have h2 : s.1 ≤ last := by assumption
        rw [hv]; simp [okFrom]; omega
      · go_roundw
        have h1 : wf s = true := by assumption
        have h2 : last < s.1 := by assumption
        case rel => exact ⟨k + 1, s.2, by omega, by go_num, rfl, by rw [hv]; simp [okFrom, h1, h2], hb⟩
        case measure => simp [intOf]; omega
      · go_ret
        refine Ret.mk ?_ hb
        have h1 : ¬ wf s = true := by assumption
        rw [hv]; simp [okFrom, h1]
    · go_wp2_with fail
      go_ret
      refine Ret.mk ?_ hb
      rw [hv, List.drop_eq_nil_of_le (by omega)]; rfl
end Go.Proofs.Ytfhhkbijcleedaa
