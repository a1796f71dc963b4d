/-
  The walk of Parse.
-/
import Derived.Test.YtnjaedbekogeaaaDoorMonText
namespace Go.Proofs.YtnjaedbekogeaaaDoor
open Go.RowKit Go.Shelf
set_option maxRecDepth 100000

theorem cutK_len : ∀ (k : Nat) (s : List UInt8), (Lib.replaceK [46] [] k s).length ≤ s.length
  | 0, s => by simp [Lib.replaceK]
  | k + 1, s => by
    rw [Lib.replaceK]
    split
    · exact Nat.le_refl _
    · have := cutK_len k (s.drop ((Lib.index s [46]).toNat + 1))
      simp at this ⊢; omega
theorem cutP_len (s : List UInt8) : (cutP s).length ≤ s.length := by
  unfold cutP Lib.replace
  split
  · exact Nat.le_refl _
  · exact cutK_len _ _
set_option maxHeartbeats 1000000 in
theorem mparse_any (s : List UInt8) (hs : s.length ≤ 1000) (w : World) (hL : Lay w) : Calls Tryd.prog 19 #[.string ⟨s.toArray⟩] w (Ret (.tuple #[.int .i64 (parseF s).1, .int .i64 (parseF s).2]) w) := by
  have hl := cutP_len s
  go_enter Tryd.func19, Tryd.ntmps19
  go_wp2_with fail
  refine (replace_any s hs w hL).mono ?_
  rintro e w1 ⟨rfl, hx⟩
  have hL1 := hL.below hx
  go_wp2_with fail
  refine (atoi_any (cutP s) (by omega) w1 hL1).mono ?_
  rintro e w2 ⟨hx2, ⟨v, hv, rfl⟩ | ⟨hv, n, t, p, rfl⟩⟩
  · have hb2 := hx.trans (hx2.mono hx.size)
    have hT := (hL1.below hx2).tab
    have hp := Lib.hid (parse_ok hv)
    clear hl hs hv hx hx2 hL hL1
    go_wp2_with fail
    refine (mtext_any v w2 hT).mono ?_
    cases hw : wthB v 1000000000 with
    | false =>
      have ht : textF v = ([], 1) := by simp [textF, hw]
      have HP : Hid (parseF s = (0, 7)) := Lib.hid (by rw [hp.out, if_neg (by simp [hw])])
      rw [ht]
      rintro e w3 ⟨rfl, hx3⟩
      clear hp ht hw
      go_wp2_with fail
      go_ret2
      exact Ret.mk (by rw [HP.out]; rfl) (hb2.trans (hx3.mono hb2.size))
    | true =>
      have ht : textF v = (txtOf v, 0) := by simp [textF, hw]
      rw [ht]
      rintro e w3 ⟨rfl, hx3⟩
      clear ht
      by_cases hts : txtOf v = s
      · have HP : Hid (parseF s = (v, 0)) := Lib.hid (by rw [hp.out, if_pos ⟨hw, hts⟩])
        have he : (txtOf v == s) = true := by simpa using hts
        clear hp hw hts
        go_wp2_with fail
        go_ret2
        exact Ret.mk (by rw [HP.out]; rfl) (hb2.trans (hx3.mono hb2.size))
      · have HP : Hid (parseF s = (0, 7)) := Lib.hid (by rw [hp.out, if_neg (fun h => hts h.2)])
        have he : (txtOf v == s) = false := by simpa using hts
        clear hp hw hts
        go_wp2_with fail
        go_ret2
        exact Ret.mk (by rw [HP.out]; rfl) (hb2.trans (hx3.mono hb2.size))
  · have hb2 := hx.trans (hx2.mono hx.size)
    have HP : Hid (parseF s = (0, 7)) := Lib.hid (parse_bad hv)
    clear hl hs hv hx hx2 hL hL1
    go_wp2_with fail
    go_ret2
    exact Ret.mk (by rw [HP.out]; rfl) hb2
end Go.Proofs.YtnjaedbekogeaaaDoor
