/-
  The law's small: whether expressions are well-formed, and have at most 8 nodes each.
-/
import Derived.Test.YthnlenbfknbmcaaGreatDoorQq
namespace Go.Proofs.YthnlenbfknbmcaaGreatDoor
open Go.RowKit Go.Shelf
set_option maxRecDepth 100000

def smallE (e : Xp) : Bool := validF e && decide (depE e ≤ 8) && decide (cntE e ≤ 8)
theorem Trees.below8 {Q : Nat → Prop} {w w' : World} {l : List Xp} {ad : Option Addr} {i : Nat} (ht : Trees Q w l ad i) (h : Below w.heap.size w w') : Trees Q w' l ad i := Trees.go h.size (fun k hk hq => ⟨h.block k hk, hq⟩) ht
set_option maxHeartbeats 1600000 in
theorem small_any (Q : Nat → Prop) (l : List Xp) (ad : Option Addr) (cap : Nat) (w : World) (hl : l.length ≤ 100) (ht : Trees Q w l ad 0) : Calls Tryz.prog 16 #[.slice ad l.length cap] w (Ret (.bool (l.all smallE)) w) := by
  go_enter Tryz.func16, Tryz.ntmps16
  go_wp2_with fail
  go_loopw [3] (fun i wr => ∃ k : Nat, i = .int .i64 k ∧ k ≤ l.length ∧ (l.take k).all smallE = true ∧ Below w.heap.size w wr) (fun i _ => l.length - (intOf i).toNat)
  case atStart => exact ⟨0, rfl, Nat.zero_le _, rfl, Below.refl _ _⟩
  case round =>
    obtain ⟨k, rfl, hkl, hall, q2⟩ := hrel
    by_cases hk : k < l.length
    · obtain ⟨a, ad2, cap2, rfl, m0, m1, m2, tk, hab⟩ := (ht.below8 q2).reads k hk
      simp only [Xp.ks] at m0 m1 m2 tk
      have hwk : IntKind.i64.wrap ((k : Int) + 1) = (k : Int) + 1 := IntWalk.i64_in _ (by omega)
      have hcall := left_any Q l[k] 8 8 _ wr (by omega) (by omega) tk
      have hvd := fun w1 h => rvalid8_any l[k] _ w1 (Tree.below tk (w' := w1) h)
      have HN : Hid (smallE l[k] = true → (l.take (k + 1)).all smallE = true) := Lib.hid (fun h => by rw [List.take_succ_eq_append_getElem hk, List.all_append, hall]; simp [h])
      have HF : Hid (smallE l[k] = false → l.all smallE = false) := Lib.hid (fun h => by rw [List.all_eq_false]; exact ⟨l[k], List.getElem_mem hk, by simp [h]⟩)
      have HS : Hid (smallE l[k] = (validF l[k] && decide (depE l[k] ≤ 8) && decide (cntE l[k] ≤ 8))) := Lib.hid rfl
      obtain ⟨b, hB⟩ : ∃ b, validF l[k] = b := ⟨_, rfl⟩
      rw [hB] at HS
      simp only [hB] at hvd
      clear hB
      generalize l[k] = x at hcall hvd HN HF HS m0 m1 m2 tk
      clear hall
      go_wp2_with fail
      refine hcall.mono ?_
      rintro e w2 ⟨z, rfl, hz, hx⟩
      have q3 := q2.trans (hx.mono q2.size)
      have c0 := (hx.cell (p := a.add (k * 3)) hab).trans m0
      have c1 := (hx.cell (p := { block := (a.add (k * 3)).block, off := (a.add (k * 3)).off + 1 }) hab).trans m1
      have c2 := (hx.cell (p := { block := (a.add (k * 3)).block, off := (a.add (k * 3)).off + 2 }) hab).trans m2
      rcases hz with ⟨h1, h2, h3⟩ | ⟨h1, h2, h3⟩
      · have g1 : decide (z < 0) = false := by rw [decide_eq_false_iff_not]; omega
        have hvd2 := hvd w2 hx
        cases b with
        | true =>
          have hs := Lib.hid (HN.out (by rw [HS.out]; simp [h1, h2]))
          clear h1 h2 h3 hvd HN HF HS m0 m1 m2 q2
          go_wp2_with fail
          refine hvd2.mono ?_
          rintro e w3 ⟨rfl, hy⟩
          have q4 := q3.trans (hy.mono q3.size)
          go_wp2_with fail
          go_roundw
          case rel => exact ⟨k + 1, by go_num, by omega, hs.out, q4⟩
          case measure => simp [intOf]; omega
        | false =>
          have hs := Lib.hid (HF.out (by rw [HS.out]; simp))
          clear h1 h2 h3 hvd HN HF HS m0 m1 m2 q2
          go_wp2_with fail
          refine hvd2.mono ?_
          rintro e w3 ⟨rfl, hy⟩
          have q4 := q3.trans (hy.mono q3.size)
          go_wp2_with fail
          go_ret
          exact Ret.mk (by rw [hs.out]; rfl) q4
      · have g1 : decide (z < 0) = true := by rw [decide_eq_true_iff]; omega
        have hs : Hid (l.all smallE = false) := Lib.hid (HF.out (by
          rw [HS.out, Bool.eq_false_iff]
          intro h
          simp only [Bool.and_eq_true, decide_eq_true_eq] at h
          exact h1 ⟨h.1.2, h.2⟩))
        clear h1 hvd HN HF HS m0 m1 m2 q2
        go_wp2_with fail
        go_ret
        exact Ret.mk (by rw [hs.out]; rfl) q3
    · have hkE : k = l.length := by omega
      subst hkE
      rw [List.take_length] at hall
      have hs := Lib.hid hall
      clear hall
      go_wp2_with fail
      go_ret
      exact Ret.mk (by rw [hs.out]; rfl) q2
end Go.Proofs.YthnlenbfknbmcaaGreatDoor
