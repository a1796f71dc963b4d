/-
  The reference's loops: next, combine, Count, Most, Weekday.
-/
import Derived.Test.YtfhhkbijcleedaaSpanRefMath
import Derived.Test.YtfhhkbijcleedaaSpanArg
namespace Go.Proofs.Ytfhhkbijcleedaa
open Go.RowKit Go.Shelf

set_option maxHeartbeats 8000000 in
theorem next_any (va vb : Value) (a b : List Sp) (n : Int) (w : World) (ha : Spans w va a) (hb0 : Spans w vb b) : Calls Try.prog 39 #[va, vb, .int .i64 n] w (Ret (.int .i64 (nextL a b n)) w) := by
  obtain ⟨ada, capa, rfl, hca⟩ := ha.open
  obtain ⟨adb, capb, rfl, hcb⟩ := hb0.open
  have hla := ha.short
  have hlb := hb0.short
  clear ha hb0
  have hlen : (a ++ b).length = a.length + b.length := List.length_append
  have hfold : ∀ k, ∀ h : k < (a ++ b).length, ((a ++ b).take (k + 1)).foldl (nxS n) (-1) = nxS n (((a ++ b).take k).foldl (nxS n) (-1)) (a ++ b)[k] := fun k h => by
    rw [List.take_add_one, List.getElem?_eq_getElem h, List.foldl_append]; rfl
  have hsplit : ∀ v least : Int, (¬ n < v) ∨ (n < v ∧ least < 0) ∨ (n < v ∧ 0 ≤ least ∧ v < least) ∨ (n < v ∧ 0 ≤ least ∧ least ≤ v) := by intro v least; omega
  have hA : ∀ v least : Int, (¬ n < v) → nx1 n v least = least := fun v least h => if_neg (by omega)
  have hB : ∀ v least : Int, (n < v ∧ least < 0) → nx1 n v least = v := fun v least h => if_pos (by omega)
  have hC : ∀ v least : Int, (n < v ∧ 0 ≤ least ∧ v < least) → nx1 n v least = v := fun v least h => if_pos (by omega)
  have hD : ∀ v least : Int, (n < v ∧ 0 ≤ least ∧ least ≤ v) → nx1 n v least = least := fun v least h => if_neg (by omega)
  have hH := Lib.hid (And.intro hsplit (And.intro hA (And.intro hB (And.intro hC hD))))
  clear hsplit hA hB hC hD
  have hF := Lib.hid hfold
  clear hfold
  go_enter Try.func39, Try.ntmps39
  go_wp2_with fail
  go_loopw [7, 8] (fun m i wr => ∃ (k : Nat) (least : Int), k ≤ a.length + b.length ∧ i = .int .i64 k ∧ m = .int .i64 least ∧ least = ((a ++ b).take k).foldl (nxS n) (-1) ∧ Below w.heap.size w wr)
    (fun _ i _ => a.length + b.length - (intOf i).toNat)
  case atStart => exact ⟨0, -1, by omega, rfl, rfl, rfl, Below.refl _ _⟩
  case round =>
    obtain ⟨k, least, hk, rfl, rfl, hv, hb⟩ := hrel
    by_cases hkl : k < a.length + b.length
    · have hnext := hF.out k (by omega)
      rw [← hv] at hnext
      clear hv
      by_cases hka : k < a.length
      · obtain ⟨ad, rfl, hab, hc0, hc1⟩ := hca k hka
        have hr0 := (hb.cell (p := ad.add (k * 2)) (by rw [blk_add]; exact hab)).trans hc0
        have hr1 := (hb.cell (p := ad.add (k * 2 + 1)) (by rw [blk_add]; exact hab)).trans hc1
        have hal : Below wr.heap.size wr (wr.alloc (.cells #[.int .i64 0, .int .i64 0] 42)) := (Below.refl _ _).alloc (Nat.le_refl _) _
        replace hr0 := (hal.cell (p := ad.add (k * 2)) (by rw [blk_add]; have := hb.size; omega)).trans hr0
        replace hr1 := (hal.cell (p := ad.add (k * 2 + 1)) (by rw [blk_add]; have := hb.size; omega)).trans hr1
        clear hal
        rw [add_succ] at hr1
        rw [List.getElem_append_left hka] at hnext
        generalize a[k] = s at hr0 hr1 hnext
        have hb2 : Below w.heap.size w (wr.alloc (.cells #[.int .i64 s.1, .int .i64 s.2] 42)) := hb.alloc hb.size _
        clear hca hcb hc0 hc1
        rcases hH.out.1 s.1 least with c | ⟨c, d⟩ | ⟨c, d, e⟩ | ⟨c, d, e⟩
        · have e1 := hH.out.2.1 s.1 least c
          rcases hH.out.1 s.2 least with c2 | ⟨c2, d2⟩ | ⟨c2, d2, e2⟩ | ⟨c2, d2, e2⟩
          · have e2 := hH.out.2.1 s.2 least c2
            have e3 : nxS n least s = least := by unfold nxS; rw [e1, e2]
            rw [e3] at hnext
            clear e1 e2 e3
            go_wp2_with fail
            go_roundw
            case rel => exact ⟨k + 1, least, by omega, by go_num, rfl, hnext.symm, hb2⟩
            case measure => simp [intOf]; omega
          · have e2 := hH.out.2.2.1 s.2 least ⟨c2, d2⟩
            have e3 : nxS n least s = s.2 := by unfold nxS; rw [e1, e2]
            rw [e3] at hnext
            clear e1 e2 e3
            go_wp2_with fail
            go_roundw
            case rel => exact ⟨k + 1, s.2, by omega, by go_num, rfl, hnext.symm, hb2⟩
            case measure => simp [intOf]; omega
          · have e2 := hH.out.2.2.2.1 s.2 least ⟨c2, d2, e2⟩
            have e3 : nxS n least s = s.2 := by unfold nxS; rw [e1, e2]
            rw [e3] at hnext
            clear e1 e2 e3
            go_wp2_with fail
            go_roundw
            case rel => exact ⟨k + 1, s.2, by omega, by go_num, rfl, hnext.symm, hb2⟩
            case measure => simp [intOf]; omega
          · have e2 := hH.out.2.2.2.2 s.2 least ⟨c2, d2, e2⟩
            have e3 : nxS n least s = least := by unfold nxS; rw [e1, e2]
            rw [e3] at hnext
            clear e1 e2 e3
            go_wp2_with fail
            go_roundw
            case rel => exact ⟨k + 1, least, by omega, by go_num, rfl, hnext.symm, hb2⟩
            case measure => simp [intOf]; omega
        · have e1 := hH.out.2.2.1 s.1 least ⟨c, d⟩
          rcases hH.out.1 s.2 s.1 with c2 | ⟨c2, d2⟩ | ⟨c2, d2, e2⟩ | ⟨c2, d2, e2⟩
          · have e2 := hH.out.2.1 s.2 s.1 c2
            have e3 : nxS n least s = s.1 := by unfold nxS; rw [e1, e2]
            rw [e3] at hnext
            clear e1 e2 e3
            go_wp2_with fail
            go_roundw
            case rel => exact ⟨k + 1, s.1, by omega, by go_num, rfl, hnext.symm, hb2⟩
            case measure => simp [intOf]; omega
          · have e2 := hH.out.2.2.1 s.2 s.1 ⟨c2, d2⟩
            have e3 : nxS n least s = s.2 := by unfold nxS; rw [e1, e2]
            rw [e3] at hnext
            clear e1 e2 e3
            go_wp2_with fail
            go_roundw
            case rel => exact ⟨k + 1, s.2, by omega, by go_num, rfl, hnext.symm, hb2⟩
            case measure => simp [intOf]; omega
          · have e2 := hH.out.2.2.2.1 s.2 s.1 ⟨c2, d2, e2⟩
            have e3 : nxS n least s = s.2 := by unfold nxS; rw [e1, e2]
            rw [e3] at hnext
            clear e1 e2 e3
            go_wp2_with fail
            go_roundw
            case rel => exact ⟨k + 1, s.2, by omega, by go_num, rfl, hnext.symm, hb2⟩
            case measure => simp [intOf]; omega
          · have e2 := hH.out.2.2.2.2 s.2 s.1 ⟨c2, d2, e2⟩
            have e3 : nxS n least s = s.1 := by unfold nxS; rw [e1, e2]
            rw [e3] at hnext
            clear e1 e2 e3
            go_wp2_with fail
            go_roundw
            case rel => exact ⟨k + 1, s.1, by omega, by go_num, rfl, hnext.symm, hb2⟩
            case measure => simp [intOf]; omega
        · have e1 := hH.out.2.2.2.1 s.1 least ⟨c, d, e⟩
          rcases hH.out.1 s.2 s.1 with c2 | ⟨c2, d2⟩ | ⟨c2, d2, e2⟩ | ⟨c2, d2, e2⟩
          · have e2 := hH.out.2.1 s.2 s.1 c2
            have e3 : nxS n least s = s.1 := by unfold nxS; rw [e1, e2]
            rw [e3] at hnext
            clear e1 e2 e3
            go_wp2_with fail
            go_roundw
            case rel => exact ⟨k + 1, s.1, by omega, by go_num, rfl, hnext.symm, hb2⟩
            case measure => simp [intOf]; omega
          · have e2 := hH.out.2.2.1 s.2 s.1 ⟨c2, d2⟩
            have e3 : nxS n least s = s.2 := by unfold nxS; rw [e1, e2]
            rw [e3] at hnext
            clear e1 e2 e3
            go_wp2_with fail
            go_roundw
            case rel => exact ⟨k + 1, s.2, by omega, by go_num, rfl, hnext.symm, hb2⟩
            case measure => simp [intOf]; omega
          · have e2 := hH.out.2.2.2.1 s.2 s.1 ⟨c2, d2, e2⟩
            have e3 : nxS n least s = s.2 := by unfold nxS; rw [e1, e2]
            rw [e3] at hnext
            clear e1 e2 e3
            go_wp2_with fail
            go_roundw
            case rel => exact ⟨k + 1, s.2, by omega, by go_num, rfl, hnext.symm, hb2⟩
            case measure => simp [intOf]; omega
          · have e2 := hH.out.2.2.2.2 s.2 s.1 ⟨c2, d2, e2⟩
            have e3 : nxS n least s = s.1 := by unfold nxS; rw [e1, e2]
            rw [e3] at hnext
            clear e1 e2 e3
            go_wp2_with fail
            go_roundw
            case rel => exact ⟨k + 1, s.1, by omega, by go_num, rfl, hnext.symm, hb2⟩
            case measure => simp [intOf]; omega
        · have e1 := hH.out.2.2.2.2 s.1 least ⟨c, d, e⟩
          rcases hH.out.1 s.2 least with c2 | ⟨c2, d2⟩ | ⟨c2, d2, e2⟩ | ⟨c2, d2, e2⟩
          · have e2 := hH.out.2.1 s.2 least c2
            have e3 : nxS n least s = least := by unfold nxS; rw [e1, e2]
            rw [e3] at hnext
            clear e1 e2 e3
            go_wp2_with fail
            go_roundw
            case rel => exact ⟨k + 1, least, by omega, by go_num, rfl, hnext.symm, hb2⟩
            case measure => simp [intOf]; omega
          · have e2 := hH.out.2.2.1 s.2 least ⟨c2, d2⟩
            have e3 : nxS n least s = s.2 := by unfold nxS; rw [e1, e2]
            rw [e3] at hnext
            clear e1 e2 e3
            go_wp2_with fail
          · have e2 := hH.out.2.2.2.1 s.2 least ⟨c2, d2, e2⟩
            have e3 : nxS n least s = s.2 := by unfold nxS; rw [e1, e2]
            rw [e3] at hnext
            clear e1 e2 e3
            go_wp2_with fail
            go_roundw
            case rel => exact ⟨k + 1, s.2, by omega, by go_num, rfl, hnext.symm, hb2⟩
            case measure => simp [intOf]; omega
          · have e2 := hH.out.2.2.2.2 s.2 least ⟨c2, d2, e2⟩
            have e3 : nxS n least s = least := by unfold nxS; rw [e1, e2]
            rw [e3] at hnext
            clear e1 e2 e3
            go_wp2_with fail
            go_roundw
            case rel => exact ⟨k + 1, least, by omega, by go_num, rfl, hnext.symm, hb2⟩
            case measure => simp [intOf]; omega
      · obtain ⟨j, rfl⟩ : ∃ j, k = a.length + j := ⟨k - a.length, by omega⟩
        obtain ⟨ad, rfl, hab, hc0, hc1⟩ := hcb j (by omega)
        have hr0 := (hb.cell (p := ad.add (j * 2)) (by rw [blk_add]; exact hab)).trans hc0
        have hr1 := (hb.cell (p := ad.add (j * 2 + 1)) (by rw [blk_add]; exact hab)).trans hc1
        have hal : Below wr.heap.size wr (wr.alloc (.cells #[.int .i64 0, .int .i64 0] 42)) := (Below.refl _ _).alloc (Nat.le_refl _) _
        replace hr0 := (hal.cell (p := ad.add (j * 2)) (by rw [blk_add]; have := hb.size; omega)).trans hr0
        replace hr1 := (hal.cell (p := ad.add (j * 2 + 1)) (by rw [blk_add]; have := hb.size; omega)).trans hr1
        clear hal
        rw [add_succ] at hr1
        rw [List.getElem_append_right (by omega)] at hnext
        simp only [Nat.add_sub_cancel_left] at hnext
        generalize b[j] = s at hr0 hr1 hnext
        have hb2 : Below w.heap.size w (wr.alloc (.cells #[.int .i64 s.1, .int .i64 s.2] 42)) := hb.alloc hb.size _
        have hj : j < b.length := by omega
        clear hca hcb hc0 hc1
        rcases hH.out.1 s.1 least with c | ⟨c, d⟩ | ⟨c, d, e⟩ | ⟨c, d, e⟩
        · have e1 := hH.out.2.1 s.1 least c
          rcases hH.out.1 s.2 least with c2 | ⟨c2, d2⟩ | ⟨c2, d2, e2⟩ | ⟨c2, d2, e2⟩
          · have e2 := hH.out.2.1 s.2 least c2
            have e3 : nxS n least s = least := by unfold nxS; rw [e1, e2]
            rw [e3] at hnext
            clear e1 e2 e3
            go_wp2_with fail
            go_roundw
            case rel => exact ⟨a.length + j + 1, least, by omega, by go_num, rfl, hnext.symm, hb2⟩
            case measure => simp [intOf]; omega
          · have e2 := hH.out.2.2.1 s.2 least ⟨c2, d2⟩
            have e3 : nxS n least s = s.2 := by unfold nxS; rw [e1, e2]
            rw [e3] at hnext
            clear e1 e2 e3
            go_wp2_with fail
            go_roundw
            case rel => exact ⟨a.length + j + 1, s.2, by omega, by go_num, rfl, hnext.symm, hb2⟩
            case measure => simp [intOf]; omega
          · have e2 := hH.out.2.2.2.1 s.2 least ⟨c2, d2, e2⟩
            have e3 : nxS n least s = s.2 := by unfold nxS; rw [e1, e2]
            rw [e3] at hnext
            clear e1 e2 e3
            go_wp2_with fail
            go_roundw
            case rel => exact ⟨a.length + j + 1, s.2, by omega, by go_num, rfl, hnext.symm, hb2⟩
            case measure => simp [intOf]; omega
          · have e2 := hH.out.2.2.2.2 s.2 least ⟨c2, d2, e2⟩
            have e3 : nxS n least s = least := by unfold nxS; rw [e1, e2]
            rw [e3] at hnext
            clear e1 e2 e3
            go_wp2_with fail
            go_roundw
            case rel => exact ⟨a.length + j + 1, least, by omega, by go_num, rfl, hnext.symm, hb2⟩
            case measure => simp [intOf]; omega
        · have e1 := hH.out.2.2.1 s.1 least ⟨c, d⟩
          rcases hH.out.1 s.2 s.1 with c2 | ⟨c2, d2⟩ | ⟨c2, d2, e2⟩ | ⟨c2, d2, e2⟩
          · have e2 := hH.out.2.1 s.2 s.1 c2
            have e3 : nxS n least s = s.1 := by unfold nxS; rw [e1, e2]
            rw [e3] at hnext
            clear e1 e2 e3
            go_wp2_with fail
            go_roundw
            case rel => exact ⟨a.length + j + 1, s.1, by omega, by go_num, rfl, hnext.symm, hb2⟩
            case measure => simp [intOf]; omega
          · have e2 := hH.out.2.2.1 s.2 s.1 ⟨c2, d2⟩
            have e3 : nxS n least s = s.2 := by unfold nxS; rw [e1, e2]
            rw [e3] at hnext
            clear e1 e2 e3
            go_wp2_with fail
            go_roundw
            case rel => exact ⟨a.length + j + 1, s.2, by omega, by go_num, rfl, hnext.symm, hb2⟩
            case measure => simp [intOf]; omega
          · have e2 := hH.out.2.2.2.1 s.2 s.1 ⟨c2, d2, e2⟩
            have e3 : nxS n least s = s.2 := by unfold nxS; rw [e1, e2]
            rw [e3] at hnext
            clear e1 e2 e3
            go_wp2_with fail
            go_roundw
            case rel => exact ⟨a.length + j + 1, s.2, by omega, by go_num, rfl, hnext.symm, hb2⟩
            case measure => simp [intOf]; omega
          · have e2 := hH.out.2.2.2.2 s.2 s.1 ⟨c2, d2, e2⟩
            have e3 : nxS n least s = s.1 := by unfold nxS; rw [e1, e2]
            rw [e3] at hnext
            clear e1 e2 e3
            go_wp2_with fail
            go_roundw
            case rel => exact ⟨a.length + j + 1, s.1, by omega, by go_num, rfl, hnext.symm, hb2⟩
            case measure => simp [intOf]; omega
        · have e1 := hH.out.2.2.2.1 s.1 least ⟨c, d, e⟩
          rcases hH.out.1 s.2 s.1 with c2 | ⟨c2, d2⟩ | ⟨c2, d2, e2⟩ | ⟨c2, d2, e2⟩
          · have e2 := hH.out.2.1 s.2 s.1 c2
            have e3 : nxS n least s = s.1 := by unfold nxS; rw [e1, e2]
            rw [e3] at hnext
            clear e1 e2 e3
            go_wp2_with fail
            go_roundw
            case rel => exact ⟨a.length + j + 1, s.1, by omega, by go_num, rfl, hnext.symm, hb2⟩
            case measure => simp [intOf]; omega
          · have e2 := hH.out.2.2.1 s.2 s.1 ⟨c2, d2⟩
            have e3 : nxS n least s = s.2 := by unfold nxS; rw [e1, e2]
            rw [e3] at hnext
            clear e1 e2 e3
            go_wp2_with fail
            go_roundw
            case rel => exact ⟨a.length + j + 1, s.2, by omega, by go_num, rfl, hnext.symm, hb2⟩
            case measure => simp [intOf]; omega
          · have e2 := hH.out.2.2.2.1 s.2 s.1 ⟨c2, d2, e2⟩
            have e3 : nxS n least s = s.2 := by unfold nxS; rw [e1, e2]
            rw [e3] at hnext
            clear e1 e2 e3
            go_wp2_with fail
            go_roundw
            case rel => exact ⟨a.length + j + 1, s.2, by omega, by go_num, rfl, hnext.symm, hb2⟩
            case measure => simp [intOf]; omega
          · have e2 := hH.out.2.2.2.2 s.2 s.1 ⟨c2, d2, e2⟩
            have e3 : nxS n least s = s.1 := by unfold nxS; rw [e1, e2]
            rw [e3] at hnext
            clear e1 e2 e3
            go_wp2_with fail
            go_roundw
            case rel => exact ⟨a.length + j + 1, s.1, by omega, by go_num, rfl, hnext.symm, hb2⟩
            case measure => simp [intOf]; omega
        · have e1 := hH.out.2.2.2.2 s.1 least ⟨c, d, e⟩
          rcases hH.out.1 s.2 least with c2 | ⟨c2, d2⟩ | ⟨c2, d2, e2⟩ | ⟨c2, d2, e2⟩
          · have e2 := hH.out.2.1 s.2 least c2
            have e3 : nxS n least s = least := by unfold nxS; rw [e1, e2]
            rw [e3] at hnext
            clear e1 e2 e3
            go_wp2_with fail
            go_roundw
            case rel => exact ⟨a.length + j + 1, least, by omega, by go_num, rfl, hnext.symm, hb2⟩
            case measure => simp [intOf]; omega
          · have e2 := hH.out.2.2.1 s.2 least ⟨c2, d2⟩
            have e3 : nxS n least s = s.2 := by unfold nxS; rw [e1, e2]
            rw [e3] at hnext
            clear e1 e2 e3
            go_wp2_with fail
          · have e2 := hH.out.2.2.2.1 s.2 least ⟨c2, d2, e2⟩
            have e3 : nxS n least s = s.2 := by unfold nxS; rw [e1, e2]
            rw [e3] at hnext
            clear e1 e2 e3
            go_wp2_with fail
            go_roundw
            case rel => exact ⟨a.length + j + 1, s.2, by omega, by go_num, rfl, hnext.symm, hb2⟩
            case measure => simp [intOf]; omega
          · have e2 := hH.out.2.2.2.2 s.2 least ⟨c2, d2, e2⟩
            have e3 : nxS n least s = least := by unfold nxS; rw [e1, e2]
            rw [e3] at hnext
            clear e1 e2 e3
            go_wp2_with fail
            go_roundw
            case rel => exact ⟨a.length + j + 1, least, by omega, by go_num, rfl, hnext.symm, hb2⟩
            case measure => simp [intOf]; omega
    · have hk2 : k = a.length + b.length := by omega
      subst hk2
      rw [← hlen, List.take_length] at hv
      go_wp2_with fail
      go_ret
      exact Ret.mk (by rw [hv]; rfl) hb
end Go.Proofs.Ytfhhkbijcleedaa
