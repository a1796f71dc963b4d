/-
  The printer's small functions: sayable, percentage, join.
-/
import Derived.Test.YtlkefcbkpohpgaaDoorPrnExpr
import Derived.Test.YtlkefcbkpohpgaaDoorRatioC
namespace Go.Proofs.YtlkefcbkpohpgaaDoor
open Go.RowKit Go.Shelf
set_option maxRecDepth 100000

theorem all_take {xs : List Int} {k : Nat} (hk : k < xs.length) (h : (xs.take k).all nineB = true) (h2 : nineB xs[k] = true) : (xs.take (k + 1)).all nineB = true := by
  rw [List.take_succ_eq_append_getElem hk, List.all_append, h, List.all_cons, h2]; rfl
theorem all_no {xs : List Int} {k : Nat} (hk : k < xs.length) (h2 : nineB xs[k] = false) : xs.all nineB = false := by
  rw [List.all_eq_false]
  exact ⟨_, List.getElem_mem hk, by rw [h2]; simp⟩
set_option maxHeartbeats 1000000 in
theorem say_any (xs : List Int) (C cap : Nat) (w : World) (h : Own w C (xs.map (Value.int .i64 ·))) (hl : xs.length ≤ 100) : Calls Tryd.prog 28 #[.slice (some ⟨C, 0, none⟩) xs.length cap] w (Same (.bool (xs.all nineB)) w) := by
  go_enter Tryd.func28, Tryd.ntmps28
  go_wp2_with fail
  go_loopw [4, 7] (fun _ i wr => ∃ k : Nat, i = .int .i64 k ∧ k ≤ xs.length ∧ (xs.take k).all nineB = true ∧ wr = w) (fun _ i _ => xs.length - (intOf i).toNat)
  case atStart => exact ⟨0, rfl, Nat.zero_le _, rfl, rfl⟩
  case round =>
    obtain ⟨k, rfl, hk, hall, rfl⟩ := hrel
    by_cases hks : k < xs.length
    · have hc := h.cell k (.int .i64 xs[k]) (by simp [hks])
      have hwk : IntKind.i64.wrap ((k : Int) + 1) = (k : Int) + 1 := IntWalk.i64_in _ (by omega)
      by_cases hb : nineB xs[k] = true
      · have h3 := all_take hks hall hb
        have hb2 : 0 ≤ xs[k] ∧ xs[k] ≤ 999999999 := by simpa [nineB] using hb
        generalize xs[k] = x at hc hb2
        have t1 : decide (x < 0) = false := decide_eq_false (by omega)
        have t2 : decide (999999999 < x) = false := decide_eq_false (by omega)
        have H3 := Lib.hid h3
        clear h3 hall hb hb2
        go_wp2_with fail
        go_roundw
        case rel => exact ⟨k + 1, by go_num, by omega, H3.out, trivial⟩
        case measure => simp [intOf]; omega
      · have h3 := all_no hks (by simpa using hb)
        have hb2 : ¬ (0 ≤ xs[k] ∧ xs[k] ≤ 999999999) := by simpa [nineB] using hb
        rw [h3]
        generalize xs[k] = x at hc hb2
        by_cases h4 : x < 0
        · have t1 : decide (x < 0) = true := decide_eq_true h4
          clear hall hb hb2 h3
          go_wp2_with fail
          go_ret
          exact ⟨rfl, rfl⟩
        · have t1 : decide (x < 0) = false := decide_eq_false h4
          have t2 : decide (999999999 < x) = true := decide_eq_true (by omega)
          clear hall hb hb2 h3
          go_wp2_with fail
          go_ret
          exact ⟨rfl, rfl⟩
    · have hke : k = xs.length := by omega
      subst hke
      rw [List.take_length] at hall
      have HA := Lib.hid hall
      clear hall
      go_wp2_with fail
      go_ret
      exact ⟨by rw [HA.out]; rfl, rfl⟩
/-- parts behind what there is, with a blank between each two -/
def joinW : List UInt8 → List (List UInt8) → List UInt8
  | l, [] => l
  | l, p :: r => joinW ((if l.isEmpty = true then l else l ++ [32]) ++ p) r
theorem joinW_len : ∀ (ss : List (List UInt8)) (l : List UInt8), l.length ≤ (joinW l ss).length
  | [], l => Nat.le_refl _
  | p :: r, l => by
    have := joinW_len r ((if l.isEmpty = true then l else l ++ [32]) ++ p)
    unfold joinW
    split at this <;> simp_all <;> omega
set_option maxHeartbeats 1000000 in
theorem join9_any (B b : Nat) (ss : List (List UInt8)) (C cap : Nat) (l : List UInt8) (w : World) (hw : Wld B b l w) (hBw : B ≤ w.heap.size) (hC : w.heap[C]? = some (.cells (ss.map fun s => Value.string ⟨s.toArray⟩).toArray 9 (0, 0))) (hCb : C ≠ b) (hs : ss.length ≤ 100)
    (hl : (joinW l ss).length ≤ 1000000) : Calls Tryd.prog 30 #[.pointer (some ⟨b, 0, none⟩), .slice (some ⟨C, 0, none⟩) ss.length cap] w (WEnd B b (joinW l ss) (.tuple #[]) w) := by
  go_enter Tryd.func30, Tryd.ntmps30
  go_wp2_with fail
  go_loopw [5, 8] (fun _ i wr => ∃ (k : Nat) (acc : List UInt8), i = .int .i64 k ∧ k ≤ ss.length ∧ joinW acc (ss.drop k) = joinW l ss ∧ Wld B b acc wr ∧ Below B w wr ∧ Lib.OthersKept 5 (some b) w wr) (fun _ i _ => ss.length - (intOf i).toNat)
  case atStart => exact ⟨0, l, rfl, Nat.zero_le _, rfl, hw, Below.refl _ _, Lib.OthersKept.refl _ _ _⟩
  case round =>
    obtain ⟨k, acc, rfl, hk, hj, hwr, hbr, hor⟩ := hrel
    by_cases hks : k < ss.length
    · have hC2 := hor C _ hC (by simpa using hCb) (fun c f e => by cases e)
      have hc : wr.cell? ⟨C, k, none⟩ = some (.string ⟨(ss[k]).toArray⟩) := by rw [Lib.cell_of_heap hC2]; simp [hks]
      have hwk : IntKind.i64.wrap ((k : Int) + 1) = (k : Int) + 1 := IntWalk.i64_in _ (by omega)
      rw [List.drop_eq_getElem_cons hks] at hj
      have hlen := joinW_len (ss.drop (k + 1)) ((if acc.isEmpty = true then acc else acc ++ [32]) ++ ss[k])
      have hj2 : joinW ((if acc.isEmpty = true then acc else acc ++ [32]) ++ ss[k]) (ss.drop (k + 1)) = joinW l ss := hj
      rw [hj2] at hlen
      generalize ss[k] = p at hc hj2 hlen
      clear hj hC2
      have hbz := hbr.size
      cases acc with
      | nil =>
        have e0 : (if (([] : List UInt8)).isEmpty = true then ([] : List UInt8) else [] ++ [32]) ++ p = p := rfl
        rw [e0] at hj2 hlen
        have hwrite := wwrite_any B b [] p wr hwr (by simp) (by omega) (by omega)
        have HJ := Lib.hid hj2
        clear hj2 e0
        go_wp2_with fail
        refine (wlen_any B b [] wr hwr).mono ?_
        rintro e w1 ⟨rfl, rfl⟩
        go_wp2_with fail
        refine hwrite.mono ?_
        rintro e w2 ⟨rfl, h2, hb2, ho2⟩
        go_wp2_with fail
        go_roundw
        case rel => exact ⟨k + 1, p, by go_num, by omega, HJ.out, h2, hbr.trans hb2, hor.trans ho2⟩
        case measure => simp [intOf]; omega
      | cons c0 r0 =>
        have e0 : (if (c0 :: r0).isEmpty = true then (c0 :: r0) else (c0 :: r0) ++ [32]) ++ p = (c0 :: r0) ++ [32] ++ p := rfl
        rw [e0] at hj2 hlen
        have hgt : decide ((0 : Int) < ((c0 :: r0).length : Int)) = true := by simp
        have hln : (c0 :: r0).length ≠ 0 := by simp
        generalize c0 :: r0 = acc at *
        simp only [List.length_append, List.length_cons, List.length_nil] at hlen
        have HJ := Lib.hid hj2
        clear hj2 e0
        go_wp2_with fail
        refine (wlen_any B b acc wr hwr).mono ?_
        rintro e w1 ⟨rfl, rfl⟩
        go_wp2_with fail
        refine (wbyte_any B b acc 32 wr hwr (by omega) (by omega)).mono ?_
        rintro e w2 ⟨rfl, h2, hb2, ho2⟩
        have hc2 : w2.cell? ⟨C, k, none⟩ = wr.cell? ⟨C, k, none⟩ := World.cell?_of_block (w := wr) (by
          have h5 := hor C _ hC (by simpa using hCb) (fun c f e => by cases e)
          rw [ho2 C _ h5 (by simpa using hCb) (fun c f e => by cases e), h5])
        have hz2 := hb2.size
        clear hc hc2
        go_wp2_with fail
        refine (wwrite_any B b (acc ++ [32]) p w2 h2 (by simp; omega) (by omega) (by omega)).mono ?_
        rintro e w3 ⟨rfl, h3, hb3, ho3⟩
        go_wp2_with fail
        go_roundw
        case rel => exact ⟨k + 1, acc ++ [32] ++ p, by go_num, by omega, HJ.out, h3, (hbr.trans hb2).trans hb3, (hor.trans ho2).trans ho3⟩
        case measure => simp [intOf]; omega
    · have hke : k = ss.length := by omega
      subst hke
      rw [List.drop_length] at hj
      have HJ := Lib.hid hj
      clear hj
      go_wp2_with fail
      go_end0
      exact ⟨rfl, by rw [← HJ.out]; exact hwr, hbr, hor⟩
set_option maxHeartbeats 1000000 in
theorem pct_any (kn kd : Int) (w : World) : Calls Tryd.prog 27 #[.agg #[.int .i64 kn, .int .i64 kd]] w (Ret (.tuple #[.int .i64 (pctF kn kd).1, .bool (pctF kn kd).2]) w) := by
  have hm := fun w1 => mul_any kn kd 100 1 w1
  unfold resV ratV at hm
  unfold pctF
  generalize mulF kn kd 100 1 = m at hm ⊢
  obtain ⟨x, y, z⟩ := m
  simp only at hm ⊢
  have hsz : ∀ (a o : Obj) (w1 : World), Below w.heap.size (w.alloc a) w1 → Below w.heap.size w (w1.alloc o) := fun a o w1 h => (((Below.refl _ w).alloc (Nat.le_refl _) _).trans h).alloc (by have := h.size; simp at this; omega) _
  by_cases hz : z = 0
  · subst hz
    have e1 : (decide ((0 : Int) = 0) && decide (y = 1)) = (y == 1) := by simp; rfl
    rw [e1]
    go_enter Tryd.func27, Tryd.ntmps27
    go_wp2_with fail
    refine (hm _).mono ?_
    rintro e w2 ⟨rfl, hx⟩
    go_wp2_with fail
    go_region
    all_goals
      go_wp2_with fail
      go_ret2
      exact Ret.mk rfl (hsz _ _ _ (hx.mono (by simp))).drew
  · have e1 : (decide (z = 0) && decide (y = 1)) = false := by simp [hz]
    rw [e1]
    have t1 : (z == 0) = false := by simpa using hz
    go_enter Tryd.func27, Tryd.ntmps27
    go_wp2_with fail
    refine (hm _).mono ?_
    rintro e w2 ⟨rfl, hx⟩
    go_wp2_with fail
    go_region
    all_goals
      go_wp2_with fail
      go_ret2
      exact Ret.mk rfl (hsz _ _ _ (hx.mono (by simp))).drew
end Go.Proofs.YtlkefcbkpohpgaaDoor
