/-
  The walks of sum and of the reference's Weights and SameInts.
-/
import Derived.Test.YtnjaedbekogeaaaDoorMonA
import Derived.Test.YtnjaedbekogeaaaDoorDigArg
namespace Go.Proofs.YtnjaedbekogeaaaDoor
open Go.RowKit Go.Shelf
set_option maxRecDepth 100000

theorem Ints.below {w w1 : World} {v : Value} {l : List Int} (h : Ints w v l) (hb : Below w.heap.size w w1) : Ints w1 v l := ⟨h.1.below hb, h.2⟩
theorem all_take (l : List Int) (k : Nat) (h : l.all wOk = true) : (l.take k).all wOk = true := by
  rw [List.all_eq_true] at *
  exact fun x hx => h x (List.mem_of_mem_take hx)
theorem wOk_iff (x : Int) : wOk x = true ↔ 0 ≤ x ∧ x ≤ 1000000 := by simp [wOk]
theorem all_bad {l : List Int} {k : Nat} (h : k < l.length) (hx : wOk l[k] = false) : l.all wOk = false := by
  rw [← Bool.not_eq_true, List.all_eq_true]
  intro h2
  have := h2 _ (List.getElem_mem h)
  rw [hx] at this; cases this
/-- the place k of a slice of integers, in a world that has grown since -/
theorem Ints.at {w : World} {v : Value} {l : List Int} (h : Ints w v l) : ∃ ad cap, v = .slice ad l.length cap ∧ l.length ≤ 9223372036854775807 ∧ ∀ k (hk : k < l.length), ∃ a, ad = some a ∧ ∀ wr B, Below B w wr → w.heap.size ≤ B → wr.cell? (a.add k) = some (.int .i64 l[k]) := by
  obtain ⟨ad, cap, hv⟩ := h.1.shape
  have hc := h.1.cells _ _ _ hv
  have hs := h.1.short
  rw [List.length_map] at hv hs
  refine ⟨ad, cap, hv, hs, fun k hk => ?_⟩
  obtain ⟨a, h0, h1, h2⟩ := hc k (by simpa using hk)
  rw [List.getElem_map] at h2
  exact ⟨a, h0, fun wr B hb hB => (hb.cell (p := a.add k) (by rw [blk_add]; omega)).trans h2⟩

set_option maxHeartbeats 1000000 in
theorem msum_any (v : Value) (l : List Int) (w : World) (h : Ints w v l) : Calls Tryd.prog 31 #[v] w (Same (.tuple #[.int .i64 (sumF l).1, .bool (sumF l).2]) w) := by
  obtain ⟨ad, cap, rfl, hlen, hc⟩ := h.at
  by_cases hm : 1000 < l.length
  · have HF : Hid (sumF l = (0, false)) := Lib.hid (by simp [sumF]; intro; omega)
    go_enter Tryd.func31, Tryd.ntmps31
    go_wp2_with fail
    go_ret2
    exact Same.mk (by rw [HF.out]; rfl) rfl
  go_enter Tryd.func31, Tryd.ntmps31
  go_wp2_with fail
  go_loopw [4, 12] (fun s i wr => ∃ k : Nat, k ≤ l.length ∧ i = .int .i64 k ∧ s = .int .i64 (l.take k).sum ∧ (l.take k).all wOk = true ∧ wr = w)
    (fun _ i _ => l.length - (intOf i).toNat)
  case atStart => exact ⟨0, by omega, rfl, rfl, rfl, rfl⟩
  case round =>
    obtain ⟨k, hk, rfl, rfl, ha, rfl⟩ := hrel
    obtain ⟨s0, s1⟩ := sum_bd _ ha
    have hkk : (l.take k).length ≤ 1000 := by rw [List.length_take]; omega
    by_cases hkl : k < l.length
    · obtain ⟨a, rfl, hr⟩ := hc k hkl
      replace hr := hr wr _ (Below.refl _ _) (Nat.le_refl _)
      have q0 : decide ((k : Int) < l.length) = true := by rw [decide_eq_true_iff]; omega
      have hsum : (l.take (k + 1)).sum = (l.take k).sum + l[k] := by rw [List.take_succ_eq_append_getElem hkl, List.sum_append, List.sum_singleton]
      have hall : (l.take (k + 1)).all wOk = ((l.take k).all wOk && wOk l[k]) := by rw [List.take_succ_eq_append_getElem hkl, List.all_append, List.all_cons, List.all_nil, Bool.and_true]
      have hbad := fun hx => all_bad (k := k) hkl hx
      rw [ha] at hall
      generalize hS : (l.take k).sum = S at *
      generalize l[k] = x at *
      clear hS hc ha
      by_cases h1 : x < 0
      · have HF : Hid (sumF l = (0, false)) := Lib.hid (by simp [sumF, hbad (by simp [wOk]; omega)])
        clear hbad
        go_wp2_with fail
        go_ret2
        exact Same.mk (by rw [HF.out]; rfl) rfl
      have h1' : decide (x < 0) = false := by rw [decide_eq_false_iff_not]; omega
      by_cases h2 : 1000000 < x
      · have HF : Hid (sumF l = (0, false)) := Lib.hid (by simp [sumF, hbad (by simp [wOk]; omega)])
        clear hbad
        go_wp2_with fail
        go_ret2
        exact Same.mk (by rw [HF.out]; rfl) rfl
      have h2' : decide (1000000 < x) = false := by rw [decide_eq_false_iff_not]; omega
      have hok : wOk x = true := (wOk_iff x).2 ⟨by omega, by omega⟩
      rw [hok] at hall
      replace hsum := Lib.hid hsum
      replace hall := Lib.hid hall
      clear hbad
      go_wp2_with fail
      go_roundw
      case rel => exact ⟨k + 1, by omega, by go_num, by rw [hsum.out], hall.out, (by first | rfl | trivial)⟩
      case measure => simp [intOf]; omega
    · have e1 : k = l.length := by omega
      subst e1
      rw [List.take_length] at *
      have q0 : decide ((l.length : Int) < l.length) = false := by simp
      have hd : decide (l.length ≤ 1000) = true := by rw [decide_eq_true_iff]; omega
      have HF : Hid (sumF l = (l.sum, decide (0 < l.sum))) := Lib.hid (by simp only [sumF, ha, hd, Bool.and_self, if_true])
      generalize l.sum = S at *
      go_wp2_with fail
      go_ret2
      exact Same.mk (by rw [HF.out]; rfl) rfl
end Go.Proofs.YtnjaedbekogeaaaDoor
