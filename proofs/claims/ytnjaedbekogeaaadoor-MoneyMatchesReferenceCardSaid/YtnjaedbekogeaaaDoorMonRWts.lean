/-
  The walks of the reference's SameInts, Weights and Share.
-/
import Derived.Test.YtnjaedbekogeaaaDoorMonShare2
namespace Go.Proofs.YtnjaedbekogeaaaDoor
open Go.RowKit Go.Shelf
set_option maxRecDepth 100000

set_option maxRecDepth 100000 in
theorem msame_any (v u : Value) (a b : List Int) (w : World) (h : Ints w v a) (k : Ints w u b) : Calls Tryd.prog 16 #[v, u] w (Ret (.bool (decide (a = b))) w) := by
  have hla := h.1.short
  have hlb := k.1.short
  obtain ⟨ad, cap, hv⟩ := h.1.shape
  have hca := h.1.cells _ _ _ hv
  rw [List.length_map] at hv
  subst hv
  obtain ⟨ad2, cap2, hu⟩ := k.1.shape
  have hcb := k.1.cells _ _ _ hu
  rw [List.length_map] at hu
  subst hu
  simp only [List.length_map] at hca hcb hla hlb
  by_cases hl : a.length = b.length
  · have q0 : ((a.length : Int) == b.length) = true := by simp; omega
    go_enter Tryd.func16, Tryd.ntmps16
    go_wp2_with fail
    go_loopw [5] (fun i wr => ∃ n : Nat, n ≤ a.length ∧ i = .int .i64 (n : Int) ∧ Below w.heap.size w wr ∧ a.take n = b.take n) (fun i _ => a.length - (intOf i).toNat)
    case atStart => exact ⟨0, by omega, rfl, Below.refl _ _, rfl⟩
    case round =>
      obtain ⟨n, hn, rfl, hb, heq⟩ := hrel
      have hbs := hb.size
      by_cases hna : n < a.length
      · have hnb : n < b.length := by omega
        obtain ⟨p, rfl, hp0, hc⟩ := hca n hna
        obtain ⟨p2, rfl, hp2, hc2⟩ := hcb n hnb
        rw [List.getElem_map] at hc hc2
        have u1 : ∀ g : Grow wr, (up wr g).cell? (p.add n) = some (.int .i64 a[n]) := fun g => ((hb.trans ((up_below wr g).mono hbs)).cell (p := p.add n) (by rw [blk_add]; exact hp0)).trans hc
        have u2 : ∀ g : Grow wr, (up wr g).cell? (p2.add n) = some (.int .i64 b[n]) := fun g => ((hb.trans ((up_below wr g).mono hbs)).cell (p := p2.add n) (by rw [blk_add]; exact hp2)).trans hc2
        clear hc hc2
        have q1 : decide ((n : Int) < a.length) = true := by simp; omega
        by_cases hx : a[n] = b[n]
        · have q2 : ((a[n] : Int) == b[n]) = true := by simp [hx]
          have hnext : a.take (n + 1) = b.take (n + 1) := by rw [List.take_succ_eq_append_getElem hna, List.take_succ_eq_append_getElem hnb, heq, hx]
          generalize a[n] = x at *
          generalize b[n] = y at *
          clear hx
          go_wp2_with fail
          refine wp_region_up (by kernel_rfl) (by kernel_rfl) ?_
          repeat (go_big_quiet_step (fail))
          refine wpQuiet_nil ?_
          rintro w2 ⟨g, rfl⟩
          have hx2 := up_below wr g
          go_wp2_with fail
          go_roundw
          case rel => exact ⟨n + 1, by omega, by go_num, hb.trans (hx2.mono hbs), hnext⟩
          case measure => simp [intOf]; omega
        · have q2 : ((a[n] : Int) == b[n]) = false := by simp [hx]
          have hne : decide (a = b) = false := by
            rw [decide_eq_false_iff_not]
            intro e
            subst e
            exact hx rfl
          replace hne := Lib.hid hne
          generalize a[n] = x at *
          generalize b[n] = y at *
          clear hx
          go_wp2_with fail
          refine wp_region_up (by kernel_rfl) (by kernel_rfl) ?_
          repeat (go_big_quiet_step (fail))
          refine wpQuiet_nil ?_
          rintro w2 ⟨g, rfl⟩
          have hx2 := up_below wr g
          go_wp2_with fail
          go_ret
          rw [hne.out]
          exact Ret.mk rfl (hb.trans (hx2.mono hbs))
      · have q1 : decide ((n : Int) < a.length) = false := by simp; omega
        have he : decide (a = b) = true := by
          rw [decide_eq_true_iff]
          rw [List.take_of_length_le (by omega), List.take_of_length_le (by omega)] at heq
          exact heq
        replace he := Lib.hid he
        go_wp2_with fail
        go_ret
        rw [he.out]
        exact Ret.mk rfl hb
  · have q0 : ((a.length : Int) == b.length) = false := by simp; omega
    have hne : decide (a = b) = false := by
      rw [decide_eq_false_iff_not]
      rintro rfl
      exact hl rfl
    rw [hne]
    go_enter Tryd.func16, Tryd.ntmps16
    go_wp2_with fail
    go_ret
    exact Ret.mk rfl (Below.refl _ _)
set_option maxHeartbeats 1000000 in
theorem rweights_any (v : Value) (l : List Int) (w : World) (h : Ints w v l) : Calls Tryd.prog 23 #[v] w (Same (.bool (wts l)) w) := by
  obtain ⟨ad, cap, rfl, hlen, hc⟩ := h.at
  go_enter Tryd.func23, Tryd.ntmps23
  go_wp2_with fail
  go_loopw [3, 4] (fun s i wr => ∃ k : Nat, k ≤ l.length ∧ k ≤ 1000 ∧ i = .int .i64 k ∧ s = .int .i64 (l.take k).sum ∧ (l.take k).all wOk = true ∧ wr = w)
    (fun _ i _ => l.length - (intOf i).toNat)
  case atStart => exact ⟨0, by omega, by omega, rfl, rfl, rfl, rfl⟩
  case round =>
    obtain ⟨k, hk, hk2, rfl, rfl, ha, rfl⟩ := hrel
    obtain ⟨s0, s1⟩ := sum_bd _ ha
    have hkk : (l.take k).length ≤ 1000 := by rw [List.length_take]; omega
    by_cases hkl : k < l.length
    · obtain ⟨a, rfl, hr⟩ := hc k hkl
      replace hr := hr wr _ (Below.refl _ _) (Nat.le_refl _)
      have q0 : decide ((k : Int) < l.length) = true := by rw [decide_eq_true_iff]; omega
      have hsum := sum_take l k hkl
      have hall : (l.take (k + 1)).all wOk = ((l.take k).all wOk && wOk l[k]) := by rw [List.take_succ_eq_append_getElem hkl, List.all_append, List.all_cons, List.all_nil, Bool.and_true]
      have hbad := fun hx => all_bad (k := k) hkl hx
      rw [ha] at hall
      generalize hS : (l.take k).sum = S at *
      generalize l[k] = x at *
      clear hS hc ha
      by_cases h1 : x < 0
      · have HF : Hid (wts l = false) := Lib.hid (by simp [wts, hbad (by simp [wOk]; omega)])
        clear hbad
        go_wp2_with fail
        go_ret
        exact Same.mk (by rw [HF.out]; rfl) rfl
      have h1' : decide (x < 0) = false := by rw [decide_eq_false_iff_not]; omega
      by_cases h2 : 1000000 < x
      · have HF : Hid (wts l = false) := Lib.hid (by simp [wts, hbad (by simp [wOk]; omega)])
        clear hbad
        go_wp2_with fail
        go_ret
        exact Same.mk (by rw [HF.out]; rfl) rfl
      have h2' : decide (1000000 < x) = false := by rw [decide_eq_false_iff_not]; omega
      by_cases h3 : k = 1000
      · have q3 : decide ((k : Int) ≥ 1000) = true := by rw [decide_eq_true_iff]; omega
        have HF : Hid (wts l = false) := Lib.hid (by simp [wts]; omega)
        clear hbad h3
        go_wp2_with fail
        go_ret
        exact Same.mk (by rw [HF.out]; rfl) rfl
      have q3 : decide ((k : Int) ≥ 1000) = false := by rw [decide_eq_false_iff_not]; omega
      have hok : wOk x = true := (wOk_iff x).2 ⟨by omega, by omega⟩
      rw [hok] at hall
      replace hsum := Lib.hid hsum
      replace hall := Lib.hid hall
      clear hbad
      go_wp2_with fail
      go_roundw
      case rel => exact ⟨k + 1, by omega, by omega, by go_num, by rw [hsum.out], hall.out, (by first | rfl | trivial)⟩
      case measure => simp [intOf]; omega
    · have e1 : k = l.length := by omega
      subst e1
      rw [List.take_length] at *
      have q0 : decide ((l.length : Int) < l.length) = false := by simp
      have hd : decide (l.length ≤ 1000) = true := by rw [decide_eq_true_iff]; omega
      have HF : Hid (wts l = decide (0 < l.sum)) := Lib.hid (by simp only [wts, ha, hd, Bool.true_and])
      generalize l.sum = S at *
      go_wp2_with fail
      go_ret
      exact Same.mk (by rw [HF.out]; rfl) rfl
theorem rweights_at {b : Bool} (v : Value) (l : List Int) (w : World) (h : Ints w v l) (hw : wts l = b) : Calls Tryd.prog 23 #[v] w (Same (.bool b) w) := by subst hw; exact rweights_any v l w h
end Go.Proofs.YtnjaedbekogeaaaDoor
