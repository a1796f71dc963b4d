/-
  The walk of MoneyShares.
-/
import Derived.Test.YtnjaedbekogeaaaDoorMonHead
import Derived.Test.YtnjaedbekogeaaaDoorMonMath
namespace Go.Proofs.YtnjaedbekogeaaaDoor
open Go.RowKit Go.Shelf
set_option maxRecDepth 100000

set_option maxHeartbeats 1000000 in
theorem walkS_a (c : Int) (v : Value) (l : List Int) (w : World) (hL : Lay w) (hI : Ints w v l) (hc : wthB c 1000000000 = false) : Calls Tryd.prog 6 #[.int .i64 c, v] w (Ret (.bool true) w) := by
  have hH : ∀ wk, Below w.heap.size w wk → Calls Tryd.prog 9 #[] wk (Ret (.bool true) wk) := fun wk h => mhead_any wk (hL.below h)
  have hb : Below w.heap.size w w := Below.refl _ _
  obtain ⟨ad, cap, hsl, hlen, hcell⟩ := hI.at
  subst hsl
  have HC := Lib.hid hc
  clear hc
  go_enter Tryd.func6, Tryd.ntmps6
  go_wp2_with fail
  refine (hH _ hb).mono ?_
  rintro e w1 ⟨rfl, hx⟩
  replace hb : Below w.heap.size w w1 := Below.trans (by (repeat (first | exact Below.refl _ _ | assumption | refine Below.drew ?_ | refine below_drewN ?_ _ | refine Below.setCell ?_ (by first | omega | (simp <;> omega)) _ | refine Below.alloc ?_ (by have := hb.size; first | omega | (simp <;> omega)) _))) (hx.mono (by have := hb.size; first | omega | (simp <;> omega)))
  clear hx
  clear hH
  go_wp2_with fail
  refine (rAmount_at _ _ HC.out).mono ?_
  rintro e w' ⟨rfl, rfl⟩
  go_wp2_with fail
  go_ret
  exact Ret.mk rfl hb

set_option maxHeartbeats 1000000 in
theorem walkS_b (c : Int) (v : Value) (l : List Int) (w : World) (hL : Lay w) (hI : Ints w v l) (hc : wthB c 1000000000 = true) (hw : wts l = false) : Calls Tryd.prog 6 #[.int .i64 c, v] w (Ret (.bool true) w) := by
  have hH : ∀ wk, Below w.heap.size w wk → Calls Tryd.prog 9 #[] wk (Ret (.bool true) wk) := fun wk h => mhead_any wk (hL.below h)
  have hb : Below w.heap.size w w := Below.refl _ _
  have hW : ∀ wk, Below w.heap.size w wk → Calls Tryd.prog 23 #[v] wk (Same (.bool false) wk) := fun wk h => rweights_at v l wk (hI.below h) hw
  obtain ⟨ad, cap, hsl, hlen, hcell⟩ := hI.at
  subst hsl
  have HC := Lib.hid hc
  clear hc hw
  go_enter Tryd.func6, Tryd.ntmps6
  go_wp2_with fail
  refine (hH _ hb).mono ?_
  rintro e w1 ⟨rfl, hx⟩
  replace hb : Below w.heap.size w w1 := Below.trans (by (repeat (first | exact Below.refl _ _ | assumption | refine Below.drew ?_ | refine below_drewN ?_ _ | refine Below.setCell ?_ (by first | omega | (simp <;> omega)) _ | refine Below.alloc ?_ (by have := hb.size; first | omega | (simp <;> omega)) _))) (hx.mono (by have := hb.size; first | omega | (simp <;> omega)))
  clear hx
  clear hH
  go_wp2_with fail
  refine (rAmount_at _ _ HC.out).mono ?_
  rintro e w' ⟨rfl, rfl⟩
  go_wp2_with fail
  refine (hW _ hb).mono ?_
  rintro e w' ⟨rfl, rfl⟩
  clear hW
  go_wp2_with fail
  go_ret
  exact Ret.mk rfl hb

set_option maxHeartbeats 4000000 in
theorem walkS_c (c : Int) (v : Value) (l : List Int) (w : World) (hL : Lay w) (hI : Ints w v l) (hc : wthB c 1000000000 = true) (hw : wts l = true) : Calls Tryd.prog 6 #[.int .i64 c, v] w (Ret (.bool true) w) := by
  have hH : ∀ wk, Below w.heap.size w wk → Calls Tryd.prog 9 #[] wk (Ret (.bool true) wk) := fun wk h => mhead_any wk (hL.below h)
  have hb : Below w.heap.size w w := Below.refl _ _
  have hW : ∀ wk, Below w.heap.size w wk → Calls Tryd.prog 23 #[v] wk (Same (.bool true) wk) := fun wk h => rweights_at v l wk (hI.below h) hw
  obtain ⟨hc1, hl1, hall, hT1, hT2⟩ := share_ok hc hw
  have hpl := partsF_len c l.sum 0 l
  have hpre := parts_pre c l.sum l
  have hpsum := parts_sum (c := c) hT1
  have hst := sum_all_take l hall
  have htk := fun k hk => sum_take l k hk
  have hpat := fun k hk h => parts_at hc hw k hk h
  have hS : ∀ wk, Below w.heap.size w wk → Calls Tryd.prog 14 #[.int .i64 c, v] wk fun e w' => ∃ u, e = .returned (.tuple #[u, .int .i64 0]) ∧ Ints w' u (partsF c l.sum 0 l) ∧ Below wk.heap.size wk w' := fun wk h => by
    have := mshare_any c v l wk (hI.below h); unfold ShareP at this; rw [share_good hc hw] at this; exact this
  obtain ⟨ad, cap, hsl, hlen, hcell⟩ := hI.at
  subst hsl
  have HC := Lib.hid hc
  have hTl : (l.take l.length).sum = l.sum := by rw [List.take_length]
  generalize partsF c l.sum 0 l = P at *
  generalize l.sum = T at *
  clear hc hw hL hI
  go_enter Tryd.func6, Tryd.ntmps6
  go_wp2_with fail
  refine (hH _ hb).mono ?_
  rintro e w1 ⟨rfl, hx⟩
  replace hb : Below w.heap.size w w1 := Below.trans (by (repeat (first | exact Below.refl _ _ | assumption | refine Below.drew ?_ | refine below_drewN ?_ _ | refine Below.setCell ?_ (by first | omega | (simp <;> omega)) _ | refine Below.alloc ?_ (by have := hb.size; first | omega | (simp <;> omega)) _))) (hx.mono (by have := hb.size; first | omega | (simp <;> omega)))
  clear hx
  clear hH
  go_wp2_with fail
  refine (rAmount_at _ _ HC.out).mono ?_
  rintro e w' ⟨rfl, rfl⟩
  go_wp2_with fail
  refine (hW _ hb).mono ?_
  rintro e w' ⟨rfl, rfl⟩
  clear hW
  go_wp2_with fail
  refine (hS _ hb).mono ?_
  rintro e w2 ⟨u, rfl, hP, hx⟩
  replace hb := hb.trans (hx.mono hb.size)
  clear hx hS
  obtain ⟨ad2, cap2, hsl2, _, hcellP⟩ := hP.at
  subst hsl2
  have q0 : ((P.length : Int) != l.length) = false := by rw [hpl]; simp
  go_wp2_with fail
  go_loopw [8, 9, 42] (fun s t i wr => ∃ k : Nat, k ≤ l.length ∧ i = .int .i64 k ∧ s = .int .i64 (P.take k).sum ∧ t = .int .i64 (l.take k).sum ∧ Below w2.heap.size w2 wr)
    (fun _ _ i _ => l.length - (intOf i).toNat)
  case atStart => exact ⟨0, by omega, rfl, rfl, rfl, Below.refl _ _⟩
  case round =>
    obtain ⟨k, hk, rfl, rfl, rfl, hb3⟩ := hrel
    by_cases hkl : k < l.length
    · have hkP : k < P.length := by omega
      obtain ⟨a, rfl, hr⟩ := hcell k hkl
      obtain ⟨a2, rfl, hr2⟩ := hcellP k hkP
      have hb4 := hb.trans (hb3.mono hb.size)
      have r2 := hr2 wr _ hb3 (Nat.le_refl _)
      have u1 : ∀ g : Grow wr, (up wr g).cell? (a.add k) = some (.int .i64 l[k]) := fun g => hr _ _ (hb4.trans ((up_below wr g).mono hb4.size)) (Nat.le_refl _)
      have qk : decide ((k : Int) < P.length) = true := by rw [decide_eq_true_iff]; omega
      have f1 := hpre k hk
      have f2 := quot_in (c := c) hT1 (hst k).1 (hst k).2
      have f3 := hpat k hkl hkP
      have f4 := part_bd (S := (l.take k).sum) (x := l[k]) hc1 hT1 f3.2.1 f3.2.2.1 f3.2.2.2.2
      rw [← f3.1] at f4
      have f5 : -1000000000 ≤ (P.take k).sum ∧ (P.take k).sum ≤ 1000000000 := by
        rw [f1]
        rcases Int.le_total 0 c with h0 | h0
        · have := f2.1 h0; omega
        · have := f2.2 h0; omega
      have n1 := Lib.hid (sum_take P k hkP)
      have n2 := Lib.hid (htk k hkl)
      obtain ⟨-, f6, f7, f8, f9⟩ := f3
      generalize (P.take k).sum = G at *
      generalize (l.take k).sum = S at *
      generalize P[k] = y at *
      generalize l[k] = x at *
      clear hr hr2 f1 f2 hpat hpre hst htk hTl
      go_wp2_with fail
      refine wp_region_up (by kernel_rfl) (by kernel_rfl) ?_
      repeat (go_big_quiet_step (fail))
      refine wpQuiet_nil ?_
      rintro w5 ⟨g, rfl⟩
      have hx5 := up_below wr g
      go_wp2_with fail
      go_roundw
      case rel => exact ⟨k + 1, by omega, by go_num, by rw [n1.out], by rw [n2.out], hb3.trans (hx5.mono hb3.size)⟩
      case measure => simp [intOf]; omega
    · have e1 : k = l.length := by omega
      subst e1
      have qk : decide ((l.length : Int) < P.length) = false := by rw [decide_eq_false_iff_not]; omega
      rw [hTl, List.take_of_length_le (by omega), hpsum]
      replace hb := hb.trans (hb3.mono hb.size)
      obtain ⟨w0, hw0⟩ : ∃ w0, w0 = wr := ⟨_, rfl⟩
      subst hw0
      clear hTl hpre htk hst
      go_wp2_with fail
      go_loopw [5, 59] (fun p i wr => ∃ k : Nat, k ≤ l.length ∧ i = .int .i64 k ∧ p = .bool true ∧ Below w0.heap.size w0 wr)
        (fun _ i _ => l.length - (intOf i).toNat)
      case atStart => exact ⟨0, by omega, rfl, rfl, Below.refl _ _⟩
      case round =>
        obtain ⟨k, hk, rfl, rfl, hb5⟩ := hrel
        by_cases hkl : k < l.length
        · have hkP : k < P.length := by omega
          obtain ⟨a, rfl, hr⟩ := hcell k hkl
          obtain ⟨a2, rfl, hr2⟩ := hcellP k hkP
          have hb6 := hb.trans (hb5.mono hb.size)
          have r1 := hr wr _ hb6 (Nat.le_refl _)
          have r2 := hr2 wr _ (hb3.trans (hb5.mono hb3.size)) (Nat.le_refl _)
          have qk : decide ((k : Int) < P.length) = true := by rw [decide_eq_true_iff]; omega
          have f3 := hpat k hkl hkP
          have f4 := part_bd (S := (l.take k).sum) (x := l[k]) hc1 hT1 f3.2.1 f3.2.2.1 f3.2.2.2.2
          have f5 := part_near (c := c) (S := (l.take k).sum) (x := l[k]) hT1
          have f6 : l[k] = 0 → P[k] = 0 := fun h => by rw [f3.1]; exact part_zero h
          rw [← f3.1] at f4 f5
          obtain ⟨-, -, f7, f8, -⟩ := f3
          generalize P[k] = y at *
          generalize l[k] = x at *
          obtain ⟨m1, m2⟩ := mul_bd (X := 1000000000) (Y := 1000000000) f4.1 f4.2 (show -1000000000 ≤ T by omega) hT2
          obtain ⟨m3, m4⟩ := mul_bd (X := 1000000000) (Y := 1000000000) hc1.1 hc1.2 (show -1000000000 ≤ x by omega) (by omega)
          have t1 : decide (1000000000 < y) = false := by rw [decide_eq_false_iff_not]; omega
          have t2 : decide (y < -1000000000) = false := by rw [decide_eq_false_iff_not]; omega
          have t3 : decide (y * T - c * x < T) = true := by rw [decide_eq_true_iff]; omega
          have t4 : decide (-T < y * T - c * x) = true := by rw [decide_eq_true_iff]; omega
          clear hr hr2 hpat
          by_cases hx0 : x = 0
          · have hy0 := f6 hx0
            have t5 : decide (0 < x) = false := by rw [decide_eq_false_iff_not]; omega
            have t6 : (y == 0) = true := by rw [beq_iff_eq]; exact hy0
            clear hx0 hy0 f6 f4 f5 f7 f8
            go_wp2_with fail
            go_roundw
            case rel => exact ⟨k + 1, by omega, by go_num, (by first | rfl | simp), hb5⟩
            case measure => simp [intOf]; omega
          · have t5 : decide (0 < x) = true := by rw [decide_eq_true_iff]; omega
            clear hx0 f6 f4 f5 f7 f8
            go_wp2_with fail
            go_roundw
            case rel => exact ⟨k + 1, by omega, by go_num, (by first | rfl | simp), hb5⟩
            case measure => simp [intOf]; omega
        · have e2 : k = l.length := by omega
          subst e2
          have qk2 : decide ((l.length : Int) < P.length) = false := by rw [decide_eq_false_iff_not]; omega
          go_wp2_with fail
          go_ret
          exact Ret.mk (by first | rfl | simp) (hb.trans (hb5.mono hb.size))

theorem walkMoneyShares (c : Int) (v : Value) (l : List Int) (w : World) (hL : Lay w) (hI : Ints w v l) : Calls Tryd.prog 6 #[.int .i64 c, v] w (Ret (.bool true) w) := by
  cases hc : wthB c 1000000000 with
  | false => exact walkS_a c v l w hL hI hc
  | true =>
  cases hw : wts l with
  | false => exact walkS_b c v l w hL hI hc hw
  | true => exact walkS_c c v l w hL hI hc hw
end Go.Proofs.YtnjaedbekogeaaaDoor
