/-
  The walk of MoneyEqual.
-/
import Derived.Test.YtnjaedbekogeaaaDoorMonHead
import Derived.Test.YtnjaedbekogeaaaDoorMonMath
namespace Go.Proofs.YtnjaedbekogeaaaDoor
open Go.RowKit Go.Shelf
set_option maxRecDepth 100000

set_option maxHeartbeats 1000000 in
theorem walkE_a (c : Int) (v : Value) (l : List Int) (i j : Int) (w : World) (hL : Lay w) (hI : Ints w v l) (hc : wthB c 1000000000 = false) : Calls Tryd.prog 7 #[.int .i64 c, v, .int .u16 i, .int .u16 j] w (Ret (.bool true) w) := by
  have hH : ∀ wk, Below w.heap.size w wk → Calls Tryd.prog 9 #[] wk (Ret (.bool true) wk) := fun wk h => mhead_any wk (hL.below h)
  have hb : Below w.heap.size w w := Below.refl _ _
  obtain ⟨ad, cap, hsl, hlen, hcell⟩ := hI.at
  subst hsl
  have HC := Lib.hid hc
  clear hc
  go_enter Tryd.func7, Tryd.ntmps7
  go_wp2_with fail
  refine (hH _ hb).mono ?_
  rintro e w1 ⟨rfl, hx⟩
  replace hb : Below w.heap.size w w1 := Below.trans (by (repeat (first | exact Below.refl _ _ | assumption | refine Below.drew ?_ | refine below_drewN ?_ _ | refine Below.setCell ?_ (by first | omega | (simp <;> omega)) _ | refine Below.alloc ?_ (by have := hb.size; first | omega | (simp <;> omega)) _))) (hx.mono (by have := hb.size; first | omega | (simp <;> omega)))
  clear hx
  clear hH
  go_wp2_with fail
  refine (rAmount_at _ _ HC.out).mono ?_
  rintro e w' ⟨rfl, rfl⟩
  go_wp2_with fail
  go_ret
  exact Ret.mk rfl hb

set_option maxHeartbeats 1000000 in
theorem walkE_b (c : Int) (v : Value) (l : List Int) (i j : Int) (w : World) (hL : Lay w) (hI : Ints w v l) (hc : wthB c 1000000000 = true) (hw : wts l = false) : Calls Tryd.prog 7 #[.int .i64 c, v, .int .u16 i, .int .u16 j] w (Ret (.bool true) w) := by
  have hH : ∀ wk, Below w.heap.size w wk → Calls Tryd.prog 9 #[] wk (Ret (.bool true) wk) := fun wk h => mhead_any wk (hL.below h)
  have hb : Below w.heap.size w w := Below.refl _ _
  have hW : ∀ wk, Below w.heap.size w wk → Calls Tryd.prog 23 #[v] wk (Same (.bool false) wk) := fun wk h => rweights_at v l wk (hI.below h) hw
  obtain ⟨ad, cap, hsl, hlen, hcell⟩ := hI.at
  subst hsl
  have HC := Lib.hid hc
  clear hc hw
  go_enter Tryd.func7, Tryd.ntmps7
  go_wp2_with fail
  refine (hH _ hb).mono ?_
  rintro e w1 ⟨rfl, hx⟩
  replace hb : Below w.heap.size w w1 := Below.trans (by (repeat (first | exact Below.refl _ _ | assumption | refine Below.drew ?_ | refine below_drewN ?_ _ | refine Below.setCell ?_ (by first | omega | (simp <;> omega)) _ | refine Below.alloc ?_ (by have := hb.size; first | omega | (simp <;> omega)) _))) (hx.mono (by have := hb.size; first | omega | (simp <;> omega)))
  clear hx
  clear hH
  go_wp2_with fail
  refine (rAmount_at _ _ HC.out).mono ?_
  rintro e w' ⟨rfl, rfl⟩
  go_wp2_with fail
  refine (hW _ hb).mono ?_
  rintro e w' ⟨rfl, rfl⟩
  clear hW
  go_wp2_with fail
  go_ret
  exact Ret.mk rfl hb

set_option maxHeartbeats 4000000 in
theorem walkE_c (c : Int) (v : Value) (l : List Int) (i j : Int) (w : World) (hL : Lay w) (hI : Ints w v l) (hi : 0 ≤ i ∧ i ≤ 65535) (hj : 0 ≤ j ∧ j ≤ 65535) (hc : wthB c 1000000000 = true) (hw : wts l = true) : Calls Tryd.prog 7 #[.int .i64 c, v, .int .u16 i, .int .u16 j] w (Ret (.bool true) w) := by
  have hH : ∀ wk, Below w.heap.size w wk → Calls Tryd.prog 9 #[] wk (Ret (.bool true) wk) := fun wk h => mhead_any wk (hL.below h)
  have hb : Below w.heap.size w w := Below.refl _ _
  have hW : ∀ wk, Below w.heap.size w wk → Calls Tryd.prog 23 #[v] wk (Same (.bool true) wk) := fun wk h => rweights_at v l wk (hI.below h) hw
  obtain ⟨hc1, hl1, hall, hT1, hT2⟩ := share_ok hc hw
  have hl0 : 0 < l.length := by
    rcases Nat.eq_zero_or_pos l.length with h | h
    · rw [List.length_eq_zero_iff.1 h] at hT1; simp at hT1
    · exact h
  have hpl := partsF_len c l.sum 0 l
  have hst := sum_all_take l hall
  have htk := fun k hk => sum_take l k hk
  have hpat := fun k hk h => parts_at hc hw k hk h
  have hS : ∀ wk, Below w.heap.size w wk → Calls Tryd.prog 14 #[.int .i64 c, v] wk fun e w' => ∃ u, e = .returned (.tuple #[u, .int .i64 0]) ∧ Ints w' u (partsF c l.sum 0 l) ∧ Below wk.heap.size wk w' := fun wk h => by
    have := mshare_any c v l wk (hI.below h); unfold ShareP at this; rw [share_good hc hw] at this; exact this
  obtain ⟨ad, cap, hsl, hlen, hcell⟩ := hI.at
  subst hsl
  have HC := Lib.hid hc
  have hTl : (l.take l.length).sum = l.sum := by rw [List.take_length]
  generalize partsF c l.sum 0 l = P at *
  generalize l.sum = T at *
  clear hc hw hL hI hall
  go_enter Tryd.func7, Tryd.ntmps7
  go_wp2_with fail
  refine (hH _ hb).mono ?_
  rintro e w1 ⟨rfl, hx⟩
  replace hb : Below w.heap.size w w1 := Below.trans (by (repeat (first | exact Below.refl _ _ | assumption | refine Below.drew ?_ | refine below_drewN ?_ _ | refine Below.setCell ?_ (by first | omega | (simp <;> omega)) _ | refine Below.alloc ?_ (by have := hb.size; first | omega | (simp <;> omega)) _))) (hx.mono (by have := hb.size; first | omega | (simp <;> omega)))
  clear hx
  clear hH
  go_wp2_with fail
  refine (rAmount_at _ _ HC.out).mono ?_
  rintro e w' ⟨rfl, rfl⟩
  go_wp2_with fail
  refine (hW _ hb).mono ?_
  rintro e w' ⟨rfl, rfl⟩
  clear hW
  go_wp2_with fail
  go_loopw [10, 29] (fun t i wr => ∃ k : Nat, k ≤ l.length ∧ i = .int .i64 k ∧ t = .int .i64 (l.take k).sum ∧ wr = w1)
    (fun _ i _ => l.length - (intOf i).toNat)
  case atStart => exact ⟨0, by omega, rfl, rfl, rfl⟩
  case round =>
    obtain ⟨k, hk, rfl, rfl, rfl⟩ := hrel
    by_cases hkl : k < l.length
    · obtain ⟨a, rfl, hr⟩ := hcell k hkl
      have r1 := hr wr _ hb (Nat.le_refl _)
      have qk : decide ((k : Int) < l.length) = true := by rw [decide_eq_true_iff]; omega
      have n2 := Lib.hid (htk k hkl)
      have s1 := hst k
      have s2 := hst (k + 1)
      rw [htk k hkl] at s2
      generalize (l.take k).sum = S at *
      generalize l[k] = x at *
      clear hr hpat hst htk hTl
      go_wp2_with fail
      go_roundw
      case rel => exact ⟨k + 1, by omega, by go_num, by rw [n2.out], (by first | rfl | trivial)⟩
      case measure => simp [intOf]; omega
    · have e1 : k = l.length := by omega
      subst e1
      have qk : decide ((l.length : Int) < l.length) = false := by simp
      rw [hTl]
      clear hTl htk hst
      go_wp2_with fail
      refine (hS _ hb).mono ?_
      rintro e w2 ⟨u, rfl, hP, hx⟩
      replace hb := hb.trans (hx.mono hb.size)
      clear hx hS
      obtain ⟨ad2, cap2, hsl2, _, hcellP⟩ := hP.at
      subst hsl2
      have q0 : ((l.length : Int) != l.length) = false := by simp
      rw [hpl]
      go_wp2_with fail
      refine wp_region_up (by kernel_rfl) (by kernel_rfl) ?_
      repeat (go_big_quiet_step (fail))
      refine wpQuiet_nil ?_
      rintro w3 ⟨g3, rfl⟩
      have hx3 := up_below w2 g3
      replace hb := hb.trans (hx3.mono hb.size)
      have hn0 : (0 : Int) < l.length := by omega
      obtain ⟨a, ha⟩ : ∃ a : Nat, i % (l.length : Int) = (a : Int) := ⟨(i % (l.length : Int)).toNat, by have := Int.emod_nonneg i (b := (l.length : Int)) (by omega); omega⟩
      obtain ⟨b, hbb⟩ : ∃ b : Nat, j % (l.length : Int) = (b : Int) := ⟨(j % (l.length : Int)).toNat, by have := Int.emod_nonneg j (b := (l.length : Int)) (by omega); omega⟩
      have hal : a < l.length := by have := Int.emod_lt_of_pos i hn0; omega
      have hbl : b < l.length := by have := Int.emod_lt_of_pos j hn0; omega
      rw [ha, hbb]
      obtain ⟨p, rfl, hra⟩ := hcell a hal
      obtain ⟨p', hpp, hrb⟩ := hcell b hbl
      cases hpp
      obtain ⟨p2, rfl, hPa⟩ := hcellP a (by omega)
      obtain ⟨p2', hpp, hPb⟩ := hcellP b (by omega)
      cases hpp
      have R1 : ∀ wr, Below (up w2 g3).heap.size (up w2 g3) wr → wr.cell? (p.add a) = some (.int .i64 l[a]) := fun wr h => hra wr _ (hb.trans (h.mono hb.size)) (Nat.le_refl _)
      have R2 : ∀ wr, Below (up w2 g3).heap.size (up w2 g3) wr → wr.cell? (p.add b) = some (.int .i64 l[b]) := fun wr h => hrb wr _ (hb.trans (h.mono hb.size)) (Nat.le_refl _)
      have R3 : ∀ wr, Below (up w2 g3).heap.size (up w2 g3) wr → wr.cell? (p2.add a) = some (.int .i64 P[a]) := fun wr h => hPa wr _ (hx3.trans (h.mono hx3.size)) (Nat.le_refl _)
      have R4 : ∀ wr, Below (up w2 g3).heap.size (up w2 g3) wr → wr.cell? (p2.add b) = some (.int .i64 P[b]) := fun wr h => hPb wr _ (hx3.trans (h.mono hx3.size)) (Nat.le_refl _)
      have fa := hpat a hal (by omega)
      have fb := hpat b hbl (by omega)
      have ga := part_bd (S := (l.take a).sum) (x := l[a]) hc1 hT1 fa.2.1 fa.2.2.1 fa.2.2.2.2
      have gb := part_bd (S := (l.take b).sum) (x := l[b]) hc1 hT1 fb.2.1 fb.2.2.1 fb.2.2.2.2
      have heq : l[a] = l[b] → P[a] - P[b] ≤ 1 ∧ P[b] - P[a] ≤ 1 := fun h => by
        rw [fa.1, fb.1, h]
        exact ⟨part_equal hT1, part_equal hT1⟩
      have hprop : c.tmod T = 0 → P[a] = c.tdiv T * l[a] := fun h => by
        have e : c = c.tdiv T * T := by have := Int.tmod_add_mul_tdiv c T; rw [h, Int.mul_comm] at this; omega
        rw [fa.1]
        conv => lhs; rw [e]
        exact part_prop hT1
      rw [← fa.1] at ga
      rw [← fb.1] at gb
      obtain ⟨-, -, fa1, fa2, -⟩ := fa
      obtain ⟨-, -, fb1, fb2, -⟩ := fb
      generalize up w2 g3 = w3 at *
      generalize l[a] = xa at *
      generalize l[b] = xb at *
      generalize P[a] = ya at *
      generalize P[b] = yb at *
      have u1 := fun g : Grow w3 => R1 (up w3 g) (up_below w3 g)
      have u2 := fun g : Grow w3 => R2 (up w3 g) (up_below w3 g)
      have u3 := fun g : Grow w3 => R3 (up w3 g) (up_below w3 g)
      have u4 := fun g : Grow w3 => R4 (up w3 g) (up_below w3 g)
      have hq := tdiv_natAbs_le c T
      have ha2 : decide ((a : Int) < l.length) = true := by rw [decide_eq_true_iff]; omega
      obtain ⟨m1, m2⟩ := mul_bd (X := 1000000000) (Y := 1000000) (x := c.tdiv T) (y := xa) (by omega) (by omega) (by omega) fa2
      clear hra hrb hPa hPb hcell hcellP hP hpat R2 R4 hx3 ha hbb
      by_cases hm : c.tmod T = 0
      · have t4 : (c.tmod T != 0) = false := by simpa using hm
        have t5 : (ya == c.tdiv T * xa) = true := by rw [beq_iff_eq]; exact hprop hm
        clear hm hprop
        by_cases hx0 : xa = xb
        · have t1 : (xa != xb) = false := by simpa using hx0
          have t2 : decide (ya - yb ≤ 1) = true := by rw [decide_eq_true_iff]; exact (heq hx0).1
          have t3 : decide (yb - ya ≤ 1) = true := by rw [decide_eq_true_iff]; exact (heq hx0).2
          clear hx0 heq
          go_wp2_with fail
          refine wp_region_up (by kernel_rfl) (by kernel_rfl) ?_
          repeat (go_big_quiet_step (fail))
          refine wpQuiet_nil ?_
          rintro w4 ⟨g4, rfl⟩
          have hx4 := up_below w3 g4
          replace hb := hb.trans (hx4.mono hb.size)
          have v1 := fun g : Grow (up w3 g4) => R1 (up (up w3 g4) g) (hx4.trans ((up_below (up w3 g4) g).mono hx4.size))
          have v3 := fun g : Grow (up w3 g4) => R3 (up (up w3 g4) g) (hx4.trans ((up_below (up w3 g4) g).mono hx4.size))
          clear u1 u2 u3 u4 R1 R3
          generalize up w3 g4 = w4 at *
          go_wp2_with fail
          refine wp_region_up (by kernel_rfl) (by kernel_rfl) ?_
          repeat (go_big_quiet_step (fail))
          refine wpQuiet_nil ?_
          rintro w5 ⟨g5, rfl⟩
          have hx5 := up_below w4 g5
          replace hb := hb.trans (hx5.mono hb.size)
          go_wp2_with fail
          go_ret
          exact Ret.mk (by first | rfl | simp) hb
        · have t1 : (xa != xb) = true := by simpa using hx0
          clear hx0 heq
          go_wp2_with fail
          refine wp_region_up (by kernel_rfl) (by kernel_rfl) ?_
          repeat (go_big_quiet_step (fail))
          refine wpQuiet_nil ?_
          rintro w4 ⟨g4, rfl⟩
          have hx4 := up_below w3 g4
          replace hb := hb.trans (hx4.mono hb.size)
          have v1 := fun g : Grow (up w3 g4) => R1 (up (up w3 g4) g) (hx4.trans ((up_below (up w3 g4) g).mono hx4.size))
          have v3 := fun g : Grow (up w3 g4) => R3 (up (up w3 g4) g) (hx4.trans ((up_below (up w3 g4) g).mono hx4.size))
          clear u1 u2 u3 u4 R1 R3
          generalize up w3 g4 = w4 at *
          go_wp2_with fail
          refine wp_region_up (by kernel_rfl) (by kernel_rfl) ?_
          repeat (go_big_quiet_step (fail))
          refine wpQuiet_nil ?_
          rintro w5 ⟨g5, rfl⟩
          have hx5 := up_below w4 g5
          replace hb := hb.trans (hx5.mono hb.size)
          go_wp2_with fail
          go_ret
          exact Ret.mk (by first | rfl | simp) hb
      · have t4 : (c.tmod T != 0) = true := by simpa using hm
        clear hm hprop
        by_cases hx0 : xa = xb
        · have t1 : (xa != xb) = false := by simpa using hx0
          have t2 : decide (ya - yb ≤ 1) = true := by rw [decide_eq_true_iff]; exact (heq hx0).1
          have t3 : decide (yb - ya ≤ 1) = true := by rw [decide_eq_true_iff]; exact (heq hx0).2
          clear hx0 heq
          go_wp2_with fail
          refine wp_region_up (by kernel_rfl) (by kernel_rfl) ?_
          repeat (go_big_quiet_step (fail))
          refine wpQuiet_nil ?_
          rintro w4 ⟨g4, rfl⟩
          have hx4 := up_below w3 g4
          replace hb := hb.trans (hx4.mono hb.size)
          have v1 := fun g : Grow (up w3 g4) => R1 (up (up w3 g4) g) (hx4.trans ((up_below (up w3 g4) g).mono hx4.size))
          have v3 := fun g : Grow (up w3 g4) => R3 (up (up w3 g4) g) (hx4.trans ((up_below (up w3 g4) g).mono hx4.size))
          clear u1 u2 u3 u4 R1 R3
          generalize up w3 g4 = w4 at *
          go_wp2_with fail
          refine wp_region_up (by kernel_rfl) (by kernel_rfl) ?_
          repeat (go_big_quiet_step (fail))
          refine wpQuiet_nil ?_
          rintro w5 ⟨g5, rfl⟩
          have hx5 := up_below w4 g5
          replace hb := hb.trans (hx5.mono hb.size)
          go_wp2_with fail
          go_ret
          exact Ret.mk (by first | rfl | simp) hb
        · have t1 : (xa != xb) = true := by simpa using hx0
          clear hx0 heq
          go_wp2_with fail
          refine wp_region_up (by kernel_rfl) (by kernel_rfl) ?_
          repeat (go_big_quiet_step (fail))
          refine wpQuiet_nil ?_
          rintro w4 ⟨g4, rfl⟩
          have hx4 := up_below w3 g4
          replace hb := hb.trans (hx4.mono hb.size)
          have v1 := fun g : Grow (up w3 g4) => R1 (up (up w3 g4) g) (hx4.trans ((up_below (up w3 g4) g).mono hx4.size))
          have v3 := fun g : Grow (up w3 g4) => R3 (up (up w3 g4) g) (hx4.trans ((up_below (up w3 g4) g).mono hx4.size))
          clear u1 u2 u3 u4 R1 R3
          generalize up w3 g4 = w4 at *
          go_wp2_with fail
          refine wp_region_up (by kernel_rfl) (by kernel_rfl) ?_
          repeat (go_big_quiet_step (fail))
          refine wpQuiet_nil ?_
          rintro w5 ⟨g5, rfl⟩
          have hx5 := up_below w4 g5
          replace hb := hb.trans (hx5.mono hb.size)
          go_wp2_with fail
          go_ret
          exact Ret.mk (by first | rfl | simp) hb

theorem walkMoneyEqual (c : Int) (v : Value) (l : List Int) (i j : Int) (w : World) (hL : Lay w) (hI : Ints w v l) (hi : 0 ≤ i ∧ i ≤ 65535) (hj : 0 ≤ j ∧ j ≤ 65535) : Calls Tryd.prog 7 #[.int .i64 c, v, .int .u16 i, .int .u16 j] w (Ret (.bool true) w) := by
  cases hc : wthB c 1000000000 with
  | false => exact walkE_a c v l i j w hL hI hc
  | true =>
  cases hw : wts l with
  | false => exact walkE_b c v l i j w hL hI hc hw
  | true => exact walkE_c c v l i j w hL hI hi hj hc hw
end Go.Proofs.YtnjaedbekogeaaaDoor
