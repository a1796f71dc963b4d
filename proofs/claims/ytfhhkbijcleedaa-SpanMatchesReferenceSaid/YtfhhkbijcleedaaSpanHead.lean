/-
  head: the examples of the chapter; and the law of the weekdays.
-/
import Derived.Test.YtfhhkbijcleedaaSpanMost
namespace Go.Proofs.Ytfhhkbijcleedaa
open Go.RowKit Go.Shelf Go.Lib Go.Sort

theorem sortE_eq {d e : List En} (hp : e.Perm d) (hs : e.Pairwise (fun x y => (!ltOf cmpE y x) = true)) : sortE d = e := by
  have h1 : (sortE d).Perm e := (List.mergeSort_perm d _).trans hp.symm
  have h2 : (sortE d).Pairwise (fun x y => (!ltOf cmpE y x) = true) := by
    refine List.pairwise_mergeSort (fun x y z h1 h2 => ?_) (fun x y => ?_) d
    · simp only [Bool.not_eq_true', Bool.eq_false_iff, ne_eq, cmpE_lt] at *; omega
    · simp only [Bool.or_eq_true, Bool.not_eq_true', Bool.eq_false_iff, ne_eq, cmpE_lt]; omega
  refine h1.eq_of_pairwise (fun x y _ _ hx hy => ?_) h2 hs
  exact cmpE_tot x y (by simpa using hy) (by simpa using hx)

theorem ex_union : comb (· || ·) [(1, 4)] [(4, 6)] = ([(1, 6)], 0) := by
  have hs : endsL [(1, 4)] [(4, 6)] = [(1, 0, 1), (4, 0, -1), (4, 1, 1), (6, 1, -1)] := sortE_eq (by decide) (by decide)
  unfold comb combL piecesL; rw [hs]; decide
theorem ex_meet : comb (· && ·) [(1, 6)] [(3, 9)] = ([(3, 6)], 0) := by
  have hs : endsL [(1, 6)] [(3, 9)] = [(1, 0, 1), (3, 1, 1), (6, 0, -1), (9, 1, -1)] := sortE_eq (by decide) (by decide)
  unfold comb combL piecesL; rw [hs]; decide
theorem ex_less : comb (fun x y => x && !y) [(1, 6)] [(3, 9)] = ([(1, 3)], 0) := by
  have hs : endsL [(1, 6)] [(3, 9)] = [(1, 0, 1), (3, 1, 1), (6, 0, -1), (9, 1, -1)] := sortE_eq (by decide) (by decide)
  unfold comb combL piecesL; rw [hs]; decide
theorem ex_most : mostF [(1, 5), (3, 6), (4, 9)] = ((4, 3), 0) := by
  have hs : endsL [(1, 5), (3, 6), (4, 9)] [] = [(1, 0, 1), (3, 0, 1), (4, 0, 1), (5, 0, -1), (6, 0, -1), (9, 0, -1)] := sortE_eq (by decide) (by decide)
  unfold mostF mostL piecesL; rw [hs]; decide
theorem ex_day : wdF 10 = (6, 0) := by decide
theorem ex_count : cntF [(4, 4)] = (0, 1) := by decide

theorem lit3 (x0 x1 y0 y1 z0 z1 : Int) (h : IS [(x0, x1), (y0, y1), (z0, z1)]) (w : World) : Spans (w.alloc (.cells #[.int .i64 x0, .int .i64 x1, .int .i64 y0, .int .i64 y1, .int .i64 z0, .int .i64 z1] 42)) (.slice (some ⟨w.heap.size, 0, none⟩) 3 3) [(x0, x1), (y0, y1), (z0, z1)] := by
  have ho := Own.new w #[.int .i64 x0, .int .i64 x1, .int .i64 y0, .int .i64 y1, .int .i64 z0, .int .i64 z1] 42
  refine ⟨⟨_, _, rfl⟩, fun ad n cap e i hi => ?_, h, by simp⟩
  cases e
  match i, hi with
  | 0, _ => exact ⟨_, rfl, ho.lt, ho.cell 0 _ rfl, ho.cell 1 _ rfl⟩
  | 1, _ => exact ⟨_, rfl, ho.lt, ho.cell 2 _ rfl, ho.cell 3 _ rfl⟩
  | 2, _ => exact ⟨_, rfl, ho.lt, ho.cell 4 _ rfl, ho.cell 5 _ rfl⟩

section
variable (va vb : Value) (w : World)
theorem hd_union (ha : Spans w va [(1, 4)]) (hb : Spans w vb [(4, 6)]) : Calls Try.prog 13 #[va, vb] w fun e w' => ∃ v', e = .returned (.tuple #[v', .int .i64 0]) ∧ Spans w' v' [(1, 6)] ∧ Below w.heap.size w w' := by
  have h := union_any va vb _ _ w ha hb; rw [ex_union] at h; exact h
theorem hd_meet (ha : Spans w va [(1, 6)]) (hb : Spans w vb [(3, 9)]) : Calls Try.prog 16 #[va, vb] w fun e w' => ∃ v', e = .returned (.tuple #[v', .int .i64 0]) ∧ Spans w' v' [(3, 6)] ∧ Below w.heap.size w w' := by
  have h := meet_any va vb _ _ w ha hb; rw [ex_meet] at h; exact h
theorem hd_less (ha : Spans w va [(1, 6)]) (hb : Spans w vb [(3, 9)]) : Calls Try.prog 18 #[va, vb] w fun e w' => ∃ v', e = .returned (.tuple #[v', .int .i64 0]) ∧ Spans w' v' [(1, 3)] ∧ Below w.heap.size w w' := by
  have h := less_any va vb _ _ w ha hb; rw [ex_less] at h; exact h
theorem hd_most : Calls Try.prog 22 #[.slice (some ⟨w.heap.size, 0, none⟩) 3 3] (w.alloc (.cells #[.int .i64 1, .int .i64 5, .int .i64 3, .int .i64 6, .int .i64 4, .int .i64 9] 42)) fun e w' => e = .returned (.tuple #[.int .i64 4, .int .i64 3, .int .i64 0]) ∧ Below w.heap.size w w' := by
  have h := most_any _ _ _ (lit3 1 5 3 6 4 9 (by intro s hs; simp at hs; rcases hs with rfl | rfl | rfl <;> constructor <;> constructor <;> decide) w)
  rw [ex_most] at h
  exact h.mono fun e w' ⟨he, hx⟩ => ⟨he, ((Below.refl _ w).alloc (Nat.le_refl _) _).trans (hx.mono (by simp))⟩
theorem hd_same (l : List Sp) (ha : Spans w va l) (hb : Spans w vb l) : Calls Try.prog 15 #[va, vb] w (Ret (.bool true) w) := by
  have h := same_any va vb l l w ha hb; simpa using h
theorem hd_day : Calls Try.prog 24 #[.int .i64 10] w (Ret (.tuple #[.int .i64 6, .int .i64 0]) w) := by
  have h := weekday_any 10 w; rw [ex_day] at h; exact h
theorem hd_count (ha : Spans w va [(4, 4)]) : Calls Try.prog 20 #[va] w (Ret (.tuple #[.int .i64 0, .int .i64 1]) w) := by
  have h := count_any va _ w ha; rw [ex_count] at h; exact h
end
theorem i64 (x : Int) (h : -9223372036854775808 ≤ x ∧ x ≤ 9223372036854775807) : I64 x := h

set_option maxHeartbeats 4000000 in
theorem head_any (w : World) : Calls Try.prog 10 #[] w (Ret (.bool true) w) := by
  have hb := Below.refl w.heap.size w
  go_enter Try.func10, Try.ntmps10
  go_wp2_with fail
  refine (one_any 1 4 (i64 _ (by decide)) (i64 _ (by decide)) w).mono ?_
  rintro e w1 ⟨v_p1, rfl, p1, hx⟩
  replace hb : Below w.heap.size w w1 := hb.trans (hx.mono hb.size)
  clear hx
  go_wp2_with fail
  refine (one_any 4 6 (i64 _ (by decide)) (i64 _ (by decide)) w1).mono ?_
  rintro e w2 ⟨v_p2, rfl, p2, hx⟩
  replace p1 := p1.below hx
  replace hb : Below w.heap.size w w2 := hb.trans (hx.mono hb.size)
  clear hx
  go_wp2_with fail
  refine (hd_union _ _ w2 p1 p2).mono ?_
  rintro e w3 ⟨v_A, rfl, A, hx⟩
  replace p1 := p1.below hx
  replace p2 := p2.below hx
  replace hb : Below w.heap.size w w3 := hb.trans (hx.mono hb.size)
  clear hx
  go_wp2_with fail
  refine (one_any 1 6 (i64 _ (by decide)) (i64 _ (by decide)) w3).mono ?_
  rintro e w4 ⟨v_p3, rfl, p3, hx⟩
  replace p1 := p1.below hx
  replace p2 := p2.below hx
  replace A := A.below hx
  replace hb : Below w.heap.size w w4 := hb.trans (hx.mono hb.size)
  clear hx
  go_wp2_with fail
  refine (one_any 3 9 (i64 _ (by decide)) (i64 _ (by decide)) w4).mono ?_
  rintro e w5 ⟨v_p4, rfl, p4, hx⟩
  replace p1 := p1.below hx
  replace p2 := p2.below hx
  replace A := A.below hx
  replace p3 := p3.below hx
  replace hb : Below w.heap.size w w5 := hb.trans (hx.mono hb.size)
  clear hx
  go_wp2_with fail
  refine (hd_meet _ _ w5 p3 p4).mono ?_
  rintro e w6 ⟨v_B, rfl, B, hx⟩
  replace p1 := p1.below hx
  replace p2 := p2.below hx
  replace A := A.below hx
  replace p3 := p3.below hx
  replace p4 := p4.below hx
  replace hb : Below w.heap.size w w6 := hb.trans (hx.mono hb.size)
  clear hx
  go_wp2_with fail
  refine (one_any 1 6 (i64 _ (by decide)) (i64 _ (by decide)) w6).mono ?_
  rintro e w7 ⟨v_p5, rfl, p5, hx⟩
  replace p1 := p1.below hx
  replace p2 := p2.below hx
  replace A := A.below hx
  replace p3 := p3.below hx
  replace p4 := p4.below hx
  replace B := B.below hx
  replace hb : Below w.heap.size w w7 := hb.trans (hx.mono hb.size)
  clear hx
  go_wp2_with fail
  refine (one_any 3 9 (i64 _ (by decide)) (i64 _ (by decide)) w7).mono ?_
  rintro e w8 ⟨v_p6, rfl, p6, hx⟩
  replace p1 := p1.below hx
  replace p2 := p2.below hx
  replace A := A.below hx
  replace p3 := p3.below hx
  replace p4 := p4.below hx
  replace B := B.below hx
  replace p5 := p5.below hx
  replace hb : Below w.heap.size w w8 := hb.trans (hx.mono hb.size)
  clear hx
  go_wp2_with fail
  refine (hd_less _ _ w8 p5 p6).mono ?_
  rintro e w9 ⟨v_C, rfl, C, hx⟩
  replace p1 := p1.below hx
  replace p2 := p2.below hx
  replace A := A.below hx
  replace p3 := p3.below hx
  replace p4 := p4.below hx
  replace B := B.below hx
  replace p5 := p5.below hx
  replace p6 := p6.below hx
  replace hb : Below w.heap.size w w9 := hb.trans (hx.mono hb.size)
  clear hx
  go_wp2_with fail
  refine (hd_most w9).mono ?_
  rintro e w10 ⟨rfl, hx⟩
  replace p1 := p1.below hx
  replace p2 := p2.below hx
  replace A := A.below hx
  replace p3 := p3.below hx
  replace p4 := p4.below hx
  replace B := B.below hx
  replace p5 := p5.below hx
  replace p6 := p6.below hx
  replace C := C.below hx
  replace hb : Below w.heap.size w w10 := hb.trans (hx.mono hb.size)
  clear hx
  go_wp2_with fail
  refine (hd_day w10).mono ?_
  rintro e w11 ⟨rfl, hx⟩
  replace p1 := p1.below hx
  replace p2 := p2.below hx
  replace A := A.below hx
  replace p3 := p3.below hx
  replace p4 := p4.below hx
  replace B := B.below hx
  replace p5 := p5.below hx
  replace p6 := p6.below hx
  replace C := C.below hx
  replace hb : Below w.heap.size w w11 := hb.trans (hx.mono hb.size)
  clear hx
  go_wp2_with fail
  refine (one_any 4 4 (i64 _ (by decide)) (i64 _ (by decide)) w11).mono ?_
  rintro e w12 ⟨v_p7, rfl, p7, hx⟩
  replace p1 := p1.below hx
  replace p2 := p2.below hx
  replace A := A.below hx
  replace p3 := p3.below hx
  replace p4 := p4.below hx
  replace B := B.below hx
  replace p5 := p5.below hx
  replace p6 := p6.below hx
  replace C := C.below hx
  replace hb : Below w.heap.size w w12 := hb.trans (hx.mono hb.size)
  clear hx
  go_wp2_with fail
  refine (hd_count _ w12 p7).mono ?_
  rintro e w13 ⟨rfl, hx⟩
  replace p1 := p1.below hx
  replace p2 := p2.below hx
  replace A := A.below hx
  replace p3 := p3.below hx
  replace p4 := p4.below hx
  replace B := B.below hx
  replace p5 := p5.below hx
  replace p6 := p6.below hx
  replace C := C.below hx
  replace p7 := p7.below hx
  replace hb : Below w.heap.size w w13 := hb.trans (hx.mono hb.size)
  clear hx
  go_wp2_with fail
  refine (one_any 1 6 (i64 _ (by decide)) (i64 _ (by decide)) w13).mono ?_
  rintro e w14 ⟨v_q1, rfl, q1, hx⟩
  replace p1 := p1.below hx
  replace p2 := p2.below hx
  replace A := A.below hx
  replace p3 := p3.below hx
  replace p4 := p4.below hx
  replace B := B.below hx
  replace p5 := p5.below hx
  replace p6 := p6.below hx
  replace C := C.below hx
  replace p7 := p7.below hx
  replace hb : Below w.heap.size w w14 := hb.trans (hx.mono hb.size)
  clear hx
  go_wp2_with fail
  refine (hd_same _ _ w14 _ A q1).mono ?_
  rintro e w15 ⟨rfl, hx⟩
  replace p1 := p1.below hx
  replace p2 := p2.below hx
  replace A := A.below hx
  replace p3 := p3.below hx
  replace p4 := p4.below hx
  replace B := B.below hx
  replace p5 := p5.below hx
  replace p6 := p6.below hx
  replace C := C.below hx
  replace p7 := p7.below hx
  replace q1 := q1.below hx
  replace hb : Below w.heap.size w w15 := hb.trans (hx.mono hb.size)
  clear hx
  go_wp2_with fail
  refine (one_any 3 6 (i64 _ (by decide)) (i64 _ (by decide)) w15).mono ?_
  rintro e w16 ⟨v_q2, rfl, q2, hx⟩
  replace p1 := p1.below hx
  replace p2 := p2.below hx
  replace A := A.below hx
  replace p3 := p3.below hx
  replace p4 := p4.below hx
  replace B := B.below hx
  replace p5 := p5.below hx
  replace p6 := p6.below hx
  replace C := C.below hx
  replace p7 := p7.below hx
  replace q1 := q1.below hx
  replace hb : Below w.heap.size w w16 := hb.trans (hx.mono hb.size)
  clear hx
  go_wp2_with fail
  refine (hd_same _ _ w16 _ B q2).mono ?_
  rintro e w17 ⟨rfl, hx⟩
  replace p1 := p1.below hx
  replace p2 := p2.below hx
  replace A := A.below hx
  replace p3 := p3.below hx
  replace p4 := p4.below hx
  replace B := B.below hx
  replace p5 := p5.below hx
  replace p6 := p6.below hx
  replace C := C.below hx
  replace p7 := p7.below hx
  replace q1 := q1.below hx
  replace q2 := q2.below hx
  replace hb : Below w.heap.size w w17 := hb.trans (hx.mono hb.size)
  clear hx
  go_wp2_with fail
  refine (one_any 1 3 (i64 _ (by decide)) (i64 _ (by decide)) w17).mono ?_
  rintro e w18 ⟨v_q3, rfl, q3, hx⟩
  replace p1 := p1.below hx
  replace p2 := p2.below hx
  replace A := A.below hx
  replace p3 := p3.below hx
  replace p4 := p4.below hx
  replace B := B.below hx
  replace p5 := p5.below hx
  replace p6 := p6.below hx
  replace C := C.below hx
  replace p7 := p7.below hx
  replace q1 := q1.below hx
  replace q2 := q2.below hx
  replace hb : Below w.heap.size w w18 := hb.trans (hx.mono hb.size)
  clear hx
  go_wp2_with fail
  refine (hd_same _ _ w18 _ C q3).mono ?_
  rintro e w19 ⟨rfl, hx⟩
  replace p1 := p1.below hx
  replace p2 := p2.below hx
  replace A := A.below hx
  replace p3 := p3.below hx
  replace p4 := p4.below hx
  replace B := B.below hx
  replace p5 := p5.below hx
  replace p6 := p6.below hx
  replace C := C.below hx
  replace p7 := p7.below hx
  replace q1 := q1.below hx
  replace q2 := q2.below hx
  replace q3 := q3.below hx
  replace hb : Below w.heap.size w w19 := hb.trans (hx.mono hb.size)
  clear hx
  go_wp2_with fail
  go_ret
  exact Ret.mk rfl hb
end Go.Proofs.Ytfhhkbijcleedaa
