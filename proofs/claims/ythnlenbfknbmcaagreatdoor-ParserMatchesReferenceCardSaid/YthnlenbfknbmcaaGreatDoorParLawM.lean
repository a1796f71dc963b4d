/-
  The walk of ParserMatchesReference.
-/
import Derived.Test.YthnlenbfknbmcaaGreatDoorParR12
import Derived.Test.YthnlenbfknbmcaaGreatDoorQq
import Derived.Test.YthnlenbfknbmcaaGreatDoorQt
import Derived.Test.YthnlenbfknbmcaaGreatDoorParHead
import Derived.Deep.RegionHeld3
import Derived.Deep.DeepCutAuto
namespace Go.Proofs.YthnlenbfknbmcaaGreatDoor
open Go.RowKit Go.Shelf
set_option maxRecDepth 100000
set_option linter.unusedVariables false
set_option linter.unusedSimpArgs false

set_option maxHeartbeats 6400000 in
theorem lawM_any (hHd : ∀ w, Lay w → Calls Tryz.prog 6 #[] w (Ret (.bool true) w)) (x : Xp) (v : Value) (s : List UInt8) (w : World) (hL : Lay w) (ht : Tree (fun _ => False) w x v) : Calls Tryz.prog 3 #[.string ⟨s.toArray⟩, v] w (Ret (.bool true) w) := by
  obtain ⟨ad0, cap0, rfl, -, -⟩ := ht.shape
  have hsz := bsz8 s
  have o0 := Own.new w #[.int .i64 x.o, .int .i64 x.n, .slice ad0 x.ks.length cap0] 24
  have hb := alB w (.cells #[.int .i64 x.o, .int .i64 x.n, .slice ad0 x.ks.length cap0] 24)
  have Tx := ht.alloc (.cells #[.int .i64 x.o, .int .i64 x.n, .slice ad0 x.ks.length cap0] 24)
  have hH := hHd _ (hL.below hb)
  clear hHd ht
  go_enter Tryz.func3, Tryz.ntmps3
  go_wp2_with fail
  refine hH.mono ?_
  rintro e w1 ⟨rfl, hx⟩
  replace o0 := o0.below hx
  replace Tx := Tx.below hx
  replace hb := hb.trans (hx.mono hb.size)
  clear hx
  clear hH
  obtain ⟨p0, p1, p2, -, -, -, p6⟩ := o0.three
  have hF := few8_any _ _ _ Tx
  go_upto_region 2 with (fail)
  go_cut [27] (fun c wx => c = .bool ((decide (1500 < s.length) && decide (s.length ≤ 20000)) || !fewE x) ∧ Below w1.heap.size w1 wx)
  case first =>
    by_cases h1 : 1500 < s.length
    · have q0 : decide (1500 < (s.length : Int)) = true := by rw [decide_eq_true_iff]; omega
      have q1 : decide (1500 < s.length) = true := by rw [decide_eq_true_iff]; exact h1
      by_cases h2 : s.length ≤ 20000
      · have r0 : decide ((s.length : Int) ≤ 20000) = true := by rw [decide_eq_true_iff]; omega
        have r1 : decide (s.length ≤ 20000) = true := by rw [decide_eq_true_iff]; exact h2
        go_wp2_with fail
        go_meet
        exact ⟨by rw [q1, r1]; rfl, Below.refl _ _⟩
      · have r0 : decide ((s.length : Int) ≤ 20000) = false := by rw [decide_eq_false_iff_not]; omega
        have r1 : decide (s.length ≤ 20000) = false := by rw [decide_eq_false_iff_not]; exact h2
        clear h1 h2
        go_wp2_with fail
        refine hF.mono ?_
        rintro e w2 ⟨rfl, hx⟩
        go_wp2_with fail
        go_meet
        exact ⟨by rw [q1, r1]; rfl, hx⟩
    · have q0 : decide (1500 < (s.length : Int)) = false := by rw [decide_eq_false_iff_not]; omega
      have q1 : decide (1500 < s.length) = false := by rw [decide_eq_false_iff_not]; exact h1
      clear h1
      go_wp2_with fail
      refine hF.mono ?_
      rintro e w2 ⟨rfl, hx⟩
      go_wp2_with fail
      go_meet
      exact ⟨by rw [q1]; rfl, hx⟩
  case rest =>
    obtain ⟨rfl, hx⟩ := hcut
    rename World => w2
    clear p0 p1 p2 p6 hF
    replace o0 := o0.below hx
    replace Tx := Tx.below hx
    replace hb := hb.trans (hx.mono hb.size)
    clear hx
    cases hc : ((decide (1500 < s.length) && decide (s.length ≤ 20000)) || !fewE x) with
    | true =>
      go_wp2_with fail
      go_ret
      exact Ret.mk rfl hb
    | false =>
      clear hc
      have hP := fun w1 (h : Below w.heap.size w w1) => pexpr_any s w1 (hL.below h)
      have hRt := fun w1 (h : Below w.heap.size w w1) => rates_law s w1 (hL.below h)
      clear hL
      go_wp2_with fail
      refine (hP _ hb).mono ?_
      rintro e w3 ⟨x3, k3, tv3, e3, rfl, T3, hx⟩
      obtain ⟨ad3, cap3, rfl, -, -⟩ := T3.shape
      replace o0 := o0.below hx
      replace Tx := Tx.below hx
      replace hb := hb.trans (hx.mono hb.size)
      clear hx
      clear hP
      have o3 := Own.new w3 #[.int .i64 x3.o, .int .i64 x3.n, .slice ad3 x3.ks.length cap3] 24
      replace o0 := o0.below (alB w3 (.cells #[.int .i64 x3.o, .int .i64 x3.n, .slice ad3 x3.ks.length cap3] 24))
      replace Tx := Tx.below (alB w3 (.cells #[.int .i64 x3.o, .int .i64 x3.n, .slice ad3 x3.ks.length cap3] 24))
      replace T3 := T3.below (alB w3 (.cells #[.int .i64 x3.o, .int .i64 x3.n, .slice ad3 x3.ks.length cap3] 24))
      replace hb := balloc hb (.cells #[.int .i64 x3.o, .int .i64 x3.n, .slice ad3 x3.ks.length cap3] 24)
      go_wp2_with fail
      refine (rExpr8_any s _).mono ?_
      rintro e w4 ⟨x4, k4, tv4, e4, rfl, T4, hx⟩
      obtain ⟨e1, e2⟩ := e4.det e3
      subst e1 e2
      obtain ⟨ad4, cap4, rfl, -, -⟩ := T4.shape
      replace o0 := o0.below hx
      replace Tx := Tx.below hx
      replace T3 := T3.below hx
      replace o3 := o3.below hx
      replace hb := hb.trans (hx.mono hb.size)
      clear hx
      clear e3 e4
      have o4 := Own.new w4 #[.int .i64 x4.o, .int .i64 x4.n, .slice ad4 x4.ks.length cap4] 24
      replace o0 := o0.below (alB w4 (.cells #[.int .i64 x4.o, .int .i64 x4.n, .slice ad4 x4.ks.length cap4] 24))
      replace Tx := Tx.below (alB w4 (.cells #[.int .i64 x4.o, .int .i64 x4.n, .slice ad4 x4.ks.length cap4] 24))
      replace T3 := T3.below (alB w4 (.cells #[.int .i64 x4.o, .int .i64 x4.n, .slice ad4 x4.ks.length cap4] 24))
      replace T4 := T4.below (alB w4 (.cells #[.int .i64 x4.o, .int .i64 x4.n, .slice ad4 x4.ks.length cap4] 24))
      replace o3 := o3.below (alB w4 (.cells #[.int .i64 x4.o, .int .i64 x4.n, .slice ad4 x4.ks.length cap4] 24))
      replace hb := balloc hb (.cells #[.int .i64 x4.o, .int .i64 x4.n, .slice ad4 x4.ks.length cap4] 24)
      obtain ⟨w5, hw5⟩ : ∃ X, X = w4.alloc (.cells #[.int .i64 x4.o, .int .i64 x4.n, .slice ad4 x4.ks.length cap4] 24) := ⟨_, rfl⟩
      have z3 := o3.lt
      have z4 := o4.lt
      go_upto_region 6 with (fail)
      rw [← hw5] at o0 Tx T3 T4 o3 o4 hb ⊢
      clear hw5
      go_cut [5] (fun s5 wx => s5 = .bool true ∧ Below w5.heap.size w5 wx)
      case first =>
        have hz := (Below.refl w5.heap.size w5).drew
        have hSame := fun w1 (h : Below w5.heap.size w5 w1) => same_self (x := x4) (T3.below h) (T4.below h)
        have hV1 := fun w1 (h : Below w5.heap.size w5 w1) => pvalid_any x _ w1 (Tx.below h)
        have hV2 := fun w1 (h : Below w5.heap.size w5 w1) => rvalid8_any x _ w1 (Tx.below h)
        have HS : ∀ w2, Below w5.heap.size w5 w2 → (fun w2 => w2.cell? ⟨w.heap.size, 0, none⟩ = some (.int .i64 x.o) ∧ w2.cell? ⟨w.heap.size, 1, none⟩ = some (.int .i64 x.n) ∧ w2.cell? ⟨w.heap.size, 2, none⟩ = some (.slice ad0 x.ks.length cap0) ∧ w2.cell? ⟨w3.heap.size, 0, none⟩ = some (.int .i64 x4.o) ∧ w2.cell? ⟨w3.heap.size, 1, none⟩ = some (.int .i64 x4.n) ∧ w2.cell? ⟨w3.heap.size, 2, none⟩ = some (.slice ad3 x4.ks.length cap3) ∧ w2.cell? ⟨w4.heap.size, 0, none⟩ = some (.int .i64 x4.o) ∧ w2.cell? ⟨w4.heap.size, 1, none⟩ = some (.int .i64 x4.n) ∧ w2.cell? ⟨w4.heap.size, 2, none⟩ = some (.slice ad4 x4.ks.length cap4)) w2 := fun w2 h => ⟨(o0.below h).cell 0 _ rfl, (o0.below h).cell 1 _ rfl, (o0.below h).cell 2 _ rfl, (o3.below h).cell 0 _ rfl, (o3.below h).cell 1 _ rfl, (o3.below h).cell 2 _ rfl, (o4.below h).cell 0 _ rfl, (o4.below h).cell 1 _ rfl, (o4.below h).cell 2 _ rfl⟩
        clear hb T3 T4 Tx o0 o3 o4
        go_region_held3 (fun w2 => w2.cell? ⟨w.heap.size, 0, none⟩ = some (.int .i64 x.o) ∧ w2.cell? ⟨w.heap.size, 1, none⟩ = some (.int .i64 x.n) ∧ w2.cell? ⟨w.heap.size, 2, none⟩ = some (.slice ad0 x.ks.length cap0) ∧ w2.cell? ⟨w3.heap.size, 0, none⟩ = some (.int .i64 x4.o) ∧ w2.cell? ⟨w3.heap.size, 1, none⟩ = some (.int .i64 x4.n) ∧ w2.cell? ⟨w3.heap.size, 2, none⟩ = some (.slice ad3 x4.ks.length cap3) ∧ w2.cell? ⟨w4.heap.size, 0, none⟩ = some (.int .i64 x4.o) ∧ w2.cell? ⟨w4.heap.size, 1, none⟩ = some (.int .i64 x4.n) ∧ w2.cell? ⟨w4.heap.size, 2, none⟩ = some (.slice ad4 x4.ks.length cap4)) (first | with_reducible exact HS _ hz | fail) (first
         | (go_at_call 10
            refine (hSame _ hz).mono ?_
            rintro e v ⟨rfl, hx⟩
            replace hz := hz.trans (hx.mono hz.size)
            clear hx)
         | (go_at_call 11
            refine (hV1 _ hz).mono ?_
            rintro e v ⟨rfl, hx⟩
            replace hz := hz.trans (hx.mono hz.size)
            clear hx)
         | (go_at_call 12
            refine (hV2 _ hz).mono ?_
            rintro e v ⟨rfl, hx⟩
            replace hz := hz.trans (hx.mono hz.size)
            clear hx))
        all_goals (
          go_wp2_with fail
          go_meet
          exact ⟨by simp, hz⟩)
      case rest =>
        obtain ⟨rfl, hx⟩ := hcut
        replace hb := hb.trans (hx.mono hb.size)
        clear hx o0 Tx T3 T4 o3 o4 z3 z4
        go_wp2_with fail
        refine (hRt _ hb).mono ?_
        rintro e w6 ⟨rs, ec, n1, v1, hp, rfl, hl, hrs, hx⟩
        replace hb := hb.trans (hx.mono hb.size)
        clear hx hRt
        obtain ⟨adr, capr, rfl⟩ := hrs.shape
        go_wp2_with fail
        refine (rRates8_any s _).mono ?_
        rintro e w7 ⟨rs2, ec2, n2, v2, hp2, rfl, hl2, hrs2, hx⟩
        obtain ⟨e1, e2, e3⟩ := hp2.det hp
        obtain rfl := tl_inj e1
        subst e2 e3
        clear e1 hp hp2
        replace hrs := hrs.below hx
        replace hb := hb.trans (hx.mono hb.size)
        clear hx
        obtain ⟨adr2, capr2, rfl⟩ := hrs2.shape
        have h1 := sameRates_any _ _ _ _ hrs hrs2
        go_wp2_with fail
        refine h1.mono ?_
        rintro e w8 ⟨rfl, hx⟩
        replace hb := hb.trans (hx.mono hb.size)
        clear hx h1 hrs hrs2
        go_wp2_with fail
        go_ret
        exact Ret.mk (by simp) hb
end Go.Proofs.YthnlenbfknbmcaaGreatDoor
