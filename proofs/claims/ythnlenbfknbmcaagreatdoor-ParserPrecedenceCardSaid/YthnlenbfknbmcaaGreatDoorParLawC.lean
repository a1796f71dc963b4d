/-
  The walk of ParserPrecedence.
-/
import Derived.Test.YthnlenbfknbmcaaGreatDoorParQp
import Derived.Test.YthnlenbfknbmcaaGreatDoorParQq
import Derived.Test.YthnlenbfknbmcaaGreatDoorParQr
import Derived.Test.YthnlenbfknbmcaaGreatDoorParQs
import Derived.Test.YthnlenbfknbmcaaGreatDoorParQt
import Derived.Deep.DeepCutAuto
namespace Go.Proofs.YthnlenbfknbmcaaGreatDoor
open Go.RowKit Go.Shelf
set_option maxRecDepth 100000
set_option linter.unusedVariables false
set_option linter.unusedSimpArgs false

set_option maxHeartbeats 16000000 in
theorem lawQ_yes (hHd : ∀ w, Lay w → Calls Tryz.prog 6 #[] w (Ret (.bool true) w)) (a b c d : Xp) (va vb vc vd : Value) (w : World) (hL : Lay w) (ha : Tree (fun _ => False) w a va) (hb0 : Tree (fun _ => False) w b vb) (hc : Tree (fun _ => False) w c vc) (hd : Tree (fun _ => False) w d vd) (hs : [a, b, c, d].all smallE = true) : Calls Tryz.prog 4 #[va, vb, vc, vd] w (Ret (.bool true) w) := by
  obtain ⟨ada, capa, rfl, -, -⟩ := ha.shape
  obtain ⟨adb, capb, rfl, -, -⟩ := hb0.shape
  obtain ⟨adc, capc, rfl, -, -⟩ := hc.shape
  obtain ⟨add, capd, rfl, -, -⟩ := hd.shape
  obtain ⟨W, hW⟩ : ∃ W, W = ((((w.alloc (.cells #[.int .i64 a.o, .int .i64 a.n, .slice ada a.ks.length capa] 24)).alloc (.cells #[.int .i64 b.o, .int .i64 b.n, .slice adb b.ks.length capb] 24)).alloc (.cells #[.int .i64 c.o, .int .i64 c.n, .slice adc c.ks.length capc] 24)).alloc (.cells #[.int .i64 d.o, .int .i64 d.n, .slice add d.ks.length capd] 24)) := ⟨_, rfl⟩
  have oa : Own W (w.heap.size) [.int .i64 a.o, .int .i64 a.n, .slice ada a.ks.length capa] := by
    rw [hW]
    have := ((((Own.new w #[.int .i64 a.o, .int .i64 a.n, .slice ada a.ks.length capa] 24).alloc (.cells #[.int .i64 b.o, .int .i64 b.n, .slice adb b.ks.length capb] 24)).alloc (.cells #[.int .i64 c.o, .int .i64 c.n, .slice adc c.ks.length capc] 24)).alloc (.cells #[.int .i64 d.o, .int .i64 d.n, .slice add d.ks.length capd] 24))
    simpa using this
  have ob : Own W (w.heap.size + 1) [.int .i64 b.o, .int .i64 b.n, .slice adb b.ks.length capb] := by
    rw [hW]
    have := (((Own.new (w.alloc (.cells #[.int .i64 a.o, .int .i64 a.n, .slice ada a.ks.length capa] 24)) #[.int .i64 b.o, .int .i64 b.n, .slice adb b.ks.length capb] 24).alloc (.cells #[.int .i64 c.o, .int .i64 c.n, .slice adc c.ks.length capc] 24)).alloc (.cells #[.int .i64 d.o, .int .i64 d.n, .slice add d.ks.length capd] 24))
    simpa using this
  have oc : Own W (w.heap.size + 2) [.int .i64 c.o, .int .i64 c.n, .slice adc c.ks.length capc] := by
    rw [hW]
    have := ((Own.new ((w.alloc (.cells #[.int .i64 a.o, .int .i64 a.n, .slice ada a.ks.length capa] 24)).alloc (.cells #[.int .i64 b.o, .int .i64 b.n, .slice adb b.ks.length capb] 24)) #[.int .i64 c.o, .int .i64 c.n, .slice adc c.ks.length capc] 24).alloc (.cells #[.int .i64 d.o, .int .i64 d.n, .slice add d.ks.length capd] 24))
    simpa using this
  have od : Own W (w.heap.size + 3) [.int .i64 d.o, .int .i64 d.n, .slice add d.ks.length capd] := by
    rw [hW]
    have := (Own.new (((w.alloc (.cells #[.int .i64 a.o, .int .i64 a.n, .slice ada a.ks.length capa] 24)).alloc (.cells #[.int .i64 b.o, .int .i64 b.n, .slice adb b.ks.length capb] 24)).alloc (.cells #[.int .i64 c.o, .int .i64 c.n, .slice adc c.ks.length capc] 24)) #[.int .i64 d.o, .int .i64 d.n, .slice add d.ks.length capd] 24)
    simpa using this
  have hb : Below w.heap.size w W := by rw [hW]; exact balloc (balloc (balloc (balloc (Below.refl _ _) _) _) _) _
  have hH := hHd _ (hL.below hb)
  have Ta := ha.below hb
  have Tb := hb0.below hb
  have Tc := hc.below hb
  have Td := hd.below hb
  have hsa : smallE a = true ∧ smallE b = true ∧ smallE c = true ∧ smallE d = true := by simpa using hs
  obtain ⟨ma, mb, mc, md⟩ := hsa
  replace ma := small_is ma
  replace mb := small_is mb
  replace mc := small_is mc
  replace md := small_is md
  clear ha hb0 hc hd hHd
  go_enter Tryz.func4, Tryz.ntmps4
  go_wp2_with fail
  rw [← hW]
  clear hW
  refine hH.mono ?_
  rintro e w1 ⟨rfl, hx⟩
  clear hH
  first | (have hq := hx; with_reducible replace oa := oa.below hq) | (have hq := (bAq hx); with_reducible replace oa := oa.below hq) | (have hq := (bAq (bDq hx)); with_reducible replace oa := oa.below hq) | (have hq := (bAq (bAq hx)); with_reducible replace oa := oa.below hq) | (have hq := (bAq (bAq (bDq hx))); with_reducible replace oa := oa.below hq) | (have hq := (bDq hx); with_reducible replace oa := oa.below hq)
  replace ob := ob.below hq
  replace oc := oc.below hq
  replace od := od.below hq
  replace Ta := Ta.below hq
  replace Tb := Tb.below hq
  replace Tc := Tc.below hq
  replace Td := Td.below hq
  replace hb := hb.trans (hq.mono hb.size)
  clear hq
  clear hx
  obtain ⟨ra0, ra1, ra2, -, -, -, raz⟩ := oa.three
  obtain ⟨rb0, rb1, rb2, -, -, -, rbz⟩ := ob.three
  obtain ⟨rc0, rc1, rc2, -, -, -, rcz⟩ := oc.three
  obtain ⟨rd0, rd1, rd2, -, -, -, rdz⟩ := od.three
  go_wp2_with fail
  clear ra0 ra1 ra2 raz rb0 rb1 rb2 rbz rc0 rc1 rc2 rcz rd0 rd1 rd2 rdz
  have os := Own.new w1 #[.int .i64 a.o, .int .i64 a.n, .slice ada a.ks.length capa, .int .i64 b.o, .int .i64 b.n, .slice adb b.ks.length capb, .int .i64 c.o, .int .i64 c.n, .slice adc c.ks.length capc, .int .i64 d.o, .int .i64 d.n, .slice add d.ks.length capd] 24
  have TS := four_trees os (Ta.below (alB w1 (.cells #[.int .i64 a.o, .int .i64 a.n, .slice ada a.ks.length capa, .int .i64 b.o, .int .i64 b.n, .slice adb b.ks.length capb, .int .i64 c.o, .int .i64 c.n, .slice adc c.ks.length capc, .int .i64 d.o, .int .i64 d.n, .slice add d.ks.length capd] 24))) (Tb.below (alB w1 (.cells #[.int .i64 a.o, .int .i64 a.n, .slice ada a.ks.length capa, .int .i64 b.o, .int .i64 b.n, .slice adb b.ks.length capb, .int .i64 c.o, .int .i64 c.n, .slice adc c.ks.length capc, .int .i64 d.o, .int .i64 d.n, .slice add d.ks.length capd] 24))) (Tc.below (alB w1 (.cells #[.int .i64 a.o, .int .i64 a.n, .slice ada a.ks.length capa, .int .i64 b.o, .int .i64 b.n, .slice adb b.ks.length capb, .int .i64 c.o, .int .i64 c.n, .slice adc c.ks.length capc, .int .i64 d.o, .int .i64 d.n, .slice add d.ks.length capd] 24))) (Td.below (alB w1 (.cells #[.int .i64 a.o, .int .i64 a.n, .slice ada a.ks.length capa, .int .i64 b.o, .int .i64 b.n, .slice adb b.ks.length capb, .int .i64 c.o, .int .i64 c.n, .slice adc c.ks.length capc, .int .i64 d.o, .int .i64 d.n, .slice add d.ks.length capd] 24)))
  have hSm := small_any (fun _ => False) [a, b, c, d] _ 4 _ (by simp) TS
  rw [hs] at hSm
  refine hSm.mono ?_
  rintro e w2 ⟨rfl, hx⟩
  clear hSm TS os
  first | (have hq := hx; with_reducible replace oa := oa.below hq) | (have hq := (bAq hx); with_reducible replace oa := oa.below hq) | (have hq := (bAq (bDq hx)); with_reducible replace oa := oa.below hq) | (have hq := (bAq (bAq hx)); with_reducible replace oa := oa.below hq) | (have hq := (bAq (bAq (bDq hx))); with_reducible replace oa := oa.below hq) | (have hq := (bDq hx); with_reducible replace oa := oa.below hq)
  replace ob := ob.below hq
  replace oc := oc.below hq
  replace od := od.below hq
  replace Ta := Ta.below hq
  replace Tb := Tb.below hq
  replace Tc := Tc.below hq
  replace Td := Td.below hq
  replace hb := hb.trans (hq.mono hb.size)
  clear hq
  clear hx
  clear hs
  go_upto_region 4 with (fail)
  have dr := (Below.refl w2.heap.size w2).drew
  first | (have hq := dr; with_reducible replace oa := oa.below hq) | (have hq := (bAq dr); with_reducible replace oa := oa.below hq) | (have hq := (bAq (bDq dr)); with_reducible replace oa := oa.below hq) | (have hq := (bAq (bAq dr)); with_reducible replace oa := oa.below hq) | (have hq := (bAq (bAq (bDq dr))); with_reducible replace oa := oa.below hq) | (have hq := (bDq dr); with_reducible replace oa := oa.below hq)
  replace ob := ob.below hq
  replace oc := oc.below hq
  replace od := od.below hq
  replace Ta := Ta.below hq
  replace Tb := Tb.below hq
  replace Tc := Tc.below hq
  replace Td := Td.below hq
  replace hb := hb.trans (hq.mono hb.size)
  clear hq
  clear dr
  go_region_held3 (fun w' => w'.cell? ⟨w.heap.size, 0, none⟩ = some (.int .i64 a.o) ∧ w'.cell? ⟨w.heap.size, 1, none⟩ = some (.int .i64 a.n) ∧ w'.cell? ⟨w.heap.size, 2, none⟩ = some (.slice ada a.ks.length capa) ∧ w'.cell? ⟨w.heap.size + 1, 0, none⟩ = some (.int .i64 b.o) ∧ w'.cell? ⟨w.heap.size + 1, 1, none⟩ = some (.int .i64 b.n) ∧ w'.cell? ⟨w.heap.size + 1, 2, none⟩ = some (.slice adb b.ks.length capb) ∧ w'.cell? ⟨w.heap.size + 2, 0, none⟩ = some (.int .i64 c.o) ∧ w'.cell? ⟨w.heap.size + 2, 1, none⟩ = some (.int .i64 c.n) ∧ w'.cell? ⟨w.heap.size + 2, 2, none⟩ = some (.slice adc c.ks.length capc) ∧ w'.cell? ⟨w.heap.size + 3, 0, none⟩ = some (.int .i64 d.o) ∧ w'.cell? ⟨w.heap.size + 3, 1, none⟩ = some (.int .i64 d.n) ∧ w'.cell? ⟨w.heap.size + 3, 2, none⟩ = some (.slice add d.ks.length capd)) (first | exact ⟨oa.cell 0 _ rfl, oa.cell 1 _ rfl, oa.cell 2 _ rfl, ob.cell 0 _ rfl, ob.cell 1 _ rfl, ob.cell 2 _ rfl, oc.cell 0 _ rfl, oc.cell 1 _ rfl, oc.cell 2 _ rfl, od.cell 0 _ rfl, od.cell 1 _ rfl, od.cell 2 _ rfl⟩) (first
    | (go_at_call 17
       have mk := Sc
       clear mk
       refine (show_any _ d _ _ md.1 (by have := md.2.1; omega) Td).mono ?_
       rintro e vd ⟨sd, kd, Sd, rfl, hx⟩
       first | (have hq := hx; with_reducible replace oa := oa.below hq) | (have hq := (bAq hx); with_reducible replace oa := oa.below hq) | (have hq := (bAq (bDq hx)); with_reducible replace oa := oa.below hq) | (have hq := (bAq (bAq hx)); with_reducible replace oa := oa.below hq) | (have hq := (bAq (bAq (bDq hx))); with_reducible replace oa := oa.below hq) | (have hq := (bDq hx); with_reducible replace oa := oa.below hq)
       replace ob := ob.below hq
       replace oc := oc.below hq
       replace od := od.below hq
       replace Ta := Ta.below hq
       replace Tb := Tb.below hq
       replace Tc := Tc.below hq
       replace Td := Td.below hq
       replace hb := hb.trans (hq.mono hb.size)
       clear hq
       clear hx)
    | (go_at_call 17
       have mk := Sb
       clear mk
       refine (show_any _ c _ _ mc.1 (by have := mc.2.1; omega) Tc).mono ?_
       rintro e vc ⟨sc, kc, Sc, rfl, hx⟩
       first | (have hq := hx; with_reducible replace oa := oa.below hq) | (have hq := (bAq hx); with_reducible replace oa := oa.below hq) | (have hq := (bAq (bDq hx)); with_reducible replace oa := oa.below hq) | (have hq := (bAq (bAq hx)); with_reducible replace oa := oa.below hq) | (have hq := (bAq (bAq (bDq hx))); with_reducible replace oa := oa.below hq) | (have hq := (bDq hx); with_reducible replace oa := oa.below hq)
       replace ob := ob.below hq
       replace oc := oc.below hq
       replace od := od.below hq
       replace Ta := Ta.below hq
       replace Tb := Tb.below hq
       replace Tc := Tc.below hq
       replace Td := Td.below hq
       replace hb := hb.trans (hq.mono hb.size)
       clear hq
       clear hx)
    | (go_at_call 17
       have mk := Sa
       clear mk
       refine (show_any _ b _ _ mb.1 (by have := mb.2.1; omega) Tb).mono ?_
       rintro e vb ⟨sb, kb, Sb, rfl, hx⟩
       first | (have hq := hx; with_reducible replace oa := oa.below hq) | (have hq := (bAq hx); with_reducible replace oa := oa.below hq) | (have hq := (bAq (bDq hx)); with_reducible replace oa := oa.below hq) | (have hq := (bAq (bAq hx)); with_reducible replace oa := oa.below hq) | (have hq := (bAq (bAq (bDq hx))); with_reducible replace oa := oa.below hq) | (have hq := (bDq hx); with_reducible replace oa := oa.below hq)
       replace ob := ob.below hq
       replace oc := oc.below hq
       replace od := od.below hq
       replace Ta := Ta.below hq
       replace Tb := Tb.below hq
       replace Tc := Tc.below hq
       replace Td := Td.below hq
       replace hb := hb.trans (hq.mono hb.size)
       clear hq
       clear hx)
    | (go_at_call 17
       refine (show_any _ a _ _ ma.1 (by have := ma.2.1; omega) Ta).mono ?_
       rintro e va ⟨sa, ka, Sa, rfl, hx⟩
       first | (have hq := hx; with_reducible replace oa := oa.below hq) | (have hq := (bAq hx); with_reducible replace oa := oa.below hq) | (have hq := (bAq (bDq hx)); with_reducible replace oa := oa.below hq) | (have hq := (bAq (bAq hx)); with_reducible replace oa := oa.below hq) | (have hq := (bAq (bAq (bDq hx))); with_reducible replace oa := oa.below hq) | (have hq := (bDq hx); with_reducible replace oa := oa.below hq)
       replace ob := ob.below hq
       replace oc := oc.below hq
       replace od := od.below hq
       replace Ta := Ta.below hq
       replace Tb := Tb.below hq
       replace Tc := Tc.below hq
       replace Td := Td.below hq
       replace hb := hb.trans (hq.mono hb.size)
       clear hq
       clear hx))
  all_goals (
    have Ep := src_p Sa Sb Sc Sd ma mb mc md
    have Eq := src_q Sa Sb Sc Sd ma mb mc md
    have Er := src_r Sa Sb Sc Sd ma mb mc md
    have Es := src_s Sa Sb Sc Sd ma mb mc md
    have Et := src_t Sa Sb Sc Sd ma mb mc md
    have ca := sw_count Sa
    have cb := sw_count Sb
    have cc := sw_count Sc
    have cd := sw_count Sd
    have na := ma.2.1
    have nb := mb.2.1
    have nc := mc.2.1
    have nd := md.2.1
    obtain ⟨A, eA⟩ : ∃ S : ByteArray, S = ⟨sa.toArray⟩ := ⟨_, rfl⟩
    have zA : A.size ≤ 4000 := by rw [eA]; simp only [ByteArray.size, List.size_toArray]; omega
    obtain ⟨B, eB⟩ : ∃ S : ByteArray, S = ⟨sb.toArray⟩ := ⟨_, rfl⟩
    have zB : B.size ≤ 4000 := by rw [eB]; simp only [ByteArray.size, List.size_toArray]; omega
    obtain ⟨C, eC⟩ : ∃ S : ByteArray, S = ⟨sc.toArray⟩ := ⟨_, rfl⟩
    have zC : C.size ≤ 4000 := by rw [eC]; simp only [ByteArray.size, List.size_toArray]; omega
    obtain ⟨D, eD⟩ : ∃ S : ByteArray, S = ⟨sd.toArray⟩ := ⟨_, rfl⟩
    have zD : D.size ≤ 4000 := by rw [eD]; simp only [ByteArray.size, List.size_toArray]; omega
    have hp := fun w1 (h : Below w.heap.size w w1) => pexpr_ep Ep w1 (hL.below h)
    rw [bytes_p sa sb sc sd A B C D eA eB eC eD] at hp
    obtain ⟨xp, Qp⟩ : ∃ x, x = (nodeE 11 [(nodeE 4 [a, (nodeE 6 [b, c])]), (nodeE 5 [d, (nodeE 7 [a, b])])]) := ⟨_, rfl⟩
    rw [← Qp] at hp
    replace Qp := Lib.hid Qp
    have hq := fun w1 (h : Below w.heap.size w w1) => pexpr_ep Eq w1 (hL.below h)
    rw [bytes_q sa sb sc sd A B C D eA eB eC eD] at hq
    obtain ⟨xq, Qq⟩ : ∃ x, x = (nodeE 14 [(nodeE 13 [(nodeE 15 [(nodeE 12 [a, b])]), c]), (nodeE 13 [d, (nodeE 15 [(nodeE 15 [a])])])]) := ⟨_, rfl⟩
    rw [← Qq] at hq
    replace Qq := Lib.hid Qq
    have hr := fun w1 (h : Below w.heap.size w w1) => pexpr_ep Er w1 (hL.below h)
    rw [bytes_r sa sb sc sd A B C D eA eB eC eD] at hr
    obtain ⟨xr, Qr⟩ : ∃ x, x = (nodeE 5 [(nodeE 4 [(nodeE 5 [a, b]), c]), d]) := ⟨_, rfl⟩
    rw [← Qr] at hr
    replace Qr := Lib.hid Qr
    have hs := fun w1 (h : Below w.heap.size w w1) => pexpr_ep Es w1 (hL.below h)
    rw [bytes_s sa sb sc sd A B C D eA eB eC eD] at hs
    obtain ⟨xs, Qs⟩ : ∃ x, x = (nodeE 14 [(nodeE 14 [(nodeE 6 [(nodeE 7 [a, b]), c]), d]), a]) := ⟨_, rfl⟩
    rw [← Qs] at hs
    replace Qs := Lib.hid Qs
    have ht := fun w1 (h : Below w.heap.size w w1) => pexpr_ep Et w1 (hL.below h)
    rw [bytes_t sa sb sc sd A B C D eA eB eC eD] at ht
    obtain ⟨xt, Qt⟩ : ∃ x, x = (nodeE 10 [a, b, (nodeE 10 [c, d, (nodeE 4 [a, b])])]) := ⟨_, rfl⟩
    rw [← Qt] at ht
    replace Qt := Lib.hid Qt
    rw [← eA, ← eB, ← eC, ← eD]
    clear Ep Eq Er Es Et eA eB eC eD ca cb cc cd na nb nc nd ma mb mc md Sa Sb Sc Sd
    have y0 : ¬ (9223372036854775807 < A.size + 3) := by omega
    have x0 : ¬ (9223372036854775807 < (A.size : Int) + 3) := by omega
    have y1 : ¬ (9223372036854775807 < A.size + 3 + B.size) := by omega
    have x1 : ¬ (9223372036854775807 < (A.size : Int) + 3 + (B.size : Int)) := by omega
    have y2 : ¬ (9223372036854775807 < A.size + 3 + B.size + 3) := by omega
    have x2 : ¬ (9223372036854775807 < (A.size : Int) + 3 + (B.size : Int) + 3) := by omega
    have y3 : ¬ (9223372036854775807 < A.size + 3 + B.size + 3 + C.size) := by omega
    have x3 : ¬ (9223372036854775807 < (A.size : Int) + 3 + (B.size : Int) + 3 + (C.size : Int)) := by omega
    have y4 : ¬ (9223372036854775807 < A.size + 3 + B.size + 3 + C.size + 3) := by omega
    have x4 : ¬ (9223372036854775807 < (A.size : Int) + 3 + (B.size : Int) + 3 + (C.size : Int) + 3) := by omega
    have y5 : ¬ (9223372036854775807 < A.size + 3 + B.size + 3 + C.size + 3 + D.size) := by omega
    have x5 : ¬ (9223372036854775807 < (A.size : Int) + 3 + (B.size : Int) + 3 + (C.size : Int) + 3 + (D.size : Int)) := by omega
    have y6 : ¬ (9223372036854775807 < A.size + 3 + B.size + 3 + C.size + 3 + D.size + 3) := by omega
    have x6 : ¬ (9223372036854775807 < (A.size : Int) + 3 + (B.size : Int) + 3 + (C.size : Int) + 3 + (D.size : Int) + 3) := by omega
    have y7 : ¬ (9223372036854775807 < A.size + 3 + B.size + 3 + C.size + 3 + D.size + 3 + A.size) := by omega
    have x7 : ¬ (9223372036854775807 < (A.size : Int) + 3 + (B.size : Int) + 3 + (C.size : Int) + 3 + (D.size : Int) + 3 + (A.size : Int)) := by omega
    have y8 : ¬ (9223372036854775807 < A.size + 3 + B.size + 3 + C.size + 3 + D.size + 3 + A.size + 3) := by omega
    have x8 : ¬ (9223372036854775807 < (A.size : Int) + 3 + (B.size : Int) + 3 + (C.size : Int) + 3 + (D.size : Int) + 3 + (A.size : Int) + 3) := by omega
    have y9 : ¬ (9223372036854775807 < A.size + 3 + B.size + 3 + C.size + 3 + D.size + 3 + A.size + 3 + B.size) := by omega
    have x9 : ¬ (9223372036854775807 < (A.size : Int) + 3 + (B.size : Int) + 3 + (C.size : Int) + 3 + (D.size : Int) + 3 + (A.size : Int) + 3 + (B.size : Int)) := by omega
    have y10 : ¬ (9223372036854775807 < 4 + A.size) := by omega
    have x10 : ¬ (9223372036854775807 < (4 : Int) + (A.size : Int)) := by omega
    have y11 : ¬ (9223372036854775807 < 4 + A.size + 3) := by omega
    have x11 : ¬ (9223372036854775807 < (4 : Int) + (A.size : Int) + 3) := by omega
    have y12 : ¬ (9223372036854775807 < 4 + A.size + 3 + B.size) := by omega
    have x12 : ¬ (9223372036854775807 < (4 : Int) + (A.size : Int) + 3 + (B.size : Int)) := by omega
    have y13 : ¬ (9223372036854775807 < 4 + A.size + 3 + B.size + 5) := by omega
    have x13 : ¬ (9223372036854775807 < (4 : Int) + (A.size : Int) + 3 + (B.size : Int) + 5) := by omega
    have y14 : ¬ (9223372036854775807 < 4 + A.size + 3 + B.size + 5 + C.size) := by omega
    have x14 : ¬ (9223372036854775807 < (4 : Int) + (A.size : Int) + 3 + (B.size : Int) + 5 + (C.size : Int)) := by omega
    have y15 : ¬ (9223372036854775807 < 4 + A.size + 3 + B.size + 5 + C.size + 4) := by omega
    have x15 : ¬ (9223372036854775807 < (4 : Int) + (A.size : Int) + 3 + (B.size : Int) + 5 + (C.size : Int) + 4) := by omega
    have y16 : ¬ (9223372036854775807 < 4 + A.size + 3 + B.size + 5 + C.size + 4 + D.size) := by omega
    have x16 : ¬ (9223372036854775807 < (4 : Int) + (A.size : Int) + 3 + (B.size : Int) + 5 + (C.size : Int) + 4 + (D.size : Int)) := by omega
    have y17 : ¬ (9223372036854775807 < 4 + A.size + 3 + B.size + 5 + C.size + 4 + D.size + 13) := by omega
    have x17 : ¬ (9223372036854775807 < (4 : Int) + (A.size : Int) + 3 + (B.size : Int) + 5 + (C.size : Int) + 4 + (D.size : Int) + 13) := by omega
    have y18 : ¬ (9223372036854775807 < 4 + A.size + 3 + B.size + 5 + C.size + 4 + D.size + 13 + A.size) := by omega
    have x18 : ¬ (9223372036854775807 < (4 : Int) + (A.size : Int) + 3 + (B.size : Int) + 5 + (C.size : Int) + 4 + (D.size : Int) + 13 + (A.size : Int)) := by omega
    have y19 : ¬ (9223372036854775807 < A.size + 3) := by omega
    have x19 : ¬ (9223372036854775807 < (A.size : Int) + 3) := by omega
    have y20 : ¬ (9223372036854775807 < A.size + 3 + B.size) := by omega
    have x20 : ¬ (9223372036854775807 < (A.size : Int) + 3 + (B.size : Int)) := by omega
    have y21 : ¬ (9223372036854775807 < A.size + 3 + B.size + 3) := by omega
    have x21 : ¬ (9223372036854775807 < (A.size : Int) + 3 + (B.size : Int) + 3) := by omega
    have y22 : ¬ (9223372036854775807 < A.size + 3 + B.size + 3 + C.size) := by omega
    have x22 : ¬ (9223372036854775807 < (A.size : Int) + 3 + (B.size : Int) + 3 + (C.size : Int)) := by omega
    have y23 : ¬ (9223372036854775807 < A.size + 3 + B.size + 3 + C.size + 3) := by omega
    have x23 : ¬ (9223372036854775807 < (A.size : Int) + 3 + (B.size : Int) + 3 + (C.size : Int) + 3) := by omega
    have y24 : ¬ (9223372036854775807 < A.size + 3 + B.size + 3 + C.size + 3 + D.size) := by omega
    have x24 : ¬ (9223372036854775807 < (A.size : Int) + 3 + (B.size : Int) + 3 + (C.size : Int) + 3 + (D.size : Int)) := by omega
    have y25 : ¬ (9223372036854775807 < A.size + 3) := by omega
    have x25 : ¬ (9223372036854775807 < (A.size : Int) + 3) := by omega
    have y26 : ¬ (9223372036854775807 < A.size + 3 + B.size) := by omega
    have x26 : ¬ (9223372036854775807 < (A.size : Int) + 3 + (B.size : Int)) := by omega
    have y27 : ¬ (9223372036854775807 < A.size + 3 + B.size + 3) := by omega
    have x27 : ¬ (9223372036854775807 < (A.size : Int) + 3 + (B.size : Int) + 3) := by omega
    have y28 : ¬ (9223372036854775807 < A.size + 3 + B.size + 3 + C.size) := by omega
    have x28 : ¬ (9223372036854775807 < (A.size : Int) + 3 + (B.size : Int) + 3 + (C.size : Int)) := by omega
    have y29 : ¬ (9223372036854775807 < A.size + 3 + B.size + 3 + C.size + 4) := by omega
    have x29 : ¬ (9223372036854775807 < (A.size : Int) + 3 + (B.size : Int) + 3 + (C.size : Int) + 4) := by omega
    have y30 : ¬ (9223372036854775807 < A.size + 3 + B.size + 3 + C.size + 4 + D.size) := by omega
    have x30 : ¬ (9223372036854775807 < (A.size : Int) + 3 + (B.size : Int) + 3 + (C.size : Int) + 4 + (D.size : Int)) := by omega
    have y31 : ¬ (9223372036854775807 < A.size + 3 + B.size + 3 + C.size + 4 + D.size + 4) := by omega
    have x31 : ¬ (9223372036854775807 < (A.size : Int) + 3 + (B.size : Int) + 3 + (C.size : Int) + 4 + (D.size : Int) + 4) := by omega
    have y32 : ¬ (9223372036854775807 < A.size + 3 + B.size + 3 + C.size + 4 + D.size + 4 + A.size) := by omega
    have x32 : ¬ (9223372036854775807 < (A.size : Int) + 3 + (B.size : Int) + 3 + (C.size : Int) + 4 + (D.size : Int) + 4 + (A.size : Int)) := by omega
    have y33 : ¬ (9223372036854775807 < 3 + A.size) := by omega
    have x33 : ¬ (9223372036854775807 < (3 : Int) + (A.size : Int)) := by omega
    have y34 : ¬ (9223372036854775807 < 3 + A.size + 6) := by omega
    have x34 : ¬ (9223372036854775807 < (3 : Int) + (A.size : Int) + 6) := by omega
    have y35 : ¬ (9223372036854775807 < 3 + A.size + 6 + B.size) := by omega
    have x35 : ¬ (9223372036854775807 < (3 : Int) + (A.size : Int) + 6 + (B.size : Int)) := by omega
    have y36 : ¬ (9223372036854775807 < 3 + A.size + 6 + B.size + 9) := by omega
    have x36 : ¬ (9223372036854775807 < (3 : Int) + (A.size : Int) + 6 + (B.size : Int) + 9) := by omega
    have y37 : ¬ (9223372036854775807 < 3 + A.size + 6 + B.size + 9 + C.size) := by omega
    have x37 : ¬ (9223372036854775807 < (3 : Int) + (A.size : Int) + 6 + (B.size : Int) + 9 + (C.size : Int)) := by omega
    have y38 : ¬ (9223372036854775807 < 3 + A.size + 6 + B.size + 9 + C.size + 6) := by omega
    have x38 : ¬ (9223372036854775807 < (3 : Int) + (A.size : Int) + 6 + (B.size : Int) + 9 + (C.size : Int) + 6) := by omega
    have y39 : ¬ (9223372036854775807 < 3 + A.size + 6 + B.size + 9 + C.size + 6 + D.size) := by omega
    have x39 : ¬ (9223372036854775807 < (3 : Int) + (A.size : Int) + 6 + (B.size : Int) + 9 + (C.size : Int) + 6 + (D.size : Int)) := by omega
    have y40 : ¬ (9223372036854775807 < 3 + A.size + 6 + B.size + 9 + C.size + 6 + D.size + 6) := by omega
    have x40 : ¬ (9223372036854775807 < (3 : Int) + (A.size : Int) + 6 + (B.size : Int) + 9 + (C.size : Int) + 6 + (D.size : Int) + 6) := by omega
    have y41 : ¬ (9223372036854775807 < 3 + A.size + 6 + B.size + 9 + C.size + 6 + D.size + 6 + A.size) := by omega
    have x41 : ¬ (9223372036854775807 < (3 : Int) + (A.size : Int) + 6 + (B.size : Int) + 9 + (C.size : Int) + 6 + (D.size : Int) + 6 + (A.size : Int)) := by omega
    have y42 : ¬ (9223372036854775807 < 3 + A.size + 6 + B.size + 9 + C.size + 6 + D.size + 6 + A.size + 3) := by omega
    have x42 : ¬ (9223372036854775807 < (3 : Int) + (A.size : Int) + 6 + (B.size : Int) + 9 + (C.size : Int) + 6 + (D.size : Int) + 6 + (A.size : Int) + 3) := by omega
    have y43 : ¬ (9223372036854775807 < 3 + A.size + 6 + B.size + 9 + C.size + 6 + D.size + 6 + A.size + 3 + B.size) := by omega
    have x43 : ¬ (9223372036854775807 < (3 : Int) + (A.size : Int) + 6 + (B.size : Int) + 9 + (C.size : Int) + 6 + (D.size : Int) + 6 + (A.size : Int) + 3 + (B.size : Int)) := by omega
    clear zA zB zC zD
    go_wp2_with fail
    refine (hp _ hb).mono ?_
    rintro e up ⟨adp, capp, rfl, Tp, hx⟩
    first | (have hq := hx; with_reducible replace oa := oa.below hq) | (have hq := (bAq hx); with_reducible replace oa := oa.below hq) | (have hq := (bAq (bDq hx)); with_reducible replace oa := oa.below hq) | (have hq := (bAq (bAq hx)); with_reducible replace oa := oa.below hq) | (have hq := (bAq (bAq (bDq hx))); with_reducible replace oa := oa.below hq) | (have hq := (bDq hx); with_reducible replace oa := oa.below hq)
    replace ob := ob.below hq
    replace oc := oc.below hq
    replace od := od.below hq
    replace Ta := Ta.below hq
    replace Tb := Tb.below hq
    replace Tc := Tc.below hq
    replace Td := Td.below hq
    replace hb := hb.trans (hq.mono hb.size)
    clear hq
    clear hx
    have oxp := Own.new up #[.int .i64 xp.o, .int .i64 xp.n, .slice adp xp.ks.length capp] 24
    clear hp
    replace oa := oa.below (alB up (.cells #[.int .i64 xp.o, .int .i64 xp.n, .slice adp xp.ks.length capp] 24))
    replace ob := ob.below (alB up (.cells #[.int .i64 xp.o, .int .i64 xp.n, .slice adp xp.ks.length capp] 24))
    replace oc := oc.below (alB up (.cells #[.int .i64 xp.o, .int .i64 xp.n, .slice adp xp.ks.length capp] 24))
    replace od := od.below (alB up (.cells #[.int .i64 xp.o, .int .i64 xp.n, .slice adp xp.ks.length capp] 24))
    replace Ta := Ta.below (alB up (.cells #[.int .i64 xp.o, .int .i64 xp.n, .slice adp xp.ks.length capp] 24))
    replace Tb := Tb.below (alB up (.cells #[.int .i64 xp.o, .int .i64 xp.n, .slice adp xp.ks.length capp] 24))
    replace Tc := Tc.below (alB up (.cells #[.int .i64 xp.o, .int .i64 xp.n, .slice adp xp.ks.length capp] 24))
    replace Td := Td.below (alB up (.cells #[.int .i64 xp.o, .int .i64 xp.n, .slice adp xp.ks.length capp] 24))
    replace Tp := Tp.below (alB up (.cells #[.int .i64 xp.o, .int .i64 xp.n, .slice adp xp.ks.length capp] 24))
    replace hb := balloc hb (.cells #[.int .i64 xp.o, .int .i64 xp.n, .slice adp xp.ks.length capp] 24)
    go_wp2_with fail
    refine (hq _ hb).mono ?_
    rintro e uq ⟨adq, capq, rfl, Tq, hx⟩
    first | (have hq := hx; with_reducible replace oa := oa.below hq) | (have hq := (bAq hx); with_reducible replace oa := oa.below hq) | (have hq := (bAq (bDq hx)); with_reducible replace oa := oa.below hq) | (have hq := (bAq (bAq hx)); with_reducible replace oa := oa.below hq) | (have hq := (bAq (bAq (bDq hx))); with_reducible replace oa := oa.below hq) | (have hq := (bDq hx); with_reducible replace oa := oa.below hq)
    replace ob := ob.below hq
    replace oc := oc.below hq
    replace od := od.below hq
    replace Ta := Ta.below hq
    replace Tb := Tb.below hq
    replace Tc := Tc.below hq
    replace Td := Td.below hq
    replace Tp := Tp.below hq
    replace oxp := oxp.below hq
    replace hb := hb.trans (hq.mono hb.size)
    clear hq
    clear hx
    have oxq := Own.new uq #[.int .i64 xq.o, .int .i64 xq.n, .slice adq xq.ks.length capq] 24
    clear hq
    replace oa := oa.below (alB uq (.cells #[.int .i64 xq.o, .int .i64 xq.n, .slice adq xq.ks.length capq] 24))
    replace ob := ob.below (alB uq (.cells #[.int .i64 xq.o, .int .i64 xq.n, .slice adq xq.ks.length capq] 24))
    replace oc := oc.below (alB uq (.cells #[.int .i64 xq.o, .int .i64 xq.n, .slice adq xq.ks.length capq] 24))
    replace od := od.below (alB uq (.cells #[.int .i64 xq.o, .int .i64 xq.n, .slice adq xq.ks.length capq] 24))
    replace Ta := Ta.below (alB uq (.cells #[.int .i64 xq.o, .int .i64 xq.n, .slice adq xq.ks.length capq] 24))
    replace Tb := Tb.below (alB uq (.cells #[.int .i64 xq.o, .int .i64 xq.n, .slice adq xq.ks.length capq] 24))
    replace Tc := Tc.below (alB uq (.cells #[.int .i64 xq.o, .int .i64 xq.n, .slice adq xq.ks.length capq] 24))
    replace Td := Td.below (alB uq (.cells #[.int .i64 xq.o, .int .i64 xq.n, .slice adq xq.ks.length capq] 24))
    replace Tp := Tp.below (alB uq (.cells #[.int .i64 xq.o, .int .i64 xq.n, .slice adq xq.ks.length capq] 24))
    replace oxp := oxp.below (alB uq (.cells #[.int .i64 xq.o, .int .i64 xq.n, .slice adq xq.ks.length capq] 24))
    replace Tq := Tq.below (alB uq (.cells #[.int .i64 xq.o, .int .i64 xq.n, .slice adq xq.ks.length capq] 24))
    replace hb := balloc hb (.cells #[.int .i64 xq.o, .int .i64 xq.n, .slice adq xq.ks.length capq] 24)
    go_wp2_with fail
    refine (hr _ hb).mono ?_
    rintro e ur ⟨adr, capr, rfl, Tr, hx⟩
    first | (have hq := hx; with_reducible replace oa := oa.below hq) | (have hq := (bAq hx); with_reducible replace oa := oa.below hq) | (have hq := (bAq (bDq hx)); with_reducible replace oa := oa.below hq) | (have hq := (bAq (bAq hx)); with_reducible replace oa := oa.below hq) | (have hq := (bAq (bAq (bDq hx))); with_reducible replace oa := oa.below hq) | (have hq := (bDq hx); with_reducible replace oa := oa.below hq)
    replace ob := ob.below hq
    replace oc := oc.below hq
    replace od := od.below hq
    replace Ta := Ta.below hq
    replace Tb := Tb.below hq
    replace Tc := Tc.below hq
    replace Td := Td.below hq
    replace Tp := Tp.below hq
    replace oxp := oxp.below hq
    replace Tq := Tq.below hq
    replace oxq := oxq.below hq
    replace hb := hb.trans (hq.mono hb.size)
    clear hq
    clear hx
    have oxr := Own.new ur #[.int .i64 xr.o, .int .i64 xr.n, .slice adr xr.ks.length capr] 24
    clear hr
    replace oa := oa.below (alB ur (.cells #[.int .i64 xr.o, .int .i64 xr.n, .slice adr xr.ks.length capr] 24))
    replace ob := ob.below (alB ur (.cells #[.int .i64 xr.o, .int .i64 xr.n, .slice adr xr.ks.length capr] 24))
    replace oc := oc.below (alB ur (.cells #[.int .i64 xr.o, .int .i64 xr.n, .slice adr xr.ks.length capr] 24))
    replace od := od.below (alB ur (.cells #[.int .i64 xr.o, .int .i64 xr.n, .slice adr xr.ks.length capr] 24))
    replace Ta := Ta.below (alB ur (.cells #[.int .i64 xr.o, .int .i64 xr.n, .slice adr xr.ks.length capr] 24))
    replace Tb := Tb.below (alB ur (.cells #[.int .i64 xr.o, .int .i64 xr.n, .slice adr xr.ks.length capr] 24))
    replace Tc := Tc.below (alB ur (.cells #[.int .i64 xr.o, .int .i64 xr.n, .slice adr xr.ks.length capr] 24))
    replace Td := Td.below (alB ur (.cells #[.int .i64 xr.o, .int .i64 xr.n, .slice adr xr.ks.length capr] 24))
    replace Tp := Tp.below (alB ur (.cells #[.int .i64 xr.o, .int .i64 xr.n, .slice adr xr.ks.length capr] 24))
    replace oxp := oxp.below (alB ur (.cells #[.int .i64 xr.o, .int .i64 xr.n, .slice adr xr.ks.length capr] 24))
    replace Tq := Tq.below (alB ur (.cells #[.int .i64 xr.o, .int .i64 xr.n, .slice adr xr.ks.length capr] 24))
    replace oxq := oxq.below (alB ur (.cells #[.int .i64 xr.o, .int .i64 xr.n, .slice adr xr.ks.length capr] 24))
    replace Tr := Tr.below (alB ur (.cells #[.int .i64 xr.o, .int .i64 xr.n, .slice adr xr.ks.length capr] 24))
    replace hb := balloc hb (.cells #[.int .i64 xr.o, .int .i64 xr.n, .slice adr xr.ks.length capr] 24)
    go_wp2_with fail
    refine (hs _ hb).mono ?_
    rintro e us ⟨ads, caps, rfl, Ts, hx⟩
    first | (have hq := hx; with_reducible replace oa := oa.below hq) | (have hq := (bAq hx); with_reducible replace oa := oa.below hq) | (have hq := (bAq (bDq hx)); with_reducible replace oa := oa.below hq) | (have hq := (bAq (bAq hx)); with_reducible replace oa := oa.below hq) | (have hq := (bAq (bAq (bDq hx))); with_reducible replace oa := oa.below hq) | (have hq := (bDq hx); with_reducible replace oa := oa.below hq)
    replace ob := ob.below hq
    replace oc := oc.below hq
    replace od := od.below hq
    replace Ta := Ta.below hq
    replace Tb := Tb.below hq
    replace Tc := Tc.below hq
    replace Td := Td.below hq
    replace Tp := Tp.below hq
    replace oxp := oxp.below hq
    replace Tq := Tq.below hq
    replace oxq := oxq.below hq
    replace Tr := Tr.below hq
    replace oxr := oxr.below hq
    replace hb := hb.trans (hq.mono hb.size)
    clear hq
    clear hx
    have oxs := Own.new us #[.int .i64 xs.o, .int .i64 xs.n, .slice ads xs.ks.length caps] 24
    clear hs
    replace oa := oa.below (alB us (.cells #[.int .i64 xs.o, .int .i64 xs.n, .slice ads xs.ks.length caps] 24))
    replace ob := ob.below (alB us (.cells #[.int .i64 xs.o, .int .i64 xs.n, .slice ads xs.ks.length caps] 24))
    replace oc := oc.below (alB us (.cells #[.int .i64 xs.o, .int .i64 xs.n, .slice ads xs.ks.length caps] 24))
    replace od := od.below (alB us (.cells #[.int .i64 xs.o, .int .i64 xs.n, .slice ads xs.ks.length caps] 24))
    replace Ta := Ta.below (alB us (.cells #[.int .i64 xs.o, .int .i64 xs.n, .slice ads xs.ks.length caps] 24))
    replace Tb := Tb.below (alB us (.cells #[.int .i64 xs.o, .int .i64 xs.n, .slice ads xs.ks.length caps] 24))
    replace Tc := Tc.below (alB us (.cells #[.int .i64 xs.o, .int .i64 xs.n, .slice ads xs.ks.length caps] 24))
    replace Td := Td.below (alB us (.cells #[.int .i64 xs.o, .int .i64 xs.n, .slice ads xs.ks.length caps] 24))
    replace Tp := Tp.below (alB us (.cells #[.int .i64 xs.o, .int .i64 xs.n, .slice ads xs.ks.length caps] 24))
    replace oxp := oxp.below (alB us (.cells #[.int .i64 xs.o, .int .i64 xs.n, .slice ads xs.ks.length caps] 24))
    replace Tq := Tq.below (alB us (.cells #[.int .i64 xs.o, .int .i64 xs.n, .slice ads xs.ks.length caps] 24))
    replace oxq := oxq.below (alB us (.cells #[.int .i64 xs.o, .int .i64 xs.n, .slice ads xs.ks.length caps] 24))
    replace Tr := Tr.below (alB us (.cells #[.int .i64 xs.o, .int .i64 xs.n, .slice ads xs.ks.length caps] 24))
    replace oxr := oxr.below (alB us (.cells #[.int .i64 xs.o, .int .i64 xs.n, .slice ads xs.ks.length caps] 24))
    replace Ts := Ts.below (alB us (.cells #[.int .i64 xs.o, .int .i64 xs.n, .slice ads xs.ks.length caps] 24))
    replace hb := balloc hb (.cells #[.int .i64 xs.o, .int .i64 xs.n, .slice ads xs.ks.length caps] 24)
    go_wp2_with fail
    refine (ht _ hb).mono ?_
    rintro e ut ⟨adt, capt, rfl, Tt, hx⟩
    first | (have hq := hx; with_reducible replace oa := oa.below hq) | (have hq := (bAq hx); with_reducible replace oa := oa.below hq) | (have hq := (bAq (bDq hx)); with_reducible replace oa := oa.below hq) | (have hq := (bAq (bAq hx)); with_reducible replace oa := oa.below hq) | (have hq := (bAq (bAq (bDq hx))); with_reducible replace oa := oa.below hq) | (have hq := (bDq hx); with_reducible replace oa := oa.below hq)
    replace ob := ob.below hq
    replace oc := oc.below hq
    replace od := od.below hq
    replace Ta := Ta.below hq
    replace Tb := Tb.below hq
    replace Tc := Tc.below hq
    replace Td := Td.below hq
    replace Tp := Tp.below hq
    replace oxp := oxp.below hq
    replace Tq := Tq.below hq
    replace oxq := oxq.below hq
    replace Tr := Tr.below hq
    replace oxr := oxr.below hq
    replace Ts := Ts.below hq
    replace oxs := oxs.below hq
    replace hb := hb.trans (hq.mono hb.size)
    clear hq
    clear hx
    have oxt := Own.new ut #[.int .i64 xt.o, .int .i64 xt.n, .slice adt xt.ks.length capt] 24
    clear ht
    replace oa := oa.below (alB ut (.cells #[.int .i64 xt.o, .int .i64 xt.n, .slice adt xt.ks.length capt] 24))
    replace ob := ob.below (alB ut (.cells #[.int .i64 xt.o, .int .i64 xt.n, .slice adt xt.ks.length capt] 24))
    replace oc := oc.below (alB ut (.cells #[.int .i64 xt.o, .int .i64 xt.n, .slice adt xt.ks.length capt] 24))
    replace od := od.below (alB ut (.cells #[.int .i64 xt.o, .int .i64 xt.n, .slice adt xt.ks.length capt] 24))
    replace Ta := Ta.below (alB ut (.cells #[.int .i64 xt.o, .int .i64 xt.n, .slice adt xt.ks.length capt] 24))
    replace Tb := Tb.below (alB ut (.cells #[.int .i64 xt.o, .int .i64 xt.n, .slice adt xt.ks.length capt] 24))
    replace Tc := Tc.below (alB ut (.cells #[.int .i64 xt.o, .int .i64 xt.n, .slice adt xt.ks.length capt] 24))
    replace Td := Td.below (alB ut (.cells #[.int .i64 xt.o, .int .i64 xt.n, .slice adt xt.ks.length capt] 24))
    replace Tp := Tp.below (alB ut (.cells #[.int .i64 xt.o, .int .i64 xt.n, .slice adt xt.ks.length capt] 24))
    replace oxp := oxp.below (alB ut (.cells #[.int .i64 xt.o, .int .i64 xt.n, .slice adt xt.ks.length capt] 24))
    replace Tq := Tq.below (alB ut (.cells #[.int .i64 xt.o, .int .i64 xt.n, .slice adt xt.ks.length capt] 24))
    replace oxq := oxq.below (alB ut (.cells #[.int .i64 xt.o, .int .i64 xt.n, .slice adt xt.ks.length capt] 24))
    replace Tr := Tr.below (alB ut (.cells #[.int .i64 xt.o, .int .i64 xt.n, .slice adt xt.ks.length capt] 24))
    replace oxr := oxr.below (alB ut (.cells #[.int .i64 xt.o, .int .i64 xt.n, .slice adt xt.ks.length capt] 24))
    replace Ts := Ts.below (alB ut (.cells #[.int .i64 xt.o, .int .i64 xt.n, .slice adt xt.ks.length capt] 24))
    replace oxs := oxs.below (alB ut (.cells #[.int .i64 xt.o, .int .i64 xt.n, .slice adt xt.ks.length capt] 24))
    replace Tt := Tt.below (alB ut (.cells #[.int .i64 xt.o, .int .i64 xt.n, .slice adt xt.ks.length capt] 24))
    replace hb := balloc hb (.cells #[.int .i64 xt.o, .int .i64 xt.n, .slice adt xt.ks.length capt] 24)
    clear y0 x0 y1 x1 y2 x2 y3 x3 y4 x4 y5 x5 y6 x6 y7 x7 y8 x8 y9 x9 y10 x10 y11 x11 y12 x12 y13 x13 y14 x14 y15 x15 y16 x16 y17 x17 y18 x18 y19 x19 y20 x20 y21 x21 y22 x22 y23 x23 y24 x24 y25 x25 y26 x26 y27 x27 y28 x28 y29 x29 y30 x30 y31 x31 y32 x32 y33 x33 y34 x34 y35 x35 y36 x36 y37 x37 y38 x38 y39 x39 y40 x40 y41 x41 y42 x42 y43 x43
    go_upto_region 11 with (fail)
    go_cut [9] (fun s9 wx => s9 = .bool true ∧ Below (ut.alloc (.cells #[.int .i64 xt.o, .int .i64 xt.n, .slice adt xt.ks.length capt] 24)).heap.size (ut.alloc (.cells #[.int .i64 xt.o, .int .i64 xt.n, .slice adt xt.ks.length capt] 24)) wx)
    case first =>
      refine reg_p _ (by kernel_rfl) _ _ _ _ _ _ _ _ _ _ _ _ _ _ _ _ _ _ _ _ _ _ _ _ _ _ _ _ _ _ _ _ _ _ _ _ _ _ _ _ _ _ _ _ _ _ _ _ _ _ _ _ _ _ _ _ _ _ _ _ _ _ _ _ _ _ _ _ _ _ _ _ _ _ _ _ _ _ _ _ _ _ _ _ _ _ _ _ _ _ _ _ _ _ _ _ _ _ _ _ _ _ _ _ _ _ _ _ _ _ _ _ _ _ _ _ _ _ _ _ _ _ _ _ _ _ _ _ _ _ _ _ _ _ _ _ _ _ _ _ _ _ _ _ _ _ _ _ _ _ _ _ _ _ _ _ _ _ _ _ _ _ _ _ _ _ _ _ _ _ _ _ _ _ _ _ _ _ _ _ _ _ _ _ _ _ _ _ _ _ _ _ _ _ _ _ _ _ _ _ _ _ _ _ _ _ _ _ _ _ _ _ _ _ _ _ _ _ _ _ _ _ _ _ _ _ _ _ _ _ _ _ _ _ _ _ _ _ _ _ _ _ _ oa ob oc od oxp Ta Tb Tc Td Tp Qp ?_
      intro s152 s153 s154 s155 s156 s157 s158 s159 s160 s161 s162 s163 s164 s165 s166 s167 s168 s169 s170 s171 s172 w2 hz
      go_wp2_with fail
      go_meet
      exact ⟨rfl, hz⟩
    case rest =>
      obtain ⟨rfl, hx⟩ := hcut
      rename World => wcp
      first | (have hq := hx; with_reducible replace oa := oa.below hq) | (have hq := (bAq hx); with_reducible replace oa := oa.below hq) | (have hq := (bAq (bDq hx)); with_reducible replace oa := oa.below hq) | (have hq := (bAq (bAq hx)); with_reducible replace oa := oa.below hq) | (have hq := (bAq (bAq (bDq hx))); with_reducible replace oa := oa.below hq) | (have hq := (bDq hx); with_reducible replace oa := oa.below hq)
      replace ob := ob.below hq
      replace oc := oc.below hq
      replace od := od.below hq
      replace Ta := Ta.below hq
      replace Tb := Tb.below hq
      replace Tc := Tc.below hq
      replace Td := Td.below hq
      replace Tp := Tp.below hq
      replace oxp := oxp.below hq
      replace Tq := Tq.below hq
      replace oxq := oxq.below hq
      replace Tr := Tr.below hq
      replace oxr := oxr.below hq
      replace Ts := Ts.below hq
      replace oxs := oxs.below hq
      replace Tt := Tt.below hq
      replace oxt := oxt.below hq
      replace hb := hb.trans (hq.mono hb.size)
      clear hq
      clear hx
      go_upto_region 12 with (fail)
      go_cut [9] (fun s9 wx => s9 = .bool true ∧ Below wcp.heap.size wcp wx)
      case first =>
        refine reg_q _ (by kernel_rfl) _ _ _ _ _ _ _ _ _ _ _ _ _ _ _ _ _ _ _ _ _ _ _ _ _ _ _ _ _ _ _ _ _ _ _ _ _ _ _ _ _ _ _ _ _ _ _ _ _ _ _ _ _ _ _ _ _ _ _ _ _ _ _ _ _ _ _ _ _ _ _ _ _ _ _ _ _ _ _ _ _ _ _ _ _ _ _ _ _ _ _ _ _ _ _ _ _ _ _ _ _ _ _ _ _ _ _ _ _ _ _ _ _ _ _ _ _ _ _ _ _ _ _ _ _ _ _ _ _ _ _ _ _ _ _ _ _ _ _ _ _ _ _ _ _ _ _ _ _ _ _ _ _ _ _ _ _ _ _ _ _ _ _ _ _ _ _ _ _ _ _ _ _ _ _ _ _ _ _ _ _ _ _ _ _ _ _ _ _ _ _ _ _ _ _ _ _ _ _ _ _ _ _ _ _ _ _ _ _ _ _ _ _ _ _ _ _ _ _ _ _ _ _ _ _ _ _ _ _ _ _ _ _ _ _ _ _ _ _ _ _ _ _ oa ob oc od oxq Ta Tb Tc Td Tq Qq ?_
        intro s173 s174 s175 s176 s177 s178 s179 s180 s181 s182 s183 s184 s185 s186 s187 s188 s189 s190 s191 s192 s193 s194 s195 s196 w2 hz
        go_wp2_with fail
        go_meet
        exact ⟨rfl, hz⟩
      case rest =>
        obtain ⟨rfl, hx⟩ := hcut
        rename World => wcq
        first | (have hq := hx; with_reducible replace oa := oa.below hq) | (have hq := (bAq hx); with_reducible replace oa := oa.below hq) | (have hq := (bAq (bDq hx)); with_reducible replace oa := oa.below hq) | (have hq := (bAq (bAq hx)); with_reducible replace oa := oa.below hq) | (have hq := (bAq (bAq (bDq hx))); with_reducible replace oa := oa.below hq) | (have hq := (bDq hx); with_reducible replace oa := oa.below hq)
        replace ob := ob.below hq
        replace oc := oc.below hq
        replace od := od.below hq
        replace Ta := Ta.below hq
        replace Tb := Tb.below hq
        replace Tc := Tc.below hq
        replace Td := Td.below hq
        replace Tp := Tp.below hq
        replace oxp := oxp.below hq
        replace Tq := Tq.below hq
        replace oxq := oxq.below hq
        replace Tr := Tr.below hq
        replace oxr := oxr.below hq
        replace Ts := Ts.below hq
        replace oxs := oxs.below hq
        replace Tt := Tt.below hq
        replace oxt := oxt.below hq
        replace hb := hb.trans (hq.mono hb.size)
        clear hq
        clear hx
        go_upto_region 13 with (fail)
        go_cut [9] (fun s9 wx => s9 = .bool true ∧ Below wcq.heap.size wcq wx)
        case first =>
          refine reg_r _ (by kernel_rfl) _ _ _ _ _ _ _ _ _ _ _ _ _ _ _ _ _ _ _ _ _ _ _ _ _ _ _ _ _ _ _ _ _ _ _ _ _ _ _ _ _ _ _ _ _ _ _ _ _ _ _ _ _ _ _ _ _ _ _ _ _ _ _ _ _ _ _ _ _ _ _ _ _ _ _ _ _ _ _ _ _ _ _ _ _ _ _ _ _ _ _ _ _ _ _ _ _ _ _ _ _ _ _ _ _ _ _ _ _ _ _ _ _ _ _ _ _ _ _ _ _ _ _ _ _ _ _ _ _ _ _ _ _ _ _ _ _ _ _ _ _ _ _ _ _ _ _ _ _ _ _ _ _ _ _ _ _ _ _ _ _ _ _ _ _ _ _ _ _ _ _ _ _ _ _ _ _ _ _ _ _ _ _ _ _ _ _ _ _ _ _ _ _ _ _ _ _ _ _ _ _ _ _ _ _ _ _ _ _ _ _ _ _ _ _ _ _ _ _ _ _ _ _ _ _ _ _ _ _ _ _ _ _ _ _ _ _ _ _ _ _ _ _ oa ob oc od oxr Ta Tb Tc Td Tr Qr ?_
          intro s197 s198 s199 s200 s201 s202 s203 s204 s205 s206 s207 s208 s209 s210 s211 w2 hz
          go_wp2_with fail
          go_meet
          exact ⟨rfl, hz⟩
        case rest =>
          obtain ⟨rfl, hx⟩ := hcut
          rename World => wcr
          first | (have hq := hx; with_reducible replace oa := oa.below hq) | (have hq := (bAq hx); with_reducible replace oa := oa.below hq) | (have hq := (bAq (bDq hx)); with_reducible replace oa := oa.below hq) | (have hq := (bAq (bAq hx)); with_reducible replace oa := oa.below hq) | (have hq := (bAq (bAq (bDq hx))); with_reducible replace oa := oa.below hq) | (have hq := (bDq hx); with_reducible replace oa := oa.below hq)
          replace ob := ob.below hq
          replace oc := oc.below hq
          replace od := od.below hq
          replace Ta := Ta.below hq
          replace Tb := Tb.below hq
          replace Tc := Tc.below hq
          replace Td := Td.below hq
          replace Tp := Tp.below hq
          replace oxp := oxp.below hq
          replace Tq := Tq.below hq
          replace oxq := oxq.below hq
          replace Tr := Tr.below hq
          replace oxr := oxr.below hq
          replace Ts := Ts.below hq
          replace oxs := oxs.below hq
          replace Tt := Tt.below hq
          replace oxt := oxt.below hq
          replace hb := hb.trans (hq.mono hb.size)
          clear hq
          clear hx
          go_upto_region 14 with (fail)
          go_cut [9] (fun s9 wx => s9 = .bool true ∧ Below wcr.heap.size wcr wx)
          case first =>
            refine reg_s _ (by kernel_rfl) _ _ _ _ _ _ _ _ _ _ _ _ _ _ _ _ _ _ _ _ _ _ _ _ _ _ _ _ _ _ _ _ _ _ _ _ _ _ _ _ _ _ _ _ _ _ _ _ _ _ _ _ _ _ _ _ _ _ _ _ _ _ _ _ _ _ _ _ _ _ _ _ _ _ _ _ _ _ _ _ _ _ _ _ _ _ _ _ _ _ _ _ _ _ _ _ _ _ _ _ _ _ _ _ _ _ _ _ _ _ _ _ _ _ _ _ _ _ _ _ _ _ _ _ _ _ _ _ _ _ _ _ _ _ _ _ _ _ _ _ _ _ _ _ _ _ _ _ _ _ _ _ _ _ _ _ _ _ _ _ _ _ _ _ _ _ _ _ _ _ _ _ _ _ _ _ _ _ _ _ _ _ _ _ _ _ _ _ _ _ _ _ _ _ _ _ _ _ _ _ _ _ _ _ _ _ _ _ _ _ _ _ _ _ _ _ _ _ _ _ _ _ _ _ _ _ _ _ _ _ _ _ _ _ _ _ _ _ _ _ _ _ _ oa ob oc od oxs Ta Tb Tc Td Ts Qs ?_
            intro s212 s213 s214 s215 s216 s217 s218 s219 s220 s221 s222 s223 s224 s225 s226 s227 s228 s229 w2 hz
            go_wp2_with fail
            go_meet
            exact ⟨rfl, hz⟩
          case rest =>
            obtain ⟨rfl, hx⟩ := hcut
            rename World => wcs
            first | (have hq := hx; with_reducible replace oa := oa.below hq) | (have hq := (bAq hx); with_reducible replace oa := oa.below hq) | (have hq := (bAq (bDq hx)); with_reducible replace oa := oa.below hq) | (have hq := (bAq (bAq hx)); with_reducible replace oa := oa.below hq) | (have hq := (bAq (bAq (bDq hx))); with_reducible replace oa := oa.below hq) | (have hq := (bDq hx); with_reducible replace oa := oa.below hq)
            replace ob := ob.below hq
            replace oc := oc.below hq
            replace od := od.below hq
            replace Ta := Ta.below hq
            replace Tb := Tb.below hq
            replace Tc := Tc.below hq
            replace Td := Td.below hq
            replace Tp := Tp.below hq
            replace oxp := oxp.below hq
            replace Tq := Tq.below hq
            replace oxq := oxq.below hq
            replace Tr := Tr.below hq
            replace oxr := oxr.below hq
            replace Ts := Ts.below hq
            replace oxs := oxs.below hq
            replace Tt := Tt.below hq
            replace oxt := oxt.below hq
            replace hb := hb.trans (hq.mono hb.size)
            clear hq
            clear hx
            go_upto_region 15 with (fail)
            refine reg_t _ (by kernel_rfl) _ _ _ _ _ _ _ _ _ _ _ _ _ _ _ _ _ _ _ _ _ _ _ _ _ _ _ _ _ _ _ _ _ _ _ _ _ _ _ _ _ _ _ _ _ _ _ _ _ _ _ _ _ _ _ _ _ _ _ _ _ _ _ _ _ _ _ _ _ _ _ _ _ _ _ _ _ _ _ _ _ _ _ _ _ _ _ _ _ _ _ _ _ _ _ _ _ _ _ _ _ _ _ _ _ _ _ _ _ _ _ _ _ _ _ _ _ _ _ _ _ _ _ _ _ _ _ _ _ _ _ _ _ _ _ _ _ _ _ _ _ _ _ _ _ _ _ _ _ _ _ _ _ _ _ _ _ _ _ _ _ _ _ _ _ _ _ _ _ _ _ _ _ _ _ _ _ _ _ _ _ _ _ _ _ _ _ _ _ _ _ _ _ _ _ _ _ _ _ _ _ _ _ _ _ _ _ _ _ _ _ _ _ _ _ _ _ _ _ _ _ _ _ _ _ _ _ _ _ _ _ _ _ _ _ _ _ _ _ _ _ _ _ oa ob oc od oxt Ta Tb Tc Td Tt Qt ?_
            intro s230 s231 s232 s233 s234 s235 s236 s237 s238 s239 s240 s241 s242 s243 s244 s245 s246 w2 hz
            go_wp2_with fail
            go_ret
            exact Ret.mk rfl (hb.trans (hz.mono hb.size)))
theorem lawC_any (hHd : ∀ w, Lay w → Calls Tryz.prog 6 #[] w (Ret (.bool true) w)) (a b c d : Xp) (va vb vc vd : Value) (w : World) (hL : Lay w) (ha : Tree (fun _ => False) w a va) (hb0 : Tree (fun _ => False) w b vb) (hc : Tree (fun _ => False) w c vc) (hd : Tree (fun _ => False) w d vd) : Calls Tryz.prog 4 #[va, vb, vc, vd] w (Ret (.bool true) w) := by
  cases hs : [a, b, c, d].all smallE with
  | false => exact lawQ_no hHd a b c d va vb vc vd w hL ha hb0 hc hd hs
  | true => exact lawQ_yes hHd a b c d va vb vc vd w hL ha hb0 hc hd hs
end Go.Proofs.YthnlenbfknbmcaaGreatDoor
