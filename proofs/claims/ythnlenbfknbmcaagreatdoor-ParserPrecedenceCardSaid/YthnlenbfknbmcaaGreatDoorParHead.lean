/-
  The head of the laws: the examples of the chapter.
-/
import Derived.Test.YthnlenbfknbmcaaGreatDoorQt
import Derived.Test.YthnlenbfknbmcaaGreatDoorQt
import Derived.Deep.RegionHeld3
namespace Go.Proofs.YthnlenbfknbmcaaGreatDoor
open Go.RowKit Go.Shelf
set_option maxRecDepth 100000

theorem RateV.below {Q : Nat → Prop} {w w' : World} {r : Rt} {c : List Value} (h : RateV Q w r c) (hb : Below w.heap.size w w') : RateV Q w' r c := h.go hb.size fun k hk hq => ⟨hb.block k hk, hq⟩
theorem alB (w : World) (o : Obj) : Below w.heap.size w (w.alloc o) := Below.alloc (Below.refl _ _) (Nat.le_refl _) o
theorem balloc {w w1 : World} (h : Below w.heap.size w w1) (o : Obj) : Below w.heap.size w (w1.alloc o) := h.alloc h.size o
set_option maxHeartbeats 400000 in
theorem lnode_any (o : Int) (ad : Option Addr) (n cap : Nat) (w : World) : Calls Tryz.prog 18 #[.int .i64 o, .slice ad n cap] w (Ret (.agg #[.int .i64 o, .int .i64 0, .slice ad n cap]) w) := by
  go_enter Tryz.func18, Tryz.ntmps18
  go_wp2_with fail
  have ho := Own.new w #[.int .i64 0, .int .i64 0, .slice none 0 0] 24
  refine ret_cells (vs := [.int .i64 o, .int .i64 0, .slice ad n cap]) rfl Tryz.underlying24 rfl (by kernel_rfl) (B := w.heap.size) (by first | exact (((ho.setAt (i := 0) _ (by simp)).setAt (i := 1) _ (by simp)).setAt (i := 2) _ (by simp)) | exact Own.new _ _ _) rfl rfl ?_
  exact Ret.mk rfl (by (repeat (first | exact Below.refl _ _ | assumption | refine Below.drew ?_ | refine below_drewN ?_ _ | refine Below.setCell ?_ (by first | omega | (simp <;> omega)) _ | refine Below.alloc ?_ (by first | omega | (simp <;> omega)) _)))
set_option maxHeartbeats 400000 in
theorem lleaf_any (o n : Int) (w : World) : Calls Tryz.prog 21 #[.int .i64 o, .int .i64 n] w (Ret (exV o n) w) := by
  go_enter Tryz.func21, Tryz.ntmps21
  go_wp2_with fail
  have ho := Own.new w #[.int .i64 0, .int .i64 0, .slice none 0 0] 24
  refine ret_cells (vs := [.int .i64 o, .int .i64 n, .slice none 0 0]) rfl Tryz.underlying24 rfl (by kernel_rfl) (B := w.heap.size) (by first | exact (((ho.setAt (i := 0) _ (by simp)).setAt (i := 1) _ (by simp)).setAt (i := 2) _ (by simp)) | exact Own.new _ _ _) rfl rfl ?_
  exact Ret.mk rfl (by (repeat (first | exact Below.refl _ _ | assumption | refine Below.drew ?_ | refine below_drewN ?_ _ | refine Below.setCell ?_ (by first | omega | (simp <;> omega)) _ | refine Below.alloc ?_ (by first | omega | (simp <;> omega)) _)))
theorem rates1 (w : World) (hL : Lay w) : Calls Tryz.prog 13 #[.string ⟨hs1.toArray⟩] w fun e w' => ∃ v, e = .returned (.tuple #[v, .int .i64 0, .int .i64 0]) ∧ RSl w' v [rtH] ∧ Below w.heap.size w w' :=
  (prates_any hs1 w hL).mono fun e w' ⟨rs, ec, n, v, cells, hp, he, hl, ho, hc, hb⟩ => by
    obtain ⟨h1, rfl, rfl⟩ := hp.det rp1
    have h2 := lists_inj h1
    subst h2
    exact ⟨v, he, rsl_own ho hc (by simp), hb⟩
theorem rates4 (w : World) (hL : Lay w) : Calls Tryz.prog 13 #[.string ⟨hs4.toArray⟩] w fun e w' => ∃ v, e = .returned (.tuple #[v, .int .i64 8, .int .i64 3]) ∧ Below w.heap.size w w' :=
  (prates_any hs4 w hL).mono fun e w' ⟨rs, ec, n, v, cells, hp, he, hl, ho, hc, hb⟩ => by
    obtain ⟨h1, rfl, rfl⟩ := hp.det rp4
    exact ⟨v, he, hb⟩
theorem expr2 (w : World) (hL : Lay w) : Calls Tryz.prog 8 #[.string ⟨hs2.toArray⟩] w fun e w' => ∃ ad cap, e = .returned (.tuple #[.agg #[.int .i64 5, .int .i64 0, .slice ad 2 cap], .int .i64 0]) ∧ Tree (Lo w.heap.size) w' minusE (.agg #[.int .i64 5, .int .i64 0, .slice ad 2 cap]) ∧ Below w.heap.size w w' :=
  (pexpr_any hs2 w hL).mono fun e w' ⟨x, k, tv, hp, he, ht, hb⟩ => by
    obtain ⟨rfl, rfl⟩ := hp.det ep2
    obtain ⟨ad, cap, rfl, -, -⟩ := ht.shape
    exact ⟨ad, cap, he, ht, hb⟩
theorem expr3 (w : World) (hL : Lay w) : Calls Tryz.prog 8 #[.string ⟨hs3.toArray⟩] w fun e w' => ∃ ad cap, e = .returned (.tuple #[.agg #[.int .i64 0, .int .i64 0, .slice ad 0 cap], .int .i64 8]) ∧ Below w.heap.size w w' :=
  (pexpr_any hs3 w hL).mono fun e w' ⟨x, k, tv, hp, he, ht, hb⟩ => by
    obtain ⟨rfl, rfl⟩ := hp.det ep3
    obtain ⟨ad, cap, rfl, -, -⟩ := ht.shape
    exact ⟨ad, cap, he, hb⟩
set_option maxHeartbeats 16000000 in
theorem phead_any (w : World) (hL : Lay w) : Calls Tryz.prog 6 #[] w (Ret (.bool true) w) := by
  have hb : Below w.heap.size w w := Below.refl _ _
  have hR1 := fun w1 (h : Below w.heap.size w w1) => rates1 w1 (hL.below h)
  have hR4 := fun w1 (h : Below w.heap.size w w1) => rates4 w1 (hL.below h)
  have hX2 := fun w1 (h : Below w.heap.size w w1) => expr2 w1 (hL.below h)
  have hX3 := fun w1 (h : Below w.heap.size w w1) => expr3 w1 (hL.below h)
  go_enter Tryz.func6, Tryz.ntmps6
  go_wp2_with fail
  refine (hR1 _ hb).mono ?_
  rintro e w1 ⟨v1, rfl, r1, hx⟩
  replace hb := hb.trans (hx.mono hb.size)
  clear hx
  go_wp2_with fail
  refine (hX2 _ hb).mono ?_
  rintro e w2 ⟨ad2, cap2, rfl, t2, hx⟩
  replace r1 := r1.below hx
  replace hb := hb.trans (hx.mono hb.size)
  clear hx
  have o4 := Own.new w2 #[.int .i64 5, .int .i64 0, .slice ad2 2 cap2] 24
  go_wp2_with fail
  refine (hX3 _ (balloc hb (.cells #[.int .i64 5, .int .i64 0, .slice ad2 2 cap2] 24))).mono ?_
  rintro e w3 ⟨ad3, cap3, rfl, hx⟩
  replace r1 := (r1.below (alB _ (.cells #[.int .i64 5, .int .i64 0, .slice ad2 2 cap2] 24))).below hx
  replace t2 := (t2.below (alB _ (.cells #[.int .i64 5, .int .i64 0, .slice ad2 2 cap2] 24))).below hx
  replace o4 := o4.below hx
  replace hb := (balloc hb (.cells #[.int .i64 5, .int .i64 0, .slice ad2 2 cap2] 24)).trans (hx.mono (balloc hb (.cells #[.int .i64 5, .int .i64 0, .slice ad2 2 cap2] 24)).size)
  clear hx
  go_wp2_with fail
  refine (hR4 _ (balloc hb _)).mono ?_
  rintro e w4 ⟨v4, rfl, hx⟩
  replace r1 := (r1.below (alB _ _)).below hx
  replace t2 := (t2.below (alB _ _)).below hx
  replace o4 := (o4.below (alB _ _)).below hx
  replace hb := (balloc hb _).trans (hx.mono (balloc hb _).size)
  clear hx
  skip
  go_wp2_with fail
  refine (lleaf_any 3 1 _).mono ?_
  rintro e w5 ⟨rfl, hx⟩
  replace r1 := r1.below hx
  replace t2 := t2.below hx
  replace o4 := o4.below hx
  replace hb := hb.trans (hx.mono hb.size)
  clear hx
  unfold exV
  go_wp2_with fail
  refine (lleaf_any 1 5 _).mono ?_
  rintro e w6 ⟨rfl, hx⟩
  replace r1 := r1.below hx
  replace t2 := t2.below hx
  replace o4 := o4.below hx
  replace hb := hb.trans (hx.mono hb.size)
  clear hx
  unfold exV
  have on := Own.new w6 #[.int .i64 3, .int .i64 1, .slice none 0 0, .int .i64 1, .int .i64 5, .slice none 0 0] 24
  go_wp2_with fail
  refine (lnode_any 11 _ 2 2 _).mono ?_
  rintro e w7 ⟨rfl, hx⟩
  replace r1 := (r1.below (alB _ (.cells #[.int .i64 3, .int .i64 1, .slice none 0 0, .int .i64 1, .int .i64 5, .slice none 0 0] 24))).below hx
  replace t2 := (t2.below (alB _ (.cells #[.int .i64 3, .int .i64 1, .slice none 0 0, .int .i64 1, .int .i64 5, .slice none 0 0] 24))).below hx
  replace o4 := (o4.below (alB _ (.cells #[.int .i64 3, .int .i64 1, .slice none 0 0, .int .i64 1, .int .i64 5, .slice none 0 0] 24))).below hx
  replace on := on.below hx
  replace hb := (balloc hb (.cells #[.int .i64 3, .int .i64 1, .slice none 0 0, .int .i64 1, .int .i64 5, .slice none 0 0] 24)).trans (hx.mono (balloc hb (.cells #[.int .i64 3, .int .i64 1, .slice none 0 0, .int .i64 1, .int .i64 5, .slice none 0 0] 24)).size)
  clear hx
  have T11 := tree_two (Q := (fun _ => False)) (o := 11) (x := leafE 3 1) (y := leafE 1 5) (fun h => h) on (tree_leaf _ _ 3 1 none 0) (tree_leaf _ _ 1 5 none 0) 2
  clear on
  have o11 := Own.new w7 #[.int .i64 11, .int .i64 0, .slice (some ⟨w6.heap.size, 0, none⟩) 2 2] 24
  go_wp2_with fail
  refine (lleaf_any 2 10000 _).mono ?_
  rintro e w8 ⟨rfl, hx⟩
  replace r1 := (r1.below (alB _ (.cells #[.int .i64 11, .int .i64 0, .slice (some ⟨w6.heap.size, 0, none⟩) 2 2] 24))).below hx
  replace t2 := (t2.below (alB _ (.cells #[.int .i64 11, .int .i64 0, .slice (some ⟨w6.heap.size, 0, none⟩) 2 2] 24))).below hx
  replace o4 := (o4.below (alB _ (.cells #[.int .i64 11, .int .i64 0, .slice (some ⟨w6.heap.size, 0, none⟩) 2 2] 24))).below hx
  replace T11 := (T11.below (alB _ (.cells #[.int .i64 11, .int .i64 0, .slice (some ⟨w6.heap.size, 0, none⟩) 2 2] 24))).below hx
  replace o11 := o11.below hx
  replace hb := (balloc hb (.cells #[.int .i64 11, .int .i64 0, .slice (some ⟨w6.heap.size, 0, none⟩) 2 2] 24)).trans (hx.mono (balloc hb (.cells #[.int .i64 11, .int .i64 0, .slice (some ⟨w6.heap.size, 0, none⟩) 2 2] 24)).size)
  clear hx
  unfold exV
  go_wp2_with fail
  refine (lleaf_any 2 2000 _).mono ?_
  rintro e w9 ⟨rfl, hx⟩
  replace r1 := r1.below hx
  replace t2 := t2.below hx
  replace o4 := o4.below hx
  replace T11 := T11.below hx
  replace o11 := o11.below hx
  replace hb := hb.trans (hx.mono hb.size)
  clear hx
  unfold exV
  go_wp2_with fail
  refine (lleaf_any 3 2 _).mono ?_
  rintro e wa ⟨rfl, hx⟩
  replace r1 := r1.below hx
  replace t2 := t2.below hx
  replace o4 := o4.below hx
  replace T11 := T11.below hx
  replace o11 := o11.below hx
  replace hb := hb.trans (hx.mono hb.size)
  clear hx
  unfold exV
  have on := Own.new wa #[.int .i64 2, .int .i64 2000, .slice none 0 0, .int .i64 3, .int .i64 2, .slice none 0 0] 24
  go_wp2_with fail
  refine (lnode_any 6 _ 2 2 _).mono ?_
  rintro e wb ⟨rfl, hx⟩
  replace r1 := (r1.below (alB _ (.cells #[.int .i64 2, .int .i64 2000, .slice none 0 0, .int .i64 3, .int .i64 2, .slice none 0 0] 24))).below hx
  replace t2 := (t2.below (alB _ (.cells #[.int .i64 2, .int .i64 2000, .slice none 0 0, .int .i64 3, .int .i64 2, .slice none 0 0] 24))).below hx
  replace o4 := (o4.below (alB _ (.cells #[.int .i64 2, .int .i64 2000, .slice none 0 0, .int .i64 3, .int .i64 2, .slice none 0 0] 24))).below hx
  replace T11 := (T11.below (alB _ (.cells #[.int .i64 2, .int .i64 2000, .slice none 0 0, .int .i64 3, .int .i64 2, .slice none 0 0] 24))).below hx
  replace o11 := (o11.below (alB _ (.cells #[.int .i64 2, .int .i64 2000, .slice none 0 0, .int .i64 3, .int .i64 2, .slice none 0 0] 24))).below hx
  replace on := on.below hx
  replace hb := (balloc hb (.cells #[.int .i64 2, .int .i64 2000, .slice none 0 0, .int .i64 3, .int .i64 2, .slice none 0 0] 24)).trans (hx.mono (balloc hb (.cells #[.int .i64 2, .int .i64 2000, .slice none 0 0, .int .i64 3, .int .i64 2, .slice none 0 0] 24)).size)
  clear hx
  have T6 := tree_two (Q := (fun _ => False)) (o := 6) (x := leafE 2 2000) (y := leafE 3 2) (fun h => h) on (tree_leaf _ _ 2 2000 none 0) (tree_leaf _ _ 3 2 none 0) 2
  clear on
  have on := Own.new wb #[.int .i64 2, .int .i64 10000, .slice none 0 0, .int .i64 6, .int .i64 0, .slice (some ⟨wa.heap.size, 0, none⟩) 2 2] 24
  go_wp2_with fail
  refine (lnode_any 4 _ 2 2 _).mono ?_
  rintro e wc ⟨rfl, hx⟩
  replace r1 := (r1.below (alB _ (.cells #[.int .i64 2, .int .i64 10000, .slice none 0 0, .int .i64 6, .int .i64 0, .slice (some ⟨wa.heap.size, 0, none⟩) 2 2] 24))).below hx
  replace t2 := (t2.below (alB _ (.cells #[.int .i64 2, .int .i64 10000, .slice none 0 0, .int .i64 6, .int .i64 0, .slice (some ⟨wa.heap.size, 0, none⟩) 2 2] 24))).below hx
  replace o4 := (o4.below (alB _ (.cells #[.int .i64 2, .int .i64 10000, .slice none 0 0, .int .i64 6, .int .i64 0, .slice (some ⟨wa.heap.size, 0, none⟩) 2 2] 24))).below hx
  replace T11 := (T11.below (alB _ (.cells #[.int .i64 2, .int .i64 10000, .slice none 0 0, .int .i64 6, .int .i64 0, .slice (some ⟨wa.heap.size, 0, none⟩) 2 2] 24))).below hx
  replace o11 := (o11.below (alB _ (.cells #[.int .i64 2, .int .i64 10000, .slice none 0 0, .int .i64 6, .int .i64 0, .slice (some ⟨wa.heap.size, 0, none⟩) 2 2] 24))).below hx
  replace T6 := (T6.below (alB _ (.cells #[.int .i64 2, .int .i64 10000, .slice none 0 0, .int .i64 6, .int .i64 0, .slice (some ⟨wa.heap.size, 0, none⟩) 2 2] 24))).below hx
  replace on := on.below hx
  replace hb := (balloc hb (.cells #[.int .i64 2, .int .i64 10000, .slice none 0 0, .int .i64 6, .int .i64 0, .slice (some ⟨wa.heap.size, 0, none⟩) 2 2] 24)).trans (hx.mono (balloc hb (.cells #[.int .i64 2, .int .i64 10000, .slice none 0 0, .int .i64 6, .int .i64 0, .slice (some ⟨wa.heap.size, 0, none⟩) 2 2] 24)).size)
  clear hx
  have T12 := tree_two (Q := (fun _ => False)) (o := 4) (x := leafE 2 10000) (y := nodeE 6 [leafE 2 2000, leafE 3 2]) (fun h => h) on (tree_leaf _ _ 2 10000 none 0) T6 2
  clear on T6
  have o12 := Own.new wc #[.int .i64 4, .int .i64 0, .slice (some ⟨wb.heap.size, 0, none⟩) 2 2] 24
  replace r1 := (r1.below (alB _ (.cells #[.int .i64 4, .int .i64 0, .slice (some ⟨wb.heap.size, 0, none⟩) 2 2] 24)))
  replace t2 := (t2.below (alB _ (.cells #[.int .i64 4, .int .i64 0, .slice (some ⟨wb.heap.size, 0, none⟩) 2 2] 24)))
  replace o4 := (o4.below (alB _ (.cells #[.int .i64 4, .int .i64 0, .slice (some ⟨wb.heap.size, 0, none⟩) 2 2] 24)))
  replace T11 := (T11.below (alB _ (.cells #[.int .i64 4, .int .i64 0, .slice (some ⟨wb.heap.size, 0, none⟩) 2 2] 24)))
  replace o11 := (o11.below (alB _ (.cells #[.int .i64 4, .int .i64 0, .slice (some ⟨wb.heap.size, 0, none⟩) 2 2] 24)))
  replace T12 := (T12.below (alB _ (.cells #[.int .i64 4, .int .i64 0, .slice (some ⟨wb.heap.size, 0, none⟩) 2 2] 24)))
  replace hb := (balloc hb (.cells #[.int .i64 4, .int .i64 0, .slice (some ⟨wb.heap.size, 0, none⟩) 2 2] 24))
  obtain ⟨a0, a1, a2, a3, a4, a5, a6⟩ := o11.three
  obtain ⟨b0, b1, b2, b3, b4, b5, b6⟩ := o12.three
  go_wp2_with fail
  clear a0 a1 a2 a3 a4 a5 b0 b1 b2 b3 b4 b5 a6 b6 hR1 hR4 hX2 hX3
  have o13 := Own.at (wc.alloc (.cells #[.int .i64 4, .int .i64 0, .slice (some ⟨wb.heap.size, 0, none⟩) 2 2] 24)) #[.int .i64 7, .int .i64 1, .int .i64 2, .int .i64 10, .int .i64 40, .int .i64 2, .int .i64 9, .int .i64 127, .int .i64 1, .int .i64 2, .int .i64 11, .int .i64 0, .slice (some ⟨w6.heap.size, 0, none⟩) 2 2, .int .i64 4, .int .i64 0, .slice (some ⟨wb.heap.size, 0, none⟩) 2 2] 52 (wc.heap.size + 1) (by simp)
  replace r1 := (r1.below (alB _ (.cells #[.int .i64 7, .int .i64 1, .int .i64 2, .int .i64 10, .int .i64 40, .int .i64 2, .int .i64 9, .int .i64 127, .int .i64 1, .int .i64 2, .int .i64 11, .int .i64 0, .slice (some ⟨w6.heap.size, 0, none⟩) 2 2, .int .i64 4, .int .i64 0, .slice (some ⟨wb.heap.size, 0, none⟩) 2 2] 52)))
  replace t2 := (t2.below (alB _ (.cells #[.int .i64 7, .int .i64 1, .int .i64 2, .int .i64 10, .int .i64 40, .int .i64 2, .int .i64 9, .int .i64 127, .int .i64 1, .int .i64 2, .int .i64 11, .int .i64 0, .slice (some ⟨w6.heap.size, 0, none⟩) 2 2, .int .i64 4, .int .i64 0, .slice (some ⟨wb.heap.size, 0, none⟩) 2 2] 52)))
  replace o4 := (o4.below (alB _ (.cells #[.int .i64 7, .int .i64 1, .int .i64 2, .int .i64 10, .int .i64 40, .int .i64 2, .int .i64 9, .int .i64 127, .int .i64 1, .int .i64 2, .int .i64 11, .int .i64 0, .slice (some ⟨w6.heap.size, 0, none⟩) 2 2, .int .i64 4, .int .i64 0, .slice (some ⟨wb.heap.size, 0, none⟩) 2 2] 52)))
  replace T11 := (T11.below (alB _ (.cells #[.int .i64 7, .int .i64 1, .int .i64 2, .int .i64 10, .int .i64 40, .int .i64 2, .int .i64 9, .int .i64 127, .int .i64 1, .int .i64 2, .int .i64 11, .int .i64 0, .slice (some ⟨w6.heap.size, 0, none⟩) 2 2, .int .i64 4, .int .i64 0, .slice (some ⟨wb.heap.size, 0, none⟩) 2 2] 52)))
  replace o11 := (o11.below (alB _ (.cells #[.int .i64 7, .int .i64 1, .int .i64 2, .int .i64 10, .int .i64 40, .int .i64 2, .int .i64 9, .int .i64 127, .int .i64 1, .int .i64 2, .int .i64 11, .int .i64 0, .slice (some ⟨w6.heap.size, 0, none⟩) 2 2, .int .i64 4, .int .i64 0, .slice (some ⟨wb.heap.size, 0, none⟩) 2 2] 52)))
  replace T12 := (T12.below (alB _ (.cells #[.int .i64 7, .int .i64 1, .int .i64 2, .int .i64 10, .int .i64 40, .int .i64 2, .int .i64 9, .int .i64 127, .int .i64 1, .int .i64 2, .int .i64 11, .int .i64 0, .slice (some ⟨w6.heap.size, 0, none⟩) 2 2, .int .i64 4, .int .i64 0, .slice (some ⟨wb.heap.size, 0, none⟩) 2 2] 52)))
  replace o12 := (o12.below (alB _ (.cells #[.int .i64 7, .int .i64 1, .int .i64 2, .int .i64 10, .int .i64 40, .int .i64 2, .int .i64 9, .int .i64 127, .int .i64 1, .int .i64 2, .int .i64 11, .int .i64 0, .slice (some ⟨w6.heap.size, 0, none⟩) 2 2, .int .i64 4, .int .i64 0, .slice (some ⟨wb.heap.size, 0, none⟩) 2 2] 52)))
  replace hb := (balloc hb (.cells #[.int .i64 7, .int .i64 1, .int .i64 2, .int .i64 10, .int .i64 40, .int .i64 2, .int .i64 9, .int .i64 127, .int .i64 1, .int .i64 2, .int .i64 11, .int .i64 0, .slice (some ⟨w6.heap.size, 0, none⟩) 2 2, .int .i64 4, .int .i64 0, .slice (some ⟨wb.heap.size, 0, none⟩) 2 2] 52))
  have rv : RateV (fun _ => False) ((wc.alloc (.cells #[.int .i64 4, .int .i64 0, .slice (some ⟨wb.heap.size, 0, none⟩) 2 2] 24)).alloc (.cells #[.int .i64 7, .int .i64 1, .int .i64 2, .int .i64 10, .int .i64 40, .int .i64 2, .int .i64 9, .int .i64 127, .int .i64 1, .int .i64 2, .int .i64 11, .int .i64 0, .slice (some ⟨w6.heap.size, 0, none⟩) 2 2, .int .i64 4, .int .i64 0, .slice (some ⟨wb.heap.size, 0, none⟩) 2 2] 52)) rtH #[.int .i64 7, .int .i64 1, .int .i64 2, .int .i64 10, .int .i64 40, .int .i64 2, .int .i64 9, .int .i64 127, .int .i64 1, .int .i64 2, .int .i64 11, .int .i64 0, .slice (some ⟨w6.heap.size, 0, none⟩) 2 2, .int .i64 4, .int .i64 0, .slice (some ⟨wb.heap.size, 0, none⟩) 2 2].toList := ⟨_, 2, _, 2, (by unfold rateC; rw [keepH.1, keepH.2]; rfl), T11, T12⟩
  refine (lleaf_any 1 1 _).mono ?_
  rintro e wd ⟨rfl, hx⟩
  replace r1 := r1.below hx
  replace t2 := t2.below hx
  replace o4 := o4.below hx
  replace T11 := T11.below hx
  replace o11 := o11.below hx
  replace T12 := T12.below hx
  replace o12 := o12.below hx
  replace o13 := o13.below hx
  replace rv := rv.below hx
  replace hb := hb.trans (hx.mono hb.size)
  clear hx
  unfold exV
  have o14 := Own.new wd #[.int .i64 1, .int .i64 1, .slice none 0 0] 24
  replace r1 := (r1.below (alB _ (.cells #[.int .i64 1, .int .i64 1, .slice none 0 0] 24)))
  replace t2 := (t2.below (alB _ (.cells #[.int .i64 1, .int .i64 1, .slice none 0 0] 24)))
  replace o4 := (o4.below (alB _ (.cells #[.int .i64 1, .int .i64 1, .slice none 0 0] 24)))
  replace T11 := (T11.below (alB _ (.cells #[.int .i64 1, .int .i64 1, .slice none 0 0] 24)))
  replace o11 := (o11.below (alB _ (.cells #[.int .i64 1, .int .i64 1, .slice none 0 0] 24)))
  replace T12 := (T12.below (alB _ (.cells #[.int .i64 1, .int .i64 1, .slice none 0 0] 24)))
  replace o12 := (o12.below (alB _ (.cells #[.int .i64 1, .int .i64 1, .slice none 0 0] 24)))
  replace o13 := (o13.below (alB _ (.cells #[.int .i64 1, .int .i64 1, .slice none 0 0] 24)))
  replace rv := (rv.below (alB _ (.cells #[.int .i64 1, .int .i64 1, .slice none 0 0] 24)))
  replace hb := (balloc hb (.cells #[.int .i64 1, .int .i64 1, .slice none 0 0] 24))
  obtain ⟨b0, b1, b2, b3, b4, b5, b6⟩ := o12.three
  have hv1 := fun w1 h => pvalid_any priceE _ w1 (T12.below (w' := w1) h)
  have hv2 := fun w1 => pvalid_any zeroE (.agg #[.int .i64 0, .int .i64 0, .slice none 0 0]) w1 (tree_leaf (fun _ => False) w1 0 0 none 0)
  rw [show validF priceE = true from by kernel_rfl] at hv1
  rw [show validF zeroE = false from by kernel_rfl] at hv2
  go_wp2_with fail
  refine (hv1 _ (Below.refl _ _)).mono ?_
  rintro e we ⟨rfl, hx⟩
  replace r1 := r1.below hx
  replace t2 := t2.below hx
  replace o4 := o4.below hx
  replace T11 := T11.below hx
  replace o11 := o11.below hx
  replace T12 := T12.below hx
  replace o12 := o12.below hx
  replace o13 := o13.below hx
  replace rv := rv.below hx
  replace o14 := o14.below hx
  replace hb := hb.trans (hx.mono hb.size)
  clear hx
  go_wp2_with fail
  refine (hv2 _).mono ?_
  rintro e wf ⟨rfl, hx⟩
  replace r1 := r1.below hx
  replace t2 := t2.below hx
  replace o4 := o4.below hx
  replace T11 := T11.below hx
  replace o11 := o11.below hx
  replace T12 := T12.below hx
  replace o12 := o12.below hx
  replace o13 := o13.below hx
  replace rv := rv.below hx
  replace o14 := o14.below hx
  replace hb := hb.trans (hx.mono hb.size)
  clear hx
  clear b0 b1 b2 b3 b4 b5 b6 hv1 hv2
  obtain ⟨f0, f1, f2, f3, f4, f5, f6, f7, f8, f9, f10, f11, f12, f13, f14, f15, f16, f17, f18, f19, f20, f21, f22, f23, f24, f25, f26, f27, f28, f29, f30, f31, fz⟩ := o13.facts
  obtain ⟨a0, a1, a2, -, -, -, az⟩ := o4.three
  obtain ⟨b0, b1, b2, -, -, -, bz⟩ := o14.three
  go_wp2_with fail
  clear T11 T12 o11 o12 az bz fz f0 f1 f2 f3 f4 f5 f6 f7 f8 f9 f10 f11 f12 f13 f14 f15 f16 f17 f18 f19 f20 f21 f22 f23 f24 f25 f26 f27 f28 f29 f30 f31 a0 a1 a2 b0 b1 b2
  have d := (Below.refl wf.heap.size wf).drew
  have S2 : Calls Tryz.prog 15 #[v1, .slice (some ⟨wf.heap.size, 0, none⟩) 1 1] (wf.drew.alloc (.cells #[.int .i64 7, .int .i64 1, .int .i64 2, .int .i64 10, .int .i64 40, .int .i64 2, .int .i64 9, .int .i64 127, .int .i64 1, .int .i64 2, .int .i64 11, .int .i64 0, .slice (some ⟨w6.heap.size, 0, none⟩) 2 2, .int .i64 4, .int .i64 0, .slice (some ⟨wb.heap.size, 0, none⟩) 2 2] 52)) (Ret (.bool true) (wf.drew.alloc (.cells #[.int .i64 7, .int .i64 1, .int .i64 2, .int .i64 10, .int .i64 40, .int .i64 2, .int .i64 9, .int .i64 127, .int .i64 1, .int .i64 2, .int .i64 11, .int .i64 0, .slice (some ⟨w6.heap.size, 0, none⟩) 2 2, .int .i64 4, .int .i64 0, .slice (some ⟨wb.heap.size, 0, none⟩) 2 2] 52))) :=
    sameRates_any [rtH] _ _ _ ((r1.below d).below (alB _ _)) (rsl_new (Q := fun _ => False) (Own.new wf.drew #[.int .i64 7, .int .i64 1, .int .i64 2, .int .i64 10, .int .i64 40, .int .i64 2, .int .i64 9, .int .i64 127, .int .i64 1, .int .i64 2, .int .i64 11, .int .i64 0, .slice (some ⟨w6.heap.size, 0, none⟩) 2 2, .int .i64 4, .int .i64 0, .slice (some ⟨wb.heap.size, 0, none⟩) 2 2] 52) ((rv.below d).below (alB _ _)) 1)
  have p4 := o4.below d
  have p14 := o14.below d
  have p13 := o13.below d
  replace t2 := (t2.below d).below (alB _ (.cells #[.int .i64 7, .int .i64 1, .int .i64 2, .int .i64 10, .int .i64 40, .int .i64 2, .int .i64 9, .int .i64 127, .int .i64 1, .int .i64 2, .int .i64 11, .int .i64 0, .slice (some ⟨w6.heap.size, 0, none⟩) 2 2, .int .i64 4, .int .i64 0, .slice (some ⟨wb.heap.size, 0, none⟩) 2 2] 52))
  replace o4 := (o4.below d).below (alB _ (.cells #[.int .i64 7, .int .i64 1, .int .i64 2, .int .i64 10, .int .i64 40, .int .i64 2, .int .i64 9, .int .i64 127, .int .i64 1, .int .i64 2, .int .i64 11, .int .i64 0, .slice (some ⟨w6.heap.size, 0, none⟩) 2 2, .int .i64 4, .int .i64 0, .slice (some ⟨wb.heap.size, 0, none⟩) 2 2] 52))
  replace o14 := (o14.below d).below (alB _ (.cells #[.int .i64 7, .int .i64 1, .int .i64 2, .int .i64 10, .int .i64 40, .int .i64 2, .int .i64 9, .int .i64 127, .int .i64 1, .int .i64 2, .int .i64 11, .int .i64 0, .slice (some ⟨w6.heap.size, 0, none⟩) 2 2, .int .i64 4, .int .i64 0, .slice (some ⟨wb.heap.size, 0, none⟩) 2 2] 52))
  replace o13 := (o13.below d).below (alB _ (.cells #[.int .i64 7, .int .i64 1, .int .i64 2, .int .i64 10, .int .i64 40, .int .i64 2, .int .i64 9, .int .i64 127, .int .i64 1, .int .i64 2, .int .i64 11, .int .i64 0, .slice (some ⟨w6.heap.size, 0, none⟩) 2 2, .int .i64 4, .int .i64 0, .slice (some ⟨wb.heap.size, 0, none⟩) 2 2] 52))
  replace hb := balloc (hb.trans (d.mono hb.size)) (.cells #[.int .i64 7, .int .i64 1, .int .i64 2, .int .i64 10, .int .i64 40, .int .i64 2, .int .i64 9, .int .i64 127, .int .i64 1, .int .i64 2, .int .i64 11, .int .i64 0, .slice (some ⟨w6.heap.size, 0, none⟩) 2 2, .int .i64 4, .int .i64 0, .slice (some ⟨wb.heap.size, 0, none⟩) 2 2] 52)
  clear rv r1
  obtain ⟨c0, c1, c2, -, -, -, cz⟩ := o4.three
  obtain ⟨d0, d1, d2, -, -, -, dz⟩ := o14.three
  go_region_held3 (fun w' => w'.cell? ⟨w2.heap.size, 0, none⟩ = some (.int .i64 5) ∧ w'.cell? ⟨w2.heap.size, 1, none⟩ = some (.int .i64 0) ∧ w'.cell? ⟨w2.heap.size, 2, none⟩ = some (.slice ad2 2 cap2) ∧ w'.cell? ⟨wd.heap.size, 0, none⟩ = some (.int .i64 1) ∧ w'.cell? ⟨wd.heap.size, 1, none⟩ = some (.int .i64 1) ∧ w'.cell? ⟨wd.heap.size, 2, none⟩ = some (.slice none 0 0) ∧ w'.cell? ⟨wc.heap.size + 1, 0, none⟩ = some (.int .i64 7) ∧ w'.cell? ⟨wc.heap.size + 1, 1, none⟩ = some (.int .i64 1) ∧ w'.cell? ⟨wc.heap.size + 1, 2, none⟩ = some (.int .i64 2) ∧ w'.cell? ⟨wc.heap.size + 1, 3, none⟩ = some (.int .i64 10) ∧ w'.cell? ⟨wc.heap.size + 1, 4, none⟩ = some (.int .i64 40) ∧ w'.cell? ⟨wc.heap.size + 1, 5, none⟩ = some (.int .i64 2) ∧ w'.cell? ⟨wc.heap.size + 1, 6, none⟩ = some (.int .i64 9) ∧ w'.cell? ⟨wc.heap.size + 1, 7, none⟩ = some (.int .i64 127) ∧ w'.cell? ⟨wc.heap.size + 1, 8, none⟩ = some (.int .i64 1) ∧ w'.cell? ⟨wc.heap.size + 1, 9, none⟩ = some (.int .i64 2) ∧ w'.cell? ⟨wc.heap.size + 1, 10, none⟩ = some (.int .i64 11) ∧ w'.cell? ⟨wc.heap.size + 1, 11, none⟩ = some (.int .i64 0) ∧ w'.cell? ⟨wc.heap.size + 1, 12, none⟩ = some (.slice (some ⟨w6.heap.size, 0, none⟩) 2 2) ∧ w'.cell? ⟨wc.heap.size + 1, 13, none⟩ = some (.int .i64 4) ∧ w'.cell? ⟨wc.heap.size + 1, 14, none⟩ = some (.int .i64 0) ∧ w'.cell? ⟨wc.heap.size + 1, 15, none⟩ = some (.slice (some ⟨wb.heap.size, 0, none⟩) 2 2)) (first | exact ⟨o4.cell 0 _ rfl, o4.cell 1 _ rfl, o4.cell 2 _ rfl, o14.cell 0 _ rfl, o14.cell 1 _ rfl, o14.cell 2 _ rfl, o13.cell 0 _ rfl, o13.cell 1 _ rfl, o13.cell 2 _ rfl, o13.cell 3 _ rfl, o13.cell 4 _ rfl, o13.cell 5 _ rfl, o13.cell 6 _ rfl, o13.cell 7 _ rfl, o13.cell 8 _ rfl, o13.cell 9 _ rfl, o13.cell 10 _ rfl, o13.cell 11 _ rfl, o13.cell 12 _ rfl, o13.cell 13 _ rfl, o13.cell 14 _ rfl, o13.cell 15 _ rfl⟩ | exact ⟨p4.cell 0 _ rfl, p4.cell 1 _ rfl, p4.cell 2 _ rfl, p14.cell 0 _ rfl, p14.cell 1 _ rfl, p14.cell 2 _ rfl, p13.cell 0 _ rfl, p13.cell 1 _ rfl, p13.cell 2 _ rfl, p13.cell 3 _ rfl, p13.cell 4 _ rfl, p13.cell 5 _ rfl, p13.cell 6 _ rfl, p13.cell 7 _ rfl, p13.cell 8 _ rfl, p13.cell 9 _ rfl, p13.cell 10 _ rfl, p13.cell 11 _ rfl, p13.cell 12 _ rfl, p13.cell 13 _ rfl, p13.cell 14 _ rfl, p13.cell 15 _ rfl⟩ | exact ⟨(o4.below (alB _ _)).cell 0 _ rfl, (o4.below (alB _ _)).cell 1 _ rfl, (o4.below (alB _ _)).cell 2 _ rfl, (o14.below (alB _ _)).cell 0 _ rfl, (o14.below (alB _ _)).cell 1 _ rfl, (o14.below (alB _ _)).cell 2 _ rfl, (o13.below (alB _ _)).cell 0 _ rfl, (o13.below (alB _ _)).cell 1 _ rfl, (o13.below (alB _ _)).cell 2 _ rfl, (o13.below (alB _ _)).cell 3 _ rfl, (o13.below (alB _ _)).cell 4 _ rfl, (o13.below (alB _ _)).cell 5 _ rfl, (o13.below (alB _ _)).cell 6 _ rfl, (o13.below (alB _ _)).cell 7 _ rfl, (o13.below (alB _ _)).cell 8 _ rfl, (o13.below (alB _ _)).cell 9 _ rfl, (o13.below (alB _ _)).cell 10 _ rfl, (o13.below (alB _ _)).cell 11 _ rfl, (o13.below (alB _ _)).cell 12 _ rfl, (o13.below (alB _ _)).cell 13 _ rfl, (o13.below (alB _ _)).cell 14 _ rfl, (o13.below (alB _ _)).cell 15 _ rfl⟩) (first
    | (go_at_call 15
       refine S2.mono ?_
       rintro e wg ⟨rfl, hx⟩
       clear c0 c1 c2 cz d0 d1 d2 dz p4 p14 p13
       replace t2 := t2.below hx
       replace o4 := o4.below hx
       replace o14 := o14.below hx
       replace o13 := o13.below hx
       replace hb := hb.trans (hx.mono hb.size)
       clear hx
       obtain ⟨c0, c1, c2, -, -, -, cz⟩ := o4.three
       obtain ⟨d0, d1, d2, -, -, -, dz⟩ := o14.three)
    | (go_at_call 10
       have TB := Tb
       refine (same_self (Q := Lo w1.heap.size) (R := fun _ => False) (x := minusE) t2 TB).mono ?_
       rintro e wx ⟨rfl, hx⟩
       replace o4 := o4.below hx
       replace o14 := o14.below hx
       replace o13 := o13.below hx
       replace hb := hb.trans (hx.mono hb.size)
       clear hx c0 c1 c2 cz d0 d1 d2 dz
       obtain ⟨c0, c1, c2, -, -, -, cz⟩ := o4.three
       obtain ⟨d0, d1, d2, -, -, -, dz⟩ := o14.three)
    | (go_at_call 18
       have TA := Ta
       refine (lnode_any 5 _ 2 2 _).mono ?_
       rintro e wl2 ⟨rfl, hx⟩
       have on2 := (Own.new wk2 #[.int .i64 5, .int .i64 0, .slice (some ⟨wk.heap.size, 0, none⟩) 2 2, .int .i64 1, .int .i64 3, .slice none 0 0] 24).below hx
       have Tb := tree_two (Q := fun _ => False) (o := 5) (x := nodeE 5 [leafE 1 1, leafE 1 2]) (y := leafE 1 3) (fun h => h) on2 ((TA.below (alB _ _)).below hx) (tree_leaf _ _ 1 3 none 0) 2
       replace t2 := (t2.below (alB _ _)).below hx
       replace o4 := (o4.below (alB _ _)).below hx
       replace o14 := (o14.below (alB _ _)).below hx
       replace o13 := (o13.below (alB _ _)).below hx
       replace hb := (balloc hb _).trans (hx.mono (balloc hb _).size)
       clear hx c0 c1 c2 cz d0 d1 d2 dz
       obtain ⟨c0, c1, c2, -, -, -, cz⟩ := o4.three
       obtain ⟨d0, d1, d2, -, -, -, dz⟩ := o14.three)
    | (go_at_call 18
       refine (lnode_any 5 _ 2 2 _).mono ?_
       rintro e wl ⟨rfl, hx⟩
       have on1 := (Own.new wk #[.int .i64 1, .int .i64 1, .slice none 0 0, .int .i64 1, .int .i64 2, .slice none 0 0] 24).below hx
       have Ta := tree_two (Q := fun _ => False) (o := 5) (x := leafE 1 1) (y := leafE 1 2) (fun h => h) on1 (tree_leaf _ _ 1 1 none 0) (tree_leaf _ _ 1 2 none 0) 2
       replace t2 := (t2.below (alB _ _)).below hx
       replace o4 := (o4.below (alB _ _)).below hx
       replace o14 := (o14.below (alB _ _)).below hx
       replace o13 := (o13.below (alB _ _)).below hx
       replace hb := (balloc hb _).trans (hx.mono (balloc hb _).size)
       clear hx c0 c1 c2 cz d0 d1 d2 dz
       obtain ⟨c0, c1, c2, -, -, -, cz⟩ := o4.three
       obtain ⟨d0, d1, d2, -, -, -, dz⟩ := o14.three)
    | (go_at_call 21
       have TA := Ta
       refine (lleaf_any 1 3 _).mono ?_
       rintro e wk2 ⟨rfl, hx⟩
       replace Ta := Ta.below hx
       clear TA
       replace t2 := t2.below hx
       replace o4 := o4.below hx
       replace o14 := o14.below hx
       replace o13 := o13.below hx
       replace hb := hb.trans (hx.mono hb.size)
       clear hx c0 c1 c2 cz d0 d1 d2 dz
       unfold exV
       obtain ⟨c0, c1, c2, -, -, -, cz⟩ := o4.three
       obtain ⟨d0, d1, d2, -, -, -, dz⟩ := o14.three)
    | (go_at_call 21
       refine (lleaf_any 1 2 _).mono ?_
       rintro e wk ⟨rfl, hx⟩
       replace t2 := t2.below hx
       replace o4 := o4.below hx
       replace o14 := o14.below hx
       replace o13 := o13.below hx
       replace hb := hb.trans (hx.mono hb.size)
       clear hx c0 c1 c2 cz d0 d1 d2 dz
       unfold exV
       obtain ⟨c0, c1, c2, -, -, -, cz⟩ := o4.three
       obtain ⟨d0, d1, d2, -, -, -, dz⟩ := o14.three))
  all_goals (
    go_wp2_with fail
    go_ret
    exact Ret.mk rfl hb)
end Go.Proofs.YthnlenbfknbmcaaGreatDoor
