/-
  The laws' head: the examples, and a rate.
-/
import Derived.Test.YtlkefcbkpohpgaaGreatDoorQpr
import Derived.Test.YtlkefcbkpohpgaaGreatDoorQi
import Derived.Deep.Cut
namespace Go.Proofs.YtlkefcbkpohpgaaGreatDoor
open Go.RowKit Go.Shelf
set_option maxRecDepth 100000
set_option linter.unusedVariables false
set_option linter.unusedSimpArgs false

theorem alB (w : World) (o : Obj) : Below w.heap.size w (w.alloc o) := Below.alloc (Below.refl _ _) (Nat.le_refl _) o
theorem balloc {w w1 : World} (h : Below w.heap.size w w1) (o : Obj) : Below w.heap.size w (w1.alloc o) := h.alloc h.size o
set_option maxHeartbeats 400000 in
theorem with9_any (o : Int) (ad : Option Addr) (n cap : Nat) (w : World) : Calls Tryz.prog 49 #[.int .i64 o, .slice ad n cap] w (Ret (.agg #[.int .i64 o, .int .i64 0, .slice ad n cap]) w) := by
  go_enter Tryz.func49, Tryz.ntmps49
  go_wp2_with fail
  have ho := Own.new w #[.int .i64 0, .int .i64 0, .slice none 0 0] 24
  refine ret_cells (vs := [.int .i64 o, .int .i64 0, .slice ad n cap]) rfl Tryz.underlying24 rfl (by kernel_rfl) (B := w.heap.size) (by first | exact (((ho.setAt (i := 0) _ (by simp)).setAt (i := 1) _ (by simp)).setAt (i := 2) _ (by simp)) | exact Own.new _ _ _) rfl rfl ?_
  exact Ret.mk rfl (by (repeat (first | exact Below.refl _ _ | assumption | refine Below.drew ?_ | refine below_drewN ?_ _ | refine Below.setCell ?_ (by first | omega | (simp <;> omega)) _ | refine Below.alloc ?_ (by first | omega | (simp <;> omega)) _)))
set_option maxHeartbeats 400000 in
theorem lleaf9_any (o n : Int) (w : World) : Calls Tryz.prog 50 #[.int .i64 o, .int .i64 n] w (Ret (.agg #[.int .i64 o, .int .i64 n, .slice none 0 0]) w) := by
  go_enter Tryz.func50, Tryz.ntmps50
  go_wp2_with fail
  have ho := Own.new w #[.int .i64 0, .int .i64 0, .slice none 0 0] 24
  refine ret_cells (vs := [.int .i64 o, .int .i64 n, .slice none 0 0]) rfl Tryz.underlying24 rfl (by kernel_rfl) (B := w.heap.size) (by first | exact (((ho.setAt (i := 0) _ (by simp)).setAt (i := 1) _ (by simp)).setAt (i := 2) _ (by simp)) | exact Own.new _ _ _) rfl rfl ?_
  exact Ret.mk rfl (by (repeat (first | exact Below.refl _ _ | assumption | refine Below.drew ?_ | refine below_drewN ?_ _ | refine Below.setCell ?_ (by first | omega | (simp <;> omega)) _ | refine Below.alloc ?_ (by first | omega | (simp <;> omega)) _)))
abbrev dayE (n : Int) : Xp := nodeE 12 [leafE 3 4, leafE 1 n]
abbrev sumE : Xp := nodeE 6 [nodeE 4 [leafE 3 1, leafE 1 2], leafE 2 1050]
theorem below_set3 {w : World} {o : Obj} (x y z : Value) : Below w.heap.size w ((((w.alloc o).setCell ⟨w.heap.size, 0, none⟩ x).setCell ⟨w.heap.size, 1, none⟩ y).setCell ⟨w.heap.size, 2, none⟩ z) :=
  (((alB w o).setCell (p := ⟨w.heap.size, 0, none⟩) (Nat.le_refl _) x).setCell (p := ⟨w.heap.size, 1, none⟩) (Nat.le_refl _) y).setCell (p := ⟨w.heap.size, 2, none⟩) (Nat.le_refl _) z
theorem own_set3 {w : World} (x y z : Value) : Own ((((w.alloc (.cells #[.int .i64 0, .int .i64 0, .slice none 0 0] 24)).setCell ⟨w.heap.size, 0, none⟩ x).setCell ⟨w.heap.size, 1, none⟩ y).setCell ⟨w.heap.size, 2, none⟩ z) w.heap.size [x, y, z] :=
  (((Own.new w #[.int .i64 0, .int .i64 0, .slice none 0 0] 24).setAt (i := 0) x (by simp)).setAt (i := 1) y (by simp)).setAt (i := 2) z (by simp)
theorem own_16 {w : World} {B : Nat} {x0 x1 x2 x3 x4 x5 x6 x7 x8 x9 x10 x11 x12 x13 x14 x15 : Value} (h : Own w B [x0, x1, x2, x3, x4, x5, x6, x7, x8, x9, x10, x11, x12, x13, x14, x15]) : w.cell? ⟨B, 0, none⟩ = some x0 ∧ w.cell? ⟨B, 1, none⟩ = some x1 ∧ w.cell? ⟨B, 2, none⟩ = some x2 ∧ w.cell? ⟨B, 3, none⟩ = some x3 ∧ w.cell? ⟨B, 4, none⟩ = some x4 ∧ w.cell? ⟨B, 5, none⟩ = some x5 ∧ w.cell? ⟨B, 6, none⟩ = some x6 ∧ w.cell? ⟨B, 7, none⟩ = some x7 ∧ w.cell? ⟨B, 8, none⟩ = some x8 ∧ w.cell? ⟨B, 9, none⟩ = some x9 ∧ w.cell? ⟨B, 10, none⟩ = some x10 ∧ w.cell? ⟨B, 11, none⟩ = some x11 ∧ w.cell? ⟨B, 12, none⟩ = some x12 ∧ w.cell? ⟨B, 13, none⟩ = some x13 ∧ w.cell? ⟨B, 14, none⟩ = some x14 ∧ w.cell? ⟨B, 15, none⟩ = some x15 ∧ B < w.heap.size :=
  ⟨h.cell 0 _ rfl, h.cell 1 _ rfl, h.cell 2 _ rfl, h.cell 3 _ rfl, h.cell 4 _ rfl, h.cell 5 _ rfl, h.cell 6 _ rfl, h.cell 7 _ rfl, h.cell 8 _ rfl, h.cell 9 _ rfl, h.cell 10 _ rfl, h.cell 11 _ rfl, h.cell 12 _ rfl, h.cell 13 _ rfl, h.cell 14 _ rfl, h.cell 15 _ rfl, h.lt⟩
def DayEnd (n : Int) (w : World) (e : Ending) (w' : World) : Prop := ∃ B, e = .returned (.agg #[.int .i64 12, .int .i64 0, .slice (some ⟨B, 0, none⟩) 2 2]) ∧ Tree (fun k => k < w.heap.size) w' (dayE n) (.agg #[.int .i64 12, .int .i64 0, .slice (some ⟨B, 0, none⟩) 2 2]) ∧ Below w.heap.size w w'
set_option maxHeartbeats 1000000 in
theorem day_any (n : Int) (w : World) : Calls Tryz.prog 48 #[.int .i64 n] w (DayEnd n w) := by
  have ho := Own.new w #[.int .i64 0, .int .i64 0, .slice none 0 0] 24
  have hb := alB w (.cells #[.int .i64 0, .int .i64 0, .slice none 0 0] 24)
  go_enter Tryz.func48, Tryz.ntmps48
  go_wp2_with fail
  refine (lleaf9_any 3 4 _).mono ?_
  rintro e w1 ⟨rfl, hx⟩
  replace ho := ho.below hx
  replace hb := hb.trans (hx.mono hb.size)
  clear hx
  go_wp2_with fail
  refine (lleaf9_any 1 n _).mono ?_
  rintro e w2 ⟨rfl, hx⟩
  replace ho := ho.below hx
  replace hb := hb.trans (hx.mono hb.size)
  clear hx
  have hlt := ho.lt
  have on := Own.new w2 #[.int .i64 3, .int .i64 4, .slice none 0 0, .int .i64 1, .int .i64 n, .slice none 0 0] 24
  go_wp2_with fail
  refine (with9_any 12 _ _ _ _).mono ?_
  rintro e w3 ⟨rfl, hx⟩
  replace on := on.below hx
  replace ho := (ho.alloc _).below hx
  replace hb := (balloc hb _).trans (hx.mono (balloc hb _).size)
  have hz := hx.size
  clear hx
  obtain ⟨c0, c1, c2, f0, f1, f2, hl⟩ := ho.three
  have T := tree_two (Q := fun k => k ≤ w.heap.size) (o := 12) (x := leafE 3 4) (y := leafE 1 n) (by intro h; omega) on (tree_leaf _ _ 3 4 none 0) (tree_leaf _ _ 1 n none 0) 2
  go_wp2_with fail
  refine ret_cells (vs := [.int .i64 12, .int .i64 0, .slice (some ⟨w2.heap.size, 0, none⟩) 2 2]) rfl Tryz.underlying24 rfl (by kernel_rfl) (B := w.heap.size) (((ho.setAt (i := 0) _ (by simp)).setAt (i := 1) _ (by simp)).setAt (i := 2) _ (by simp)) rfl rfl ?_
  refine ⟨w2.heap.size, rfl, (((T.set _ (Nat.le_refl w.heap.size)).set _ (Nat.le_refl w.heap.size)).set _ (Nat.le_refl w.heap.size)).bars (fun _ _ h => Nat.le_of_lt h), ?_⟩
  exact ((hb.setCell (p := ⟨w.heap.size, 0, none⟩) (Nat.le_refl _) _).setCell (p := ⟨w.heap.size, 1, none⟩) (Nat.le_refl _) _).setCell (p := ⟨w.heap.size, 2, none⟩) (Nat.le_refl _) _
theorem tx_sum : (exprP sumE) = ([40, 110, 105, 103, 104, 116, 115, 32, 43, 32, 50, 41, 32, 42, 32, 49, 48, 46, 53, 48], 0) := by decide +kernel
theorem tx_sub : (exprP (nodeE 5 [leafE 1 1, nodeE 5 [leafE 1 2, leafE 1 3]])) = ([49, 32, 45, 32, 40, 50, 32, 45, 32, 51, 41], 0) := by decide +kernel
theorem tx_not : (exprP (nodeE 15 [nodeE 11 [leafE 3 2, leafE 1 2]])) = ([110, 111, 116, 32, 112, 101, 114, 115, 111, 110, 115, 32, 60, 32, 50], 0) := by decide +kernel
theorem tx_and : (exprP (nodeE 13 [nodeE 14 [dayE 1, dayE 2], dayE 3])) = ([40, 119, 101, 101, 107, 100, 97, 121, 32, 61, 32, 49, 32, 111, 114, 32, 119, 101, 101, 107, 100, 97, 121, 32, 61, 32, 50, 41, 32, 97, 110, 100, 32, 119, 101, 101, 107, 100, 97, 121, 32, 61, 32, 51], 0) := by decide +kernel
theorem tx_zero : (exprP (leafE 0 0)) = ([], 1) := by decide +kernel
theorem pr_sum {Q : Nat → Prop} {ad : Option Addr} {cap : Nat} (w : World) (hP : PL w) (h : Tree Q w sumE (.agg #[.int .i64 6, .int .i64 0, .slice ad 2 cap])) : Calls Tryz.prog 25 #[(.agg #[.int .i64 6, .int .i64 0, .slice ad 2 cap])] w (Ret (.tuple #[.string ⟨#[40, 110, 105, 103, 104, 116, 115, 32, 43, 32, 50, 41, 32, 42, 32, 49, 48, 46, 53, 48]⟩, .int .i64 0]) w) := by
  have := pprint_any sumE _ w hP h
  rw [tx_sum] at this; exact this
theorem pr_sub {Q : Nat → Prop} {ad : Option Addr} {cap : Nat} (w : World) (hP : PL w) (h : Tree Q w (nodeE 5 [leafE 1 1, nodeE 5 [leafE 1 2, leafE 1 3]]) (.agg #[.int .i64 5, .int .i64 0, .slice ad 2 cap])) : Calls Tryz.prog 25 #[(.agg #[.int .i64 5, .int .i64 0, .slice ad 2 cap])] w (Ret (.tuple #[.string ⟨#[49, 32, 45, 32, 40, 50, 32, 45, 32, 51, 41]⟩, .int .i64 0]) w) := by
  have := pprint_any (nodeE 5 [leafE 1 1, nodeE 5 [leafE 1 2, leafE 1 3]]) _ w hP h
  rw [tx_sub] at this; exact this
theorem pr_not {Q : Nat → Prop} {ad : Option Addr} {cap : Nat} (w : World) (hP : PL w) (h : Tree Q w (nodeE 15 [nodeE 11 [leafE 3 2, leafE 1 2]]) (.agg #[.int .i64 15, .int .i64 0, .slice ad 1 cap])) : Calls Tryz.prog 25 #[(.agg #[.int .i64 15, .int .i64 0, .slice ad 1 cap])] w (Ret (.tuple #[.string ⟨#[110, 111, 116, 32, 112, 101, 114, 115, 111, 110, 115, 32, 60, 32, 50]⟩, .int .i64 0]) w) := by
  have := pprint_any (nodeE 15 [nodeE 11 [leafE 3 2, leafE 1 2]]) _ w hP h
  rw [tx_not] at this; exact this
theorem pr_and {Q : Nat → Prop} {ad : Option Addr} {cap : Nat} (w : World) (hP : PL w) (h : Tree Q w (nodeE 13 [nodeE 14 [dayE 1, dayE 2], dayE 3]) (.agg #[.int .i64 13, .int .i64 0, .slice ad 2 cap])) : Calls Tryz.prog 25 #[(.agg #[.int .i64 13, .int .i64 0, .slice ad 2 cap])] w (Ret (.tuple #[.string ⟨#[40, 119, 101, 101, 107, 100, 97, 121, 32, 61, 32, 49, 32, 111, 114, 32, 119, 101, 101, 107, 100, 97, 121, 32, 61, 32, 50, 41, 32, 97, 110, 100, 32, 119, 101, 101, 107, 100, 97, 121, 32, 61, 32, 51]⟩, .int .i64 0]) w) := by
  have := pprint_any (nodeE 13 [nodeE 14 [dayE 1, dayE 2], dayE 3]) _ w hP h
  rw [tx_and] at this; exact this
theorem pr_zero {Q : Nat → Prop} {ad : Option Addr} {cap : Nat} (w : World) (hP : PL w) (h : Tree Q w (leafE 0 0) (.agg #[.int .i64 0, .int .i64 0, .slice ad 0 cap])) : Calls Tryz.prog 25 #[.agg #[.int .i64 0, .int .i64 0, .slice ad 0 cap]] w (Ret (.tuple #[.string ⟨#[]⟩, .int .i64 1]) w) := by
  have := pprint_any (leafE 0 0) _ w hP h
  rw [tx_zero] at this; exact this
theorem tx_rate : (rateP 1 2 3 4 5 6 7 8 3 10 (dayE 1) sumE) = ([114, 97, 116, 101, 32, 49, 32, 108, 101, 118, 101, 108, 32, 50, 32, 107, 105, 110, 100, 32, 51, 32, 110, 105, 103, 104, 116, 115, 32, 52, 32, 116, 111, 32, 53, 32, 115, 116, 97, 121, 32, 54, 32, 116, 111, 32, 55, 32, 97, 114, 114, 105, 118, 101, 32, 56, 32, 107, 101, 101, 112, 32, 51, 48, 37, 32, 119, 104, 101, 110, 32, 119, 101, 101, 107, 100, 97, 121, 32, 61, 32, 49, 32, 112, 114, 105, 99, 101, 32, 40, 110, 105, 103, 104, 116, 115, 32, 43, 32, 50, 41, 32, 42, 32, 49, 48, 46, 53, 48, 59], 0) := by decide +kernel
theorem pr_rate {Q R : Nat → Prop} {ad ad2 : Option Addr} {cap cap2 : Nat} (w : World) (hP : PL w) (h : Tree Q w (dayE 1) (.agg #[.int .i64 12, .int .i64 0, .slice ad 2 cap])) (h2 : Tree R w sumE (.agg #[.int .i64 6, .int .i64 0, .slice ad2 2 cap2])) : Calls Tryz.prog 27 #[.agg #[.int .i64 1, .int .i64 2, .int .i64 3, .int .i64 4, .int .i64 5, .int .i64 6, .int .i64 7, .int .i64 8, .int .i64 3, .int .i64 10, .int .i64 12, .int .i64 0, .slice ad 2 cap, .int .i64 6, .int .i64 0, .slice ad2 2 cap2]] w (Ret (.tuple #[.string ⟨([114, 97, 116, 101, 32, 49, 32, 108, 101, 118, 101, 108, 32, 50, 32, 107, 105, 110, 100, 32, 51, 32, 110, 105, 103, 104, 116, 115, 32, 52, 32, 116, 111, 32, 53, 32, 115, 116, 97, 121, 32, 54, 32, 116, 111, 32, 55, 32, 97, 114, 114, 105, 118, 101, 32, 56, 32, 107, 101, 101, 112, 32, 51, 48, 37, 32, 119, 104, 101, 110, 32, 119, 101, 101, 107, 100, 97, 121, 32, 61, 32, 49, 32, 112, 114, 105, 99, 101, 32, 40, 110, 105, 103, 104, 116, 115, 32, 43, 32, 50, 41, 32, 42, 32, 49, 48, 46, 53, 48, 59] : List UInt8).toArray⟩, .int .i64 0]) w) := by
  have := prate_any 1 2 3 4 5 6 7 8 3 10 (dayE 1) sumE ad ad2 cap cap2 w hP h h2
  rw [tx_rate] at this; exact this
theorem tx_rate7 : (rateP 1 2 3 4 5 6 7 8 3 7 (dayE 1) sumE) = ([], 1) := by decide +kernel
theorem pr_rate7 {Q R : Nat → Prop} {ad ad2 : Option Addr} {cap cap2 : Nat} (w : World) (hP : PL w) (h : Tree Q w (dayE 1) (.agg #[.int .i64 12, .int .i64 0, .slice ad 2 cap])) (h2 : Tree R w sumE (.agg #[.int .i64 6, .int .i64 0, .slice ad2 2 cap2])) : Calls Tryz.prog 27 #[.agg #[.int .i64 1, .int .i64 2, .int .i64 3, .int .i64 4, .int .i64 5, .int .i64 6, .int .i64 7, .int .i64 8, .int .i64 3, .int .i64 7, .int .i64 12, .int .i64 0, .slice ad 2 cap, .int .i64 6, .int .i64 0, .slice ad2 2 cap2]] w (Ret (.tuple #[.string ⟨([] : List UInt8).toArray⟩, .int .i64 1]) w) := by
  have := prate_any 1 2 3 4 5 6 7 8 3 7 (dayE 1) sumE ad ad2 cap cap2 w hP h h2
  rw [tx_rate7] at this; exact this
theorem hide_sum : ∃ S : ByteArray, (∀ (Q : Nat → Prop) {ad : Option Addr} {cap : Nat} (w : World), PL w → Tree Q w sumE (.agg #[.int .i64 6, .int .i64 0, .slice ad 2 cap]) → Calls Tryz.prog 25 #[(.agg #[.int .i64 6, .int .i64 0, .slice ad 2 cap])] w (Ret (.tuple #[.string S, .int .i64 0]) w)) ∧ (S.toList == ([40, 110, 105, 103, 104, 116, 115, 32, 43, 32, 50, 41, 32, 42, 32, 49, 48, 46, 53, 48] : List UInt8)) = true :=
  ⟨⟨#[40, 110, 105, 103, 104, 116, 115, 32, 43, 32, 50, 41, 32, 42, 32, 49, 48, 46, 53, 48]⟩, fun _ {_} {_} w h1 h2 => pr_sum w h1 h2, by simp⟩
theorem hide_sub : ∃ S : ByteArray, (∀ (Q : Nat → Prop) {ad : Option Addr} {cap : Nat} (w : World), PL w → Tree Q w (nodeE 5 [leafE 1 1, nodeE 5 [leafE 1 2, leafE 1 3]]) (.agg #[.int .i64 5, .int .i64 0, .slice ad 2 cap]) → Calls Tryz.prog 25 #[(.agg #[.int .i64 5, .int .i64 0, .slice ad 2 cap])] w (Ret (.tuple #[.string S, .int .i64 0]) w)) ∧ (S.toList == ([49, 32, 45, 32, 40, 50, 32, 45, 32, 51, 41] : List UInt8)) = true :=
  ⟨⟨#[49, 32, 45, 32, 40, 50, 32, 45, 32, 51, 41]⟩, fun _ {_} {_} w h1 h2 => pr_sub w h1 h2, by simp⟩
theorem hide_not : ∃ S : ByteArray, (∀ (Q : Nat → Prop) {ad : Option Addr} {cap : Nat} (w : World), PL w → Tree Q w (nodeE 15 [nodeE 11 [leafE 3 2, leafE 1 2]]) (.agg #[.int .i64 15, .int .i64 0, .slice ad 1 cap]) → Calls Tryz.prog 25 #[(.agg #[.int .i64 15, .int .i64 0, .slice ad 1 cap])] w (Ret (.tuple #[.string S, .int .i64 0]) w)) ∧ (S.toList == ([110, 111, 116, 32, 112, 101, 114, 115, 111, 110, 115, 32, 60, 32, 50] : List UInt8)) = true :=
  ⟨⟨#[110, 111, 116, 32, 112, 101, 114, 115, 111, 110, 115, 32, 60, 32, 50]⟩, fun _ {_} {_} w h1 h2 => pr_not w h1 h2, by simp⟩
theorem hide_and : ∃ S : ByteArray, (∀ (Q : Nat → Prop) {ad : Option Addr} {cap : Nat} (w : World), PL w → Tree Q w (nodeE 13 [nodeE 14 [dayE 1, dayE 2], dayE 3]) (.agg #[.int .i64 13, .int .i64 0, .slice ad 2 cap]) → Calls Tryz.prog 25 #[(.agg #[.int .i64 13, .int .i64 0, .slice ad 2 cap])] w (Ret (.tuple #[.string S, .int .i64 0]) w)) ∧ (S.toList == ([40, 119, 101, 101, 107, 100, 97, 121, 32, 61, 32, 49, 32, 111, 114, 32, 119, 101, 101, 107, 100, 97, 121, 32, 61, 32, 50, 41, 32, 97, 110, 100, 32, 119, 101, 101, 107, 100, 97, 121, 32, 61, 32, 51] : List UInt8)) = true :=
  ⟨⟨#[40, 119, 101, 101, 107, 100, 97, 121, 32, 61, 32, 49, 32, 111, 114, 32, 119, 101, 101, 107, 100, 97, 121, 32, 61, 32, 50, 41, 32, 97, 110, 100, 32, 119, 101, 101, 107, 100, 97, 121, 32, 61, 32, 51]⟩, fun _ {_} {_} w h1 h2 => pr_and w h1 h2, by simp⟩
theorem hide_rate : ∃ S : ByteArray, (∀ (Q : Nat → Prop) {ad ad2 : Option Addr} {cap cap2 : Nat} (w : World), PL w → Tree Q w (dayE 1) (.agg #[.int .i64 12, .int .i64 0, .slice ad 2 cap]) → Tree Q w sumE (.agg #[.int .i64 6, .int .i64 0, .slice ad2 2 cap2]) → Calls Tryz.prog 27 #[.agg #[.int .i64 1, .int .i64 2, .int .i64 3, .int .i64 4, .int .i64 5, .int .i64 6, .int .i64 7, .int .i64 8, .int .i64 3, .int .i64 10, .int .i64 12, .int .i64 0, .slice ad 2 cap, .int .i64 6, .int .i64 0, .slice ad2 2 cap2]] w (Ret (.tuple #[.string S, .int .i64 0]) w)) ∧ (S.toList == ([114, 97, 116, 101, 32, 49, 32, 108, 101, 118, 101, 108, 32, 50, 32, 107, 105, 110, 100, 32, 51, 32, 110, 105, 103, 104, 116, 115, 32, 52, 32, 116, 111, 32, 53, 32, 115, 116, 97, 121, 32, 54, 32, 116, 111, 32, 55, 32, 97, 114, 114, 105, 118, 101, 32, 56, 32, 107, 101, 101, 112, 32, 51, 48, 37, 32, 119, 104, 101, 110, 32, 119, 101, 101, 107, 100, 97, 121, 32, 61, 32, 49, 32, 112, 114, 105, 99, 101, 32, 40, 110, 105, 103, 104, 116, 115, 32, 43, 32, 50, 41, 32, 42, 32, 49, 48, 46, 53, 48, 59] : List UInt8)) = true :=
  ⟨⟨([114, 97, 116, 101, 32, 49, 32, 108, 101, 118, 101, 108, 32, 50, 32, 107, 105, 110, 100, 32, 51, 32, 110, 105, 103, 104, 116, 115, 32, 52, 32, 116, 111, 32, 53, 32, 115, 116, 97, 121, 32, 54, 32, 116, 111, 32, 55, 32, 97, 114, 114, 105, 118, 101, 32, 56, 32, 107, 101, 101, 112, 32, 51, 48, 37, 32, 119, 104, 101, 110, 32, 119, 101, 101, 107, 100, 97, 121, 32, 61, 32, 49, 32, 112, 114, 105, 99, 101, 32, 40, 110, 105, 103, 104, 116, 115, 32, 43, 32, 50, 41, 32, 42, 32, 49, 48, 46, 53, 48, 59] : List UInt8).toArray⟩, fun _ {_ _} {_ _} w h1 h2 h3 => pr_rate w h1 h2 h3, by simp⟩
set_option maxHeartbeats 8000000 in
theorem head_any (w : World) (hP : PL w) : Calls Tryz.prog 24 #[] w (Ret (.bool true) w) := by
  obtain ⟨S0, P_sum, t0'⟩ := hide_sum
  obtain ⟨S1, P_sub, t1'⟩ := hide_sub
  obtain ⟨S2, P_not, t2'⟩ := hide_not
  obtain ⟨S3, P_and, t3'⟩ := hide_and
  obtain ⟨S9, P_rate, t9'⟩ := hide_rate
  obtain ⟨w0, hw0⟩ : ∃ w0, w0 = w := ⟨_, rfl⟩
  have hb : Below w.heap.size w w0 := by rw [hw0]; exact Below.refl _ _
  have hq : Calls Tryz.prog 24 #[] w0 (Ret (.bool true) w) → Calls Tryz.prog 24 #[] w (Ret (.bool true) w) := by rw [hw0]; exact id
  refine hq ?_
  clear hq hw0
  go_enter Tryz.func24, Tryz.ntmps24
  go_wp2_with fail
  refine (lleaf9_any 3 1 _).mono ?_
  rintro e w1 ⟨rfl, hx⟩
  replace hb := (hb).trans (hx.mono (hb).size)
  clear hx
  go_wp2_with fail
  refine (lleaf9_any 1 2 _).mono ?_
  rintro e w2 ⟨rfl, hx⟩
  replace hb := (hb).trans (hx.mono (hb).size)
  clear hx
  obtain ⟨bTA, hbTA⟩ : ∃ B, B = w2.heap.size := ⟨_, rfl⟩
  have on := Own.new w2 #[.int .i64 3, .int .i64 1, .slice none 0 0, .int .i64 1, .int .i64 2, .slice none 0 0] 24
  go_wp2_with fail
  refine (with9_any 4 (some ⟨w2.heap.size, 0, none⟩) 2 2 _).mono ?_
  rintro e w3 ⟨rfl, hx⟩
  replace on := on.below hx
  replace hb := (balloc hb _).trans (hx.mono (balloc hb _).size)
  clear hx
  rw [← hbTA] at on ⊢
  clear hbTA
  have TA := tree_two (Q := (fun _ => False)) (o := 4) (x := leafE 3 1) (y := leafE 1 2) (fun h => h) on (tree_leaf _ _ 3 1 none 0) (tree_leaf _ _ 1 2 none 0) 2
  clear on
  go_wp2_with fail
  refine (lleaf9_any 2 1050 _).mono ?_
  rintro e w4 ⟨rfl, hx⟩
  replace TA := TA.below hx
  replace hb := (hb).trans (hx.mono (hb).size)
  clear hx
  obtain ⟨bTS, hbTS⟩ : ∃ B, B = w4.heap.size := ⟨_, rfl⟩
  have on := Own.new w4 #[.int .i64 4, .int .i64 0, .slice (some ⟨bTA, 0, none⟩) 2 2, .int .i64 2, .int .i64 1050, .slice none 0 0] 24
  go_wp2_with fail
  refine (with9_any 6 (some ⟨w4.heap.size, 0, none⟩) 2 2 _).mono ?_
  rintro e w5 ⟨rfl, hx⟩
  replace on := on.below hx
  replace TA := (TA.alloc _).below hx
  replace hb := (balloc hb _).trans (hx.mono (balloc hb _).size)
  clear hx
  rw [← hbTS] at on ⊢
  clear hbTS
  have TS := tree_two (Q := (fun _ => False)) (o := 6) (x := (nodeE 4 [leafE 3 1, leafE 1 2])) (y := leafE 2 1050) (fun h => h) on TA (tree_leaf _ _ 2 1050 none 0) 2
  clear on TA
  obtain ⟨bS, hbS⟩ : ∃ B, B = w5.heap.size := ⟨_, rfl⟩
  have oS := Own.new w5 #[.int .i64 6, .int .i64 0, .slice (some ⟨bTS, 0, none⟩) 2 2] 24
  go_wp2_with fail
  refine (P_sum (fun _ => False) (w5.alloc (.cells #[.int .i64 6, .int .i64 0, .slice (some ⟨bTS, 0, none⟩) 2 2] 24)) (hP.below (balloc hb _)) (TS.alloc _)).mono ?_
  rintro e w6 ⟨rfl, hx⟩
  replace oS := oS.below hx
  replace TS := (TS.alloc _).below hx
  replace hb := (balloc hb _).trans (hx.mono (balloc hb _).size)
  clear hx
  rw [← hbS] at oS ⊢
  clear hbS
  go_wp2_with fail
  refine (lleaf9_any 1 1 _).mono ?_
  rintro e w7 ⟨rfl, hx⟩
  replace TS := TS.below hx
  replace oS := oS.below hx
  replace hb := (hb).trans (hx.mono (hb).size)
  clear hx
  go_wp2_with fail
  refine (lleaf9_any 1 2 _).mono ?_
  rintro e w8 ⟨rfl, hx⟩
  replace TS := TS.below hx
  replace oS := oS.below hx
  replace hb := (hb).trans (hx.mono (hb).size)
  clear hx
  go_wp2_with fail
  refine (lleaf9_any 1 3 _).mono ?_
  rintro e w9 ⟨rfl, hx⟩
  replace TS := TS.below hx
  replace oS := oS.below hx
  replace hb := (hb).trans (hx.mono (hb).size)
  clear hx
  obtain ⟨bTB, hbTB⟩ : ∃ B, B = w9.heap.size := ⟨_, rfl⟩
  have on := Own.new w9 #[.int .i64 1, .int .i64 2, .slice none 0 0, .int .i64 1, .int .i64 3, .slice none 0 0] 24
  go_wp2_with fail
  refine (with9_any 5 (some ⟨w9.heap.size, 0, none⟩) 2 2 _).mono ?_
  rintro e w10 ⟨rfl, hx⟩
  replace on := on.below hx
  replace TS := (TS.alloc _).below hx
  replace oS := (oS.alloc _).below hx
  replace hb := (balloc hb _).trans (hx.mono (balloc hb _).size)
  clear hx
  rw [← hbTB] at on ⊢
  clear hbTB
  have TB := tree_two (Q := (fun _ => False)) (o := 5) (x := leafE 1 2) (y := leafE 1 3) (fun h => h) on (tree_leaf _ _ 1 2 none 0) (tree_leaf _ _ 1 3 none 0) 2
  clear on
  obtain ⟨bTC, hbTC⟩ : ∃ B, B = w10.heap.size := ⟨_, rfl⟩
  have on := Own.new w10 #[.int .i64 1, .int .i64 1, .slice none 0 0, .int .i64 5, .int .i64 0, .slice (some ⟨bTB, 0, none⟩) 2 2] 24
  go_wp2_with fail
  refine (with9_any 5 (some ⟨w10.heap.size, 0, none⟩) 2 2 _).mono ?_
  rintro e w11 ⟨rfl, hx⟩
  replace on := on.below hx
  replace TS := (TS.alloc _).below hx
  replace oS := (oS.alloc _).below hx
  replace TB := (TB.alloc _).below hx
  replace hb := (balloc hb _).trans (hx.mono (balloc hb _).size)
  clear hx
  rw [← hbTC] at on ⊢
  clear hbTC
  have TC := tree_two (Q := (fun _ => False)) (o := 5) (x := leafE 1 1) (y := (nodeE 5 [leafE 1 2, leafE 1 3])) (fun h => h) on (tree_leaf _ _ 1 1 none 0) TB 2
  clear on TB
  go_wp2_with fail
  refine (P_sub (fun _ => False) w11 (hP.below hb) TC).mono ?_
  rintro e w12 ⟨rfl, hx⟩
  replace TS := TS.below hx
  replace oS := oS.below hx
  replace TC := TC.below hx
  replace hb := (hb).trans (hx.mono (hb).size)
  clear hx
  go_wp2_with fail
  refine (lleaf9_any 3 2 _).mono ?_
  rintro e w13 ⟨rfl, hx⟩
  replace TS := TS.below hx
  replace oS := oS.below hx
  replace hb := (hb).trans (hx.mono (hb).size)
  clear hx
  go_wp2_with fail
  refine (lleaf9_any 1 2 _).mono ?_
  rintro e w14 ⟨rfl, hx⟩
  replace TS := TS.below hx
  replace oS := oS.below hx
  replace hb := (hb).trans (hx.mono (hb).size)
  clear hx
  obtain ⟨bTD, hbTD⟩ : ∃ B, B = w14.heap.size := ⟨_, rfl⟩
  have on := Own.new w14 #[.int .i64 3, .int .i64 2, .slice none 0 0, .int .i64 1, .int .i64 2, .slice none 0 0] 24
  go_wp2_with fail
  refine (with9_any 11 (some ⟨w14.heap.size, 0, none⟩) 2 2 _).mono ?_
  rintro e w15 ⟨rfl, hx⟩
  replace on := on.below hx
  replace TS := (TS.alloc _).below hx
  replace oS := (oS.alloc _).below hx
  replace hb := (balloc hb _).trans (hx.mono (balloc hb _).size)
  clear hx
  rw [← hbTD] at on ⊢
  clear hbTD
  have TD := tree_two (Q := (fun _ => False)) (o := 11) (x := leafE 3 2) (y := leafE 1 2) (fun h => h) on (tree_leaf _ _ 3 2 none 0) (tree_leaf _ _ 1 2 none 0) 2
  clear on
  obtain ⟨bTE, hbTE⟩ : ∃ B, B = w15.heap.size := ⟨_, rfl⟩
  have on := Own.new w15 #[.int .i64 11, .int .i64 0, .slice (some ⟨bTD, 0, none⟩) 2 2] 24
  go_wp2_with fail
  refine (with9_any 15 (some ⟨w15.heap.size, 0, none⟩) 1 1 _).mono ?_
  rintro e w16 ⟨rfl, hx⟩
  replace on := on.below hx
  replace TS := (TS.alloc _).below hx
  replace oS := (oS.alloc _).below hx
  replace TD := (TD.alloc _).below hx
  replace hb := (balloc hb _).trans (hx.mono (balloc hb _).size)
  clear hx
  rw [← hbTE] at on ⊢
  clear hbTE
  have TE := tree_one (Q := (fun _ => False)) (o := 15) (x := (nodeE 11 [leafE 3 2, leafE 1 2])) (fun h => h) on TD 1
  clear on TD
  go_wp2_with fail
  refine (P_not (fun _ => False) w16 (hP.below hb) TE).mono ?_
  rintro e w17 ⟨rfl, hx⟩
  replace TS := TS.below hx
  replace oS := oS.below hx
  replace TE := TE.below hx
  replace hb := (hb).trans (hx.mono (hb).size)
  clear hx
  go_wp2_with fail
  refine (day_any 1 _).mono ?_
  rintro e w18 ⟨bTF, rfl, TF, hx⟩
  replace TS := TS.below hx
  replace oS := oS.below hx
  replace hb := (hb).trans (hx.mono (hb).size)
  clear hx
  replace TF := TF.free
  go_wp2_with fail
  refine (day_any 2 _).mono ?_
  rintro e w19 ⟨bTG, rfl, TG, hx⟩
  replace TS := TS.below hx
  replace oS := oS.below hx
  replace TF := TF.below hx
  replace hb := (hb).trans (hx.mono (hb).size)
  clear hx
  replace TG := TG.free
  obtain ⟨bTH, hbTH⟩ : ∃ B, B = w19.heap.size := ⟨_, rfl⟩
  have on := Own.new w19 #[.int .i64 12, .int .i64 0, .slice (some ⟨bTF, 0, none⟩) 2 2, .int .i64 12, .int .i64 0, .slice (some ⟨bTG, 0, none⟩) 2 2] 24
  go_wp2_with fail
  refine (with9_any 14 (some ⟨w19.heap.size, 0, none⟩) 2 2 _).mono ?_
  rintro e w20 ⟨rfl, hx⟩
  replace on := on.below hx
  replace TS := (TS.alloc _).below hx
  replace oS := (oS.alloc _).below hx
  replace TF := (TF.alloc _).below hx
  replace TG := (TG.alloc _).below hx
  replace hb := (balloc hb _).trans (hx.mono (balloc hb _).size)
  clear hx
  rw [← hbTH] at on ⊢
  clear hbTH
  have TH := tree_two (Q := (fun _ => False)) (o := 14) (x := (nodeE 12 [leafE 3 4, leafE 1 1])) (y := (nodeE 12 [leafE 3 4, leafE 1 2])) (fun h => h) on TF TG 2
  clear on TF TG
  go_wp2_with fail
  refine (day_any 3 _).mono ?_
  rintro e w21 ⟨bTI, rfl, TI, hx⟩
  replace TS := TS.below hx
  replace oS := oS.below hx
  replace TH := TH.below hx
  replace hb := (hb).trans (hx.mono (hb).size)
  clear hx
  replace TI := TI.free
  obtain ⟨bTJ, hbTJ⟩ : ∃ B, B = w21.heap.size := ⟨_, rfl⟩
  have on := Own.new w21 #[.int .i64 14, .int .i64 0, .slice (some ⟨bTH, 0, none⟩) 2 2, .int .i64 12, .int .i64 0, .slice (some ⟨bTI, 0, none⟩) 2 2] 24
  go_wp2_with fail
  refine (with9_any 13 (some ⟨w21.heap.size, 0, none⟩) 2 2 _).mono ?_
  rintro e w22 ⟨rfl, hx⟩
  replace on := on.below hx
  replace TS := (TS.alloc _).below hx
  replace oS := (oS.alloc _).below hx
  replace TH := (TH.alloc _).below hx
  replace TI := (TI.alloc _).below hx
  replace hb := (balloc hb _).trans (hx.mono (balloc hb _).size)
  clear hx
  rw [← hbTJ] at on ⊢
  clear hbTJ
  have TJ := tree_two (Q := (fun _ => False)) (o := 13) (x := (nodeE 14 [(nodeE 12 [leafE 3 4, leafE 1 1]), (nodeE 12 [leafE 3 4, leafE 1 2])])) (y := (nodeE 12 [leafE 3 4, leafE 1 3])) (fun h => h) on TH TI 2
  clear on TH TI
  go_wp2_with fail
  refine (P_and (fun _ => False) w22 (hP.below hb) TJ).mono ?_
  rintro e w23 ⟨rfl, hx⟩
  replace TS := TS.below hx
  replace oS := oS.below hx
  replace TJ := TJ.below hx
  replace hb := (hb).trans (hx.mono (hb).size)
  clear hx
  go_wp2_with fail
  refine (pr_zero w23 (hP.below hb) (tree_leaf (fun _ => False) _ 0 0 none 0)).mono ?_
  rintro e w24 ⟨rfl, hx⟩
  replace TS := TS.below hx
  replace oS := oS.below hx
  replace hb := (hb).trans (hx.mono (hb).size)
  clear hx
  obtain ⟨s0, s1, s2, -, -, -, sz⟩ := oS.three
  go_wp2_with fail
  go_cut [13] from 19 (fun s13 wx => ∃ (R bK : Nat), s13 = .pointer (some ⟨R, 0, none⟩) ∧ Own wx R [.int .i64 1, .int .i64 2, .int .i64 3, .int .i64 4, .int .i64 5, .int .i64 6, .int .i64 7, .int .i64 8, .int .i64 3, .int .i64 10, .int .i64 12, .int .i64 0, .slice (some ⟨bK, 0, none⟩) 2 2, .int .i64 6, .int .i64 0, .slice (some ⟨bTS, 0, none⟩) 2 2] ∧ Tree (fun k => k = R) wx (dayE 1) (.agg #[.int .i64 12, .int .i64 0, .slice (some ⟨bK, 0, none⟩) 2 2]) ∧ Tree (fun k => k = R) wx sumE (.agg #[.int .i64 6, .int .i64 0, .slice (some ⟨bTS, 0, none⟩) 2 2]) ∧ Below w.heap.size w wx ∧ w.heap.size ≤ R)
  case first =>
    go_region_with (go_at_call 48
                    refine (day_any 1 _).mono ?_
                    rintro e x1 ⟨bK, rfl, TK, hk⟩
                    have oS1 : Own x1 bS [.int .i64 6, .int .i64 0, .slice (some ⟨bTS, 0, none⟩) 2 2] := by first | exact (oS.drew).below hk | exact ((oS.drew).alloc _).below hk
                    have TS1 : Tree (fun _ => False) x1 sumE (.agg #[.int .i64 6, .int .i64 0, .slice (some ⟨bTS, 0, none⟩) 2 2]) := by first | exact (TS.drew).below hk | exact ((TS.drew).alloc _).below hk
                    have hb1 : Below w.heap.size w x1 := by first | exact (hb.drew).trans (hk.mono hb.size) | exact (balloc hb.drew _).trans (hk.mono (balloc hb _).size)
                    obtain ⟨r0, r1, r2, -, -, -, rz⟩ := oS1.three
                    try (have oR : Own x1 w24.heap.size [.int .i64 0, .int .i64 0, .int .i64 0, .int .i64 0, .int .i64 0, .int .i64 0, .int .i64 0, .int .i64 0, .int .i64 0, .int .i64 0, .int .i64 0, .int .i64 0, .slice none 0 0, .int .i64 0, .int .i64 0, .slice none 0 0] := (Own.new w24.drew #[.int .i64 0, .int .i64 0, .int .i64 0, .int .i64 0, .int .i64 0, .int .i64 0, .int .i64 0, .int .i64 0, .int .i64 0, .int .i64 0, .int .i64 0, .int .i64 0, .slice none 0 0, .int .i64 0, .int .i64 0, .slice none 0 0] 52).below hk
                         have p0 := oR.cell 0 _ rfl
                         have p1 := oR.cell 1 _ rfl
                         have p2 := oR.cell 2 _ rfl
                         have p3 := oR.cell 3 _ rfl
                         have p4 := oR.cell 4 _ rfl
                         have p5 := oR.cell 5 _ rfl
                         have p6 := oR.cell 6 _ rfl
                         have p7 := oR.cell 7 _ rfl
                         have p8 := oR.cell 8 _ rfl
                         have p9 := oR.cell 9 _ rfl
                         have p10 := oR.cell 10 _ rfl
                         have p11 := oR.cell 11 _ rfl
                         have p12 := oR.cell 12 _ rfl
                         have p13 := oR.cell 13 _ rfl
                         have p14 := oR.cell 14 _ rfl
                         have p15 := oR.cell 15 _ rfl
                         have f0 := oR.fro 0 _ rfl
                         have f1 := oR.fro 1 _ rfl
                         have f2 := oR.fro 2 _ rfl
                         have f3 := oR.fro 3 _ rfl
                         have f4 := oR.fro 4 _ rfl
                         have f5 := oR.fro 5 _ rfl
                         have f6 := oR.fro 6 _ rfl
                         have f7 := oR.fro 7 _ rfl
                         have f8 := oR.fro 8 _ rfl
                         have f9 := oR.fro 9 _ rfl
                         have f10 := oR.fro 10 _ rfl
                         have f11 := oR.fro 11 _ rfl
                         have f12 := oR.fro 12 _ rfl
                         have f13 := oR.fro 13 _ rfl
                         have f14 := oR.fro 14 _ rfl
                         have f15 := oR.fro 15 _ rfl
                         have pz := oR.lt))

    all_goals
      as_aux_lemma =>
        go_wp2_with fail
        go_meet
        first
        | (have TQ : Tree (fun k => k = w24.heap.size) x1 sumE (.agg #[.int .i64 6, .int .i64 0, .slice (some ⟨bTS, 0, none⟩) 2 2]) := ((TS.drew.bars (R := fun k => k = w24.heap.size) (fun k hk h => absurd hk (by show ¬ (k < w24.heap.size); omega))).alloc _).below hk
           have TK2 := (Tree.set (b := ⟨w24.heap.size, 15, none⟩) (Tree.set (b := ⟨w24.heap.size, 14, none⟩) (Tree.set (b := ⟨w24.heap.size, 13, none⟩) (Tree.set (b := ⟨w24.heap.size, 12, none⟩) (Tree.set (b := ⟨w24.heap.size, 11, none⟩) (Tree.set (b := ⟨w24.heap.size, 10, none⟩) (Tree.set (b := ⟨w24.heap.size, 9, none⟩) (Tree.set (b := ⟨w24.heap.size, 8, none⟩) (Tree.set (b := ⟨w24.heap.size, 7, none⟩) (Tree.set (b := ⟨w24.heap.size, 6, none⟩) (Tree.set (b := ⟨w24.heap.size, 5, none⟩) (Tree.set (b := ⟨w24.heap.size, 4, none⟩) (Tree.set (b := ⟨w24.heap.size, 3, none⟩) (Tree.set (b := ⟨w24.heap.size, 2, none⟩) (Tree.set (b := ⟨w24.heap.size, 1, none⟩) (Tree.set (b := ⟨w24.heap.size, 0, none⟩) (TK.bars (R := fun k => k = w24.heap.size) (fun k _ h => by show k < _; simp; omega)) (.int .i64 1) rfl) (.int .i64 2) rfl) (.int .i64 3) rfl) (.int .i64 4) rfl) (.int .i64 5) rfl) (.int .i64 6) rfl) (.int .i64 7) rfl) (.int .i64 8) rfl) (.int .i64 3) rfl) (.int .i64 10) rfl) (.int .i64 12) rfl) (.int .i64 0) rfl) (.slice (some ⟨bK, 0, none⟩) 2 2) rfl) (.int .i64 6) rfl) (.int .i64 0) rfl) (.slice (some ⟨bTS, 0, none⟩) 2 2) rfl)
           have TS2 := (Tree.set (b := ⟨w24.heap.size, 15, none⟩) (Tree.set (b := ⟨w24.heap.size, 14, none⟩) (Tree.set (b := ⟨w24.heap.size, 13, none⟩) (Tree.set (b := ⟨w24.heap.size, 12, none⟩) (Tree.set (b := ⟨w24.heap.size, 11, none⟩) (Tree.set (b := ⟨w24.heap.size, 10, none⟩) (Tree.set (b := ⟨w24.heap.size, 9, none⟩) (Tree.set (b := ⟨w24.heap.size, 8, none⟩) (Tree.set (b := ⟨w24.heap.size, 7, none⟩) (Tree.set (b := ⟨w24.heap.size, 6, none⟩) (Tree.set (b := ⟨w24.heap.size, 5, none⟩) (Tree.set (b := ⟨w24.heap.size, 4, none⟩) (Tree.set (b := ⟨w24.heap.size, 3, none⟩) (Tree.set (b := ⟨w24.heap.size, 2, none⟩) (Tree.set (b := ⟨w24.heap.size, 1, none⟩) (Tree.set (b := ⟨w24.heap.size, 0, none⟩) TQ (.int .i64 1) rfl) (.int .i64 2) rfl) (.int .i64 3) rfl) (.int .i64 4) rfl) (.int .i64 5) rfl) (.int .i64 6) rfl) (.int .i64 7) rfl) (.int .i64 8) rfl) (.int .i64 3) rfl) (.int .i64 10) rfl) (.int .i64 12) rfl) (.int .i64 0) rfl) (.slice (some ⟨bK, 0, none⟩) 2 2) rfl) (.int .i64 6) rfl) (.int .i64 0) rfl) (.slice (some ⟨bTS, 0, none⟩) 2 2) rfl)
           have oR2 : Own _ w24.heap.size [.int .i64 1, .int .i64 2, .int .i64 3, .int .i64 4, .int .i64 5, .int .i64 6, .int .i64 7, .int .i64 8, .int .i64 3, .int .i64 10, .int .i64 12, .int .i64 0, .slice (some ⟨bK, 0, none⟩) 2 2, .int .i64 6, .int .i64 0, .slice (some ⟨bTS, 0, none⟩) 2 2] := ((((((((((((((((oR.setAt (i := 0) (.int .i64 1) (by simp)).setAt (i := 1) (.int .i64 2) (by simp)).setAt (i := 2) (.int .i64 3) (by simp)).setAt (i := 3) (.int .i64 4) (by simp)).setAt (i := 4) (.int .i64 5) (by simp)).setAt (i := 5) (.int .i64 6) (by simp)).setAt (i := 6) (.int .i64 7) (by simp)).setAt (i := 7) (.int .i64 8) (by simp)).setAt (i := 8) (.int .i64 3) (by simp)).setAt (i := 9) (.int .i64 10) (by simp)).setAt (i := 10) (.int .i64 12) (by simp)).setAt (i := 11) (.int .i64 0) (by simp)).setAt (i := 12) (.slice (some ⟨bK, 0, none⟩) 2 2) (by simp)).setAt (i := 13) (.int .i64 6) (by simp)).setAt (i := 14) (.int .i64 0) (by simp)).setAt (i := 15) (.slice (some ⟨bTS, 0, none⟩) 2 2) (by simp))
           have hb2 := (Below.setCell (Below.setCell (Below.setCell (Below.setCell (Below.setCell (Below.setCell (Below.setCell (Below.setCell (Below.setCell (Below.setCell (Below.setCell (Below.setCell (Below.setCell (Below.setCell (Below.setCell (Below.setCell hb1 (p := ⟨w24.heap.size, 0, none⟩) hb.size (.int .i64 1)) (p := ⟨w24.heap.size, 1, none⟩) hb.size (.int .i64 2)) (p := ⟨w24.heap.size, 2, none⟩) hb.size (.int .i64 3)) (p := ⟨w24.heap.size, 3, none⟩) hb.size (.int .i64 4)) (p := ⟨w24.heap.size, 4, none⟩) hb.size (.int .i64 5)) (p := ⟨w24.heap.size, 5, none⟩) hb.size (.int .i64 6)) (p := ⟨w24.heap.size, 6, none⟩) hb.size (.int .i64 7)) (p := ⟨w24.heap.size, 7, none⟩) hb.size (.int .i64 8)) (p := ⟨w24.heap.size, 8, none⟩) hb.size (.int .i64 3)) (p := ⟨w24.heap.size, 9, none⟩) hb.size (.int .i64 10)) (p := ⟨w24.heap.size, 10, none⟩) hb.size (.int .i64 12)) (p := ⟨w24.heap.size, 11, none⟩) hb.size (.int .i64 0)) (p := ⟨w24.heap.size, 12, none⟩) hb.size (.slice (some ⟨bK, 0, none⟩) 2 2)) (p := ⟨w24.heap.size, 13, none⟩) hb.size (.int .i64 6)) (p := ⟨w24.heap.size, 14, none⟩) hb.size (.int .i64 0)) (p := ⟨w24.heap.size, 15, none⟩) hb.size (.slice (some ⟨bTS, 0, none⟩) 2 2))
           exact ⟨w24.heap.size, bK, rfl, oR2, TK2, TS2, hb2, hb.size⟩)
        | (have oR2 := Own.new x1 #[.int .i64 1, .int .i64 2, .int .i64 3, .int .i64 4, .int .i64 5, .int .i64 6, .int .i64 7, .int .i64 8, .int .i64 3, .int .i64 10, .int .i64 12, .int .i64 0, .slice (some ⟨bK, 0, none⟩) 2 2, .int .i64 6, .int .i64 0, .slice (some ⟨bTS, 0, none⟩) 2 2] 52
           exact ⟨x1.heap.size, bK, rfl, oR2, (TK.bars (R := fun k => k = x1.heap.size) (fun k hk h => absurd hk (by show ¬ (k < x1.heap.size); omega))).alloc (.cells #[.int .i64 1, .int .i64 2, .int .i64 3, .int .i64 4, .int .i64 5, .int .i64 6, .int .i64 7, .int .i64 8, .int .i64 3, .int .i64 10, .int .i64 12, .int .i64 0, .slice (some ⟨bK, 0, none⟩) 2 2, .int .i64 6, .int .i64 0, .slice (some ⟨bTS, 0, none⟩) 2 2] 52), (TS1.bars (R := fun k => k = x1.heap.size) (fun k hk h => absurd hk (by show ¬ (k < x1.heap.size); omega))).alloc (.cells #[.int .i64 1, .int .i64 2, .int .i64 3, .int .i64 4, .int .i64 5, .int .i64 6, .int .i64 7, .int .i64 8, .int .i64 3, .int .i64 10, .int .i64 12, .int .i64 0, .slice (some ⟨bK, 0, none⟩) 2 2, .int .i64 6, .int .i64 0, .slice (some ⟨bTS, 0, none⟩) 2 2] 52), balloc hb1 (.cells #[.int .i64 1, .int .i64 2, .int .i64 3, .int .i64 4, .int .i64 5, .int .i64 6, .int .i64 7, .int .i64 8, .int .i64 3, .int .i64 10, .int .i64 12, .int .i64 0, .slice (some ⟨bK, 0, none⟩) 2 2, .int .i64 6, .int .i64 0, .slice (some ⟨bTS, 0, none⟩) 2 2] 52), hb1.size⟩)
  case rest =>
    as_aux_lemma =>
      clear oS TS hb s0 s1 s2 sz
      obtain ⟨R, bK, rfl, oR2, TK2, TS2, hb2, hRw⟩ := hcut
      obtain ⟨c0, c1, c2, c3, c4, c5, c6, c7, c8, c9, c10, c11, c12, c13, c14, c15, -⟩ := own_16 oR2
      go_wp2_with fail
      refine (P_rate _ _ (hP.below hb2) TK2 TS2).mono ?_
      rintro e X2 ⟨rfl, hx⟩
      replace TK2 := TK2.below hx
      replace TS2 := TS2.below hx
      replace oR2 := oR2.below hx
      replace hb2 := hb2.trans (hx.mono hb2.size)
      clear hx c0 c1 c2 c3 c4 c5 c6 c7 c8 c9 c10 c11 c12 c13 c14 c15
      have g9 := oR2.fro 9 _ rfl
      have c9 := oR2.cell 9 _ rfl
      have hlt := oR2.lt
      have oR3 : Own (X2.setCell ⟨R, 9, none⟩ (.int .i64 7)) R [.int .i64 1, .int .i64 2, .int .i64 3, .int .i64 4, .int .i64 5, .int .i64 6, .int .i64 7, .int .i64 8, .int .i64 3, .int .i64 7, .int .i64 12, .int .i64 0, .slice (some ⟨bK, 0, none⟩) 2 2, .int .i64 6, .int .i64 0, .slice (some ⟨bTS, 0, none⟩) 2 2] := oR2.setAt (i := 9) (.int .i64 7) (by simp)
      have TK3 : Tree (fun k => k = R) (X2.setCell ⟨R, 9, none⟩ (.int .i64 7)) (dayE 1) _ := Tree.set (b := ⟨R, 9, none⟩) TK2 (.int .i64 7) rfl
      have TS3 : Tree (fun k => k = R) (X2.setCell ⟨R, 9, none⟩ (.int .i64 7)) sumE _ := Tree.set (b := ⟨R, 9, none⟩) TS2 (.int .i64 7) rfl
      have hb3 : Below w.heap.size w (X2.setCell ⟨R, 9, none⟩ (.int .i64 7)) := hb2.setCell (p := ⟨R, 9, none⟩) hRw _
      obtain ⟨d0, d1, d2, d3, d4, d5, d6, d7, d8, d9, d10, d11, d12, d13, d14, d15, -⟩ := own_16 oR3
      clear TK2 TS2 oR2 hb2
      go_wp2_with fail
      refine (pr_rate7 _ (hP.below hb3) TK3 TS3).mono ?_
      rintro e X4 ⟨rfl, hx⟩
      go_wp2_with fail
      go_ret
      exact Ret.mk (by first | rfl | (show Value.bool (S9.toList == _) = Value.bool true; rw [t9'])) (hb3.trans (hx.mono hb3.size))
  
end Go.Proofs.YtlkefcbkpohpgaaGreatDoor
