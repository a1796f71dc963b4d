/-
  The law's own leaf, node and plain rate.
-/
import Derived.Test.YtbkcpcjdpfndpaaTypVal
namespace Go.Proofs.Ytbkcpcjdpfndpaa
open Go.RowKit Go.Shelf
set_option maxRecDepth 100000
set_option linter.unusedVariables false

theorem alT (w : World) (o : Obj) : Below w.heap.size w (w.alloc o) := Below.alloc (Below.refl _ _) (Nat.le_refl _) o
theorem ballocT {w w1 : World} (h : Below w.heap.size w w1) (o : Obj) : Below w.heap.size w (w1.alloc o) := h.alloc h.size o
set_option maxHeartbeats 400000 in
theorem node10_any (o : Int) (ad : Option Addr) (n cap : Nat) (w : World) : Calls Try.prog 20 #[.int .i64 o, .slice ad n cap] w (Ret (.agg #[.int .i64 o, .int .i64 0, .slice ad n cap]) w) := by
  go_enter Try.func20, Try.ntmps20
  go_wp2_with fail
  have ho := Own.new w #[.int .i64 0, .int .i64 0, .slice none 0 0] 24
  refine ret_cells (vs := [.int .i64 o, .int .i64 0, .slice ad n cap]) rfl Try.underlying24 rfl (by kernel_rfl) (B := w.heap.size) (by first | exact (((ho.setAt (i := 0) _ (by simp)).setAt (i := 1) _ (by simp)).setAt (i := 2) _ (by simp)) | exact Own.new _ _ _) rfl rfl ?_
  exact Ret.mk rfl (by (repeat (first | exact Below.refl _ _ | assumption | refine Below.drew ?_ | refine below_drewN ?_ _ | refine Below.setCell ?_ (by first | omega | (simp <;> omega)) _ | refine Below.alloc ?_ (by first | omega | (simp <;> omega)) _)))
set_option maxHeartbeats 400000 in
theorem leaf10_any (o n : Int) (w : World) : Calls Try.prog 19 #[.int .i64 o, .int .i64 n] w (Ret (.agg #[.int .i64 o, .int .i64 n, .slice none 0 0]) w) := by
  go_enter Try.func19, Try.ntmps19
  go_wp2_with fail
  have ho := Own.new w #[.int .i64 0, .int .i64 0, .slice none 0 0] 24
  refine ret_cells (vs := [.int .i64 o, .int .i64 n, .slice none 0 0]) rfl Try.underlying24 rfl (by kernel_rfl) (B := w.heap.size) (by first | exact (((ho.setAt (i := 0) _ (by simp)).setAt (i := 1) _ (by simp)).setAt (i := 2) _ (by simp)) | exact Own.new _ _ _) rfl rfl ?_
  exact Ret.mk rfl (by (repeat (first | exact Below.refl _ _ | assumption | refine Below.drew ?_ | refine below_drewN ?_ _ | refine Below.setCell ?_ (by first | omega | (simp <;> omega)) _ | refine Below.alloc ?_ (by first | omega | (simp <;> omega)) _)))
abbrev oneE : Xp := nodeE 12 [leafE 1 1, leafE 1 1]
def plainR (id : Int) : Rg := ⟨id, 0, 1, 0, 9, 1, 3, 127, 1, 2, oneE, leafE 2 100⟩
/-- what plain gives -/
def PlEnd (id : Int) (w : World) (e : Ending) (w' : World) : Prop := ∃ B, e = .returned (.agg #[.int .i64 id, .int .i64 0, .int .i64 1, .int .i64 0, .int .i64 9, .int .i64 1, .int .i64 3, .int .i64 127, .int .i64 1, .int .i64 2, .int .i64 12, .int .i64 0, .slice (some ⟨B, 0, none⟩) 2 2, .int .i64 2, .int .i64 100, .slice none 0 0]) ∧ Tree (Lo w.heap.size) w' oneE (.agg #[.int .i64 12, .int .i64 0, .slice (some ⟨B, 0, none⟩) 2 2]) ∧ Below w.heap.size w w'
theorem ret_own {P : Program} {fn : Func} {p : Tmp} {ty : TypeId} {d : TypeDesc} {vs : List Value} (h : fn.results = #[.cell p ty]) (hu : P.underlying ty = some d) (hd : (match d with | .struct _ | .array _ _ => true | _ => false) = true) (hi : (P.info? ty).map (·.size) = some vs.length)
    {B : Nat} {a : Act} {w : World} (ho : Own w B vs) (hp : a.tmps.getD p undef = .pointer (some ⟨B, 0, none⟩)) (hdef : a.defers = []) {R : Ending → World → Prop} (hR : R (.returned (.agg vs.toArray)) w) : bodyPost P fn R Exit.ret a w := ret_cells h hu hd hi ho hp hdef hR
set_option maxHeartbeats 6400000 in
theorem plain_any (id : Int) (w : World) : Calls Try.prog 21 #[.int .i64 id] w (PlEnd id w) := by
  have op := Own.new w #[.int .i64 0, .int .i64 0, .int .i64 0, .int .i64 0, .int .i64 0, .int .i64 0, .int .i64 0, .int .i64 0, .int .i64 0, .int .i64 0, .int .i64 0, .int .i64 0, .slice none 0 0, .int .i64 0, .int .i64 0, .slice none 0 0] 30
  have hb := alT w (.cells #[.int .i64 0, .int .i64 0, .int .i64 0, .int .i64 0, .int .i64 0, .int .i64 0, .int .i64 0, .int .i64 0, .int .i64 0, .int .i64 0, .int .i64 0, .int .i64 0, .slice none 0 0, .int .i64 0, .int .i64 0, .slice none 0 0] 30)
  go_enter Try.func21, Try.ntmps21
  go_wp2_with fail
  refine (leaf10_any 1 1 _).mono ?_
  rintro e w1 ⟨rfl, hx⟩
  replace op := op.below hx
  replace hb := hb.trans (hx.mono hb.size)
  clear hx
  go_wp2_with fail
  obtain ⟨w2, hw2⟩ : ∃ w2, w2 = w1.alloc (.cells #[.int .i64 1, .int .i64 1, .slice none 0 0] 24) := ⟨_, rfl⟩
  replace op := op.alloc (.cells #[.int .i64 1, .int .i64 1, .slice none 0 0] 24)
  replace hb := ballocT hb (.cells #[.int .i64 1, .int .i64 1, .slice none 0 0] 24)
  rw [← hw2] at op hb
  have on := Own.new w2 #[.int .i64 1, .int .i64 1, .slice none 0 0, .int .i64 1, .int .i64 1, .slice none 0 0] 24
  have hn := node10_any 12 (some ⟨w2.heap.size, 0, none⟩) 2 2 (w2.alloc (.cells #[.int .i64 1, .int .i64 1, .slice none 0 0, .int .i64 1, .int .i64 1, .slice none 0 0] 24))
  have hz1 : w2.heap.size = w1.heap.size + 1 := by rw [hw2]; simp
  rw [hz1] at hn
  rw [hw2] at hn
  refine hn.mono ?_
  rw [← hw2]
  rintro e w3 ⟨rfl, hx⟩
  rw [← hz1]
  clear hn hz1 hw2
  replace on := on.below hx
  have hlt := op.lt
  replace op := (op.alloc _).below hx
  replace hb := (ballocT hb _).trans (hx.mono (ballocT hb _).size)
  clear hx
  have TT := tree_two (Q := Lo (w.heap.size + 1)) (o := 12) (x := leafE 1 1) (y := leafE 1 1) (by show ¬ w2.heap.size < w.heap.size + 1; omega) on (tree_leaf _ _ 1 1 none 0) (tree_leaf _ _ 1 1 none 0) 2
  clear on
  go_wp2_with fail
  refine (leaf10_any 2 100 _).mono ?_
  rintro e w4 ⟨rfl, hx⟩
  replace op := op.below hx
  replace hb := hb.trans (hx.mono hb.size)
  replace TT := TT.below hx
  clear hx
  have p0 := op.cell 0 _ rfl
  have f0 := op.fro 0 _ rfl
  have p1 := op.cell 1 _ rfl
  have f1 := op.fro 1 _ rfl
  have p2 := op.cell 2 _ rfl
  have f2 := op.fro 2 _ rfl
  have p3 := op.cell 3 _ rfl
  have f3 := op.fro 3 _ rfl
  have p4 := op.cell 4 _ rfl
  have f4 := op.fro 4 _ rfl
  have p5 := op.cell 5 _ rfl
  have f5 := op.fro 5 _ rfl
  have p6 := op.cell 6 _ rfl
  have f6 := op.fro 6 _ rfl
  have p7 := op.cell 7 _ rfl
  have f7 := op.fro 7 _ rfl
  have p8 := op.cell 8 _ rfl
  have f8 := op.fro 8 _ rfl
  have p9 := op.cell 9 _ rfl
  have f9 := op.fro 9 _ rfl
  have p10 := op.cell 10 _ rfl
  have f10 := op.fro 10 _ rfl
  have p11 := op.cell 11 _ rfl
  have f11 := op.fro 11 _ rfl
  have p12 := op.cell 12 _ rfl
  have f12 := op.fro 12 _ rfl
  have p13 := op.cell 13 _ rfl
  have f13 := op.fro 13 _ rfl
  have p14 := op.cell 14 _ rfl
  have f14 := op.fro 14 _ rfl
  have p15 := op.cell 15 _ rfl
  have f15 := op.fro 15 _ rfl
  have pz := op.lt
  go_wp2_with fail
  clear p0 f0 p1 f1 p2 f2 p3 f3 p4 f4 p5 f5 p6 f6 p7 f7 p8 f8 p9 f9 p10 f10 p11 f11 p12 f12 p13 f13 p14 f14 p15 f15
  refine ret_cells (vs := [.int .i64 id, .int .i64 0, .int .i64 1, .int .i64 0, .int .i64 9, .int .i64 1, .int .i64 3, .int .i64 127, .int .i64 1, .int .i64 2, .int .i64 12, .int .i64 0, .slice (some ⟨w2.heap.size, 0, none⟩) 2 2, .int .i64 2, .int .i64 100, .slice none 0 0]) rfl Try.underlying30 rfl (by kernel_rfl) (B := w.heap.size) ((((((((((((((((op.setAt (i := 0) (.int .i64 id) (by simp)).setAt (i := 1) (.int .i64 0) (by simp)).setAt (i := 2) (.int .i64 1) (by simp)).setAt (i := 3) (.int .i64 0) (by simp)).setAt (i := 4) (.int .i64 9) (by simp)).setAt (i := 5) (.int .i64 1) (by simp)).setAt (i := 6) (.int .i64 3) (by simp)).setAt (i := 7) (.int .i64 127) (by simp)).setAt (i := 8) (.int .i64 1) (by simp)).setAt (i := 9) (.int .i64 2) (by simp)).setAt (i := 10) (.int .i64 12) (by simp)).setAt (i := 11) (.int .i64 0) (by simp)).setAt (i := 12) (.slice (some ⟨w2.heap.size, 0, none⟩) 2 2) (by simp)).setAt (i := 13) (.int .i64 2) (by simp)).setAt (i := 14) (.int .i64 100) (by simp)).setAt (i := 15) (.slice none 0 0) (by simp)) rfl rfl ?_
  exact ⟨w2.heap.size, rfl, Tree.lo (Tree.set (b := ⟨w.heap.size, 15, none⟩) (Tree.set (b := ⟨w.heap.size, 14, none⟩) (Tree.set (b := ⟨w.heap.size, 13, none⟩) (Tree.set (b := ⟨w.heap.size, 12, none⟩) (Tree.set (b := ⟨w.heap.size, 11, none⟩) (Tree.set (b := ⟨w.heap.size, 10, none⟩) (Tree.set (b := ⟨w.heap.size, 9, none⟩) (Tree.set (b := ⟨w.heap.size, 8, none⟩) (Tree.set (b := ⟨w.heap.size, 7, none⟩) (Tree.set (b := ⟨w.heap.size, 6, none⟩) (Tree.set (b := ⟨w.heap.size, 5, none⟩) (Tree.set (b := ⟨w.heap.size, 4, none⟩) (Tree.set (b := ⟨w.heap.size, 3, none⟩) (Tree.set (b := ⟨w.heap.size, 2, none⟩) (Tree.set (b := ⟨w.heap.size, 1, none⟩) (Tree.set (b := ⟨w.heap.size, 0, none⟩) TT (.int .i64 id) (by show w.heap.size < w.heap.size + 1; omega)) (.int .i64 0) (by show w.heap.size < w.heap.size + 1; omega)) (.int .i64 1) (by show w.heap.size < w.heap.size + 1; omega)) (.int .i64 0) (by show w.heap.size < w.heap.size + 1; omega)) (.int .i64 9) (by show w.heap.size < w.heap.size + 1; omega)) (.int .i64 1) (by show w.heap.size < w.heap.size + 1; omega)) (.int .i64 3) (by show w.heap.size < w.heap.size + 1; omega)) (.int .i64 127) (by show w.heap.size < w.heap.size + 1; omega)) (.int .i64 1) (by show w.heap.size < w.heap.size + 1; omega)) (.int .i64 2) (by show w.heap.size < w.heap.size + 1; omega)) (.int .i64 12) (by show w.heap.size < w.heap.size + 1; omega)) (.int .i64 0) (by show w.heap.size < w.heap.size + 1; omega)) (.slice (some ⟨w2.heap.size, 0, none⟩) 2 2) (by show w.heap.size < w.heap.size + 1; omega)) (.int .i64 2) (by show w.heap.size < w.heap.size + 1; omega)) (.int .i64 100) (by show w.heap.size < w.heap.size + 1; omega)) (.slice none 0 0) (by show w.heap.size < w.heap.size + 1; omega)) (Nat.le_succ _), ((((((((((((((((hb.setCell (p := ⟨w.heap.size, 0, none⟩) (Nat.le_refl _) (.int .i64 id)).setCell (p := ⟨w.heap.size, 1, none⟩) (Nat.le_refl _) (.int .i64 0)).setCell (p := ⟨w.heap.size, 2, none⟩) (Nat.le_refl _) (.int .i64 1)).setCell (p := ⟨w.heap.size, 3, none⟩) (Nat.le_refl _) (.int .i64 0)).setCell (p := ⟨w.heap.size, 4, none⟩) (Nat.le_refl _) (.int .i64 9)).setCell (p := ⟨w.heap.size, 5, none⟩) (Nat.le_refl _) (.int .i64 1)).setCell (p := ⟨w.heap.size, 6, none⟩) (Nat.le_refl _) (.int .i64 3)).setCell (p := ⟨w.heap.size, 7, none⟩) (Nat.le_refl _) (.int .i64 127)).setCell (p := ⟨w.heap.size, 8, none⟩) (Nat.le_refl _) (.int .i64 1)).setCell (p := ⟨w.heap.size, 9, none⟩) (Nat.le_refl _) (.int .i64 2)).setCell (p := ⟨w.heap.size, 10, none⟩) (Nat.le_refl _) (.int .i64 12)).setCell (p := ⟨w.heap.size, 11, none⟩) (Nat.le_refl _) (.int .i64 0)).setCell (p := ⟨w.heap.size, 12, none⟩) (Nat.le_refl _) (.slice (some ⟨w2.heap.size, 0, none⟩) 2 2)).setCell (p := ⟨w.heap.size, 13, none⟩) (Nat.le_refl _) (.int .i64 2)).setCell (p := ⟨w.heap.size, 14, none⟩) (Nat.le_refl _) (.int .i64 100)).setCell (p := ⟨w.heap.size, 15, none⟩) (Nat.le_refl _) (.slice none 0 0))⟩
end Go.Proofs.Ytbkcpcjdpfndpaa
