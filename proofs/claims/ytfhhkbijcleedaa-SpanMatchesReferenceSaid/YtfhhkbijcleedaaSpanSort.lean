/-
  The sorting of the ends of spans: the library's own contracts, laid at this program; the comparing of two ends.
-/
import Derived.Shelf.SlSortCmp.NoneTotal
import Derived.Shelf.SlSortCmp.WholeK
import Derived.Shelf.SlicesG.Cmp
import Derived.Shelf.Lay
import Derived.Ground.SlsfProg
import Derived.Ground.SlgcProg
import Derived.Test.YtfhhkbijcleedaaSpanPlain
import Derived.Test.YtfhhkbijcleedaaProg
import Derived.LoopN
namespace Go.Proofs.Ytfhhkbijcleedaa
open Go.Shelf Go.RowKit Go.Lib Go.Sort
shelf_lay_g SlLaysF0.n6 Slsf 6 at Try 42 as Try.sortEnd
shelf_lay_g SlLaysC2.n5 Slgc 5 at Try 47 as Try.cmpInt

abbrev En := Int × Int × Int
def encE (x : En) : List Value := [.int .i64 x.1, .int .i64 x.2.1, .int .i64 x.2.2]
def cmp1 (r0 r1 r2 : Int) : Int := if r0 = 0 then (if r1 = 0 then r2 else r1) else r0
def cmpE (x y : En) : Int := cmp1 (Lib.compareInt x.1 y.1) (Lib.compareInt x.2.1 y.2.1) (Lib.compareInt x.2.2 y.2.2)

set_option maxHeartbeats 1000000 in
theorem compare_any (b1 b2 : Nat) (x0 x1 x2 y0 y1 y2 : Int) (w : World) (hx : Own w b1 [.int .i64 x0, .int .i64 x1, .int .i64 x2]) (hy : Own w b2 [.int .i64 y0, .int .i64 y1, .int .i64 y2]) :
    Calls Try.prog 44 #[.slice (some ⟨b1, 0, none⟩) 3 3, .slice (some ⟨b2, 0, none⟩) 3 3] w (Same (.int .i64 (cmp1 (Lib.compareInt x0 y0) (Lib.compareInt x1 y1) (Lib.compareInt x2 y2))) w) := by
  have h0 := fun W' => AnyG.cmp_Compare_int Try.cmpInt x0 y0 W'
  have h1 := fun W' => AnyG.cmp_Compare_int Try.cmpInt x1 y1 W'
  have h2 := fun W' => AnyG.cmp_Compare_int Try.cmpInt x2 y2 W'
  change ∀ W', Calls Try.prog 47 _ _ _ at h0 h1 h2
  generalize Lib.compareInt x0 y0 = r0 at h0 ⊢
  generalize Lib.compareInt x1 y1 = r1 at h1 ⊢
  generalize Lib.compareInt x2 y2 = r2 at h2 ⊢
  have a0 := hx.cell 0 _ rfl
  have a1 := hx.cell 1 _ rfl
  have a2 := hx.cell 2 _ rfl
  have e0 := hy.cell 0 _ rfl
  have e1 := hy.cell 1 _ rfl
  have e2 := hy.cell 2 _ rfl
  clear hx hy
  go_enter Try.func44, Try.ntmps44
  go_wp2_with fail
  refine wp_loop_rounds 4 ?_
  rw [rounds_succ]
  go_wp2_with (go_at_call 47; refine (h0 _).mono ?_; rintro e w' ⟨rfl, rfl⟩)
  · go_ret
    have hz : ¬ r0 = 0 := by simpa using (show (r0 != 0) = true by assumption)
    exact Same.mk (by simp [cmp1, hz]) rfl
  have hz0 : r0 = 0 := by simpa using (show (r0 != 0) = false by assumption)
  rw [rounds_succ]
  go_wp2_with (go_at_call 47; refine (h1 _).mono ?_; rintro e w' ⟨rfl, rfl⟩)
  · go_ret
    have hz : ¬ r1 = 0 := by simpa using (show (r1 != 0) = true by assumption)
    exact Same.mk (by simp [cmp1, hz, hz0]) rfl
  have hz1 : r1 = 0 := by simpa using (show (r1 != 0) = false by assumption)
  rw [rounds_succ]
  go_wp2_with (go_at_call 47; refine (h2 _).mono ?_; rintro e w' ⟨rfl, rfl⟩)
  · go_ret
    exact Same.mk (by simp [cmp1, hz0, hz1]) rfl
  have hz2 : r2 = 0 := by simpa using (show (r2 != 0) = false by assumption)
  rw [rounds_succ]
  go_wp2_with fail
  go_ret
  exact Same.mk (by simp [cmp1, hz0, hz1, hz2]) rfl

set_option maxHeartbeats 1000000 in
theorem endsCmp_any (x y : En) (W : World) : Calls Try.prog 43 #[.agg (encE x).toArray, .agg (encE y).toArray] W fun e w' => e = .returned (.int .i64 (cmpE x y)) ∧ ∃ q os', w' = grow (W.drewN q) os' := by
  obtain ⟨x0, x1, x2⟩ := x
  obtain ⟨y0, y1, y2⟩ := y
  obtain ⟨W1, hW1⟩ : ∃ W1, (W.alloc (.cells #[.int .i64 x0, .int .i64 x1, .int .i64 x2] 57)).alloc (.cells #[.int .i64 y0, .int .i64 y1, .int .i64 y2] 57) = W1 := ⟨_, rfl⟩
  have hO1 : ∀ n, Own (W1.drewN n) W.heap.size [.int .i64 x0, .int .i64 x1, .int .i64 x2] := fun n => by
    have h := ((Own.new W #[.int .i64 x0, .int .i64 x1, .int .i64 x2] 57).alloc (.cells #[.int .i64 y0, .int .i64 y1, .int .i64 y2] 57))
    rw [hW1] at h; exact h.below (below_drewN (Below.refl _ _) n)
  have hO2 : ∀ n, Own (W1.drewN n) (W.heap.size + 1) [.int .i64 y0, .int .i64 y1, .int .i64 y2] := fun n => by
    have h := Own.new (W.alloc (.cells #[.int .i64 x0, .int .i64 x1, .int .i64 x2] 57)) #[.int .i64 y0, .int .i64 y1, .int .i64 y2] 57
    rw [hW1, World.size_alloc] at h; exact h.below (below_drewN (Below.refl _ _) n)
  have hcon := fun n => compare_any W.heap.size (W.heap.size + 1) x0 x1 x2 y0 y1 y2 (W1.drewN n) (hO1 n) (hO2 n)
  have hE : cmpE (x0, x1, x2) (y0, y1, y2) = cmp1 (Lib.compareInt x0 y0) (Lib.compareInt x1 y1) (Lib.compareInt x2 y2) := rfl
  rw [hE]
  generalize cmp1 _ _ _ = r at hcon ⊢
  simp only [encE]
  go_enter Try.func43, Try.ntmps43
  go_wp2_with fail
  clear hO1 hO2
  go_quiet ((go_at_call 44; exact (hcon _).mono fun _ _ ⟨he, hw⟩ => ⟨he, _, hw.symm⟩))
  go_wp2_with fail
  go_ret
  subst hW1
  exact ⟨rfl, nq, _, by rw [alloc_eq_grow, alloc_eq_grow, grow_grow]; rfl⟩
end Go.Proofs.Ytfhhkbijcleedaa
