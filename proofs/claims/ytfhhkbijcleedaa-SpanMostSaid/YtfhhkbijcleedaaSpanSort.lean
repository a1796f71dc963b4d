/-
  The sorting of the ends of spans: the library's own contracts, laid at this program; the comparing of two ends.
-/
import Derived.Shelf.SlSortCmp.NoneTotal
import Derived.Shelf.SlSortCmp.WholeK
import Derived.Shelf.SlicesG.Cmp
import Derived.Ground.SlsfProg
import Derived.Ground.SlgcProg
import Derived.Test.YtfhhkbijcleedaaSpanPlain
import Derived.Test.YtfhhkbijcleedaaProg
import Derived.LoopN
namespace Go.Proofs.Ytfhhkbijcleedaa
open Go.Shelf Go.RowKit Go.Lib Go.Sort
def Try.sortEnd_ren : Go.Shelf.Ren := ⟨fun | 6 => 42 | 15 => 46 | 14 => 45 | 28 => 56 | 29 => 57 | 20 => 48 | 21 => 49 | 22 => 50 | 23 => 51 | 24 => 52 | 25 => 53 | 26 => 54 | 27 => 55 | 46 => 59 | 47 => 60 | 48 => 61 | 49 => 62 | 50 => 63 | 57 => 64 | n => n, fun | 22 => 54 | 24 => 57 | 25 => 62 | 3 => 3 | 39 => 65 | 0 => 0 | 53 => 76 | 55 => 78 | 4 => 4 | 46 => 69 | 45 => 68 | 50 => 73 | 5 => 5 | 9 => 9 | 66 => 80 | 70 => 84 | 76 => 86 | 77 => 87 | n => n, fun | n => n⟩
theorem Try.sortEnd : Go.Proofs.SlLaysF0.n6 Try.prog Try.sortEnd_ren := {
  mixed := by kernel_rfl
  f6 := ⟨Try.f42.name, by decide, Try.func42.trans (congrArg some (by kernel_rfl))⟩
  f14 := ⟨Try.f45.name, by decide, Try.func45.trans (congrArg some (by kernel_rfl))⟩
  f15 := Try.func46.trans (congrArg some (by kernel_rfl))
  f20 := ⟨Try.f48.name, by decide, Try.func48.trans (congrArg some (by kernel_rfl))⟩
  f21 := ⟨Try.f49.name, by decide, Try.func49.trans (congrArg some (by kernel_rfl))⟩
  f22 := ⟨Try.f50.name, by decide, Try.func50.trans (congrArg some (by kernel_rfl))⟩
  f23 := ⟨Try.f51.name, by decide, Try.func51.trans (congrArg some (by kernel_rfl))⟩
  f24 := ⟨Try.f52.name, by decide, Try.func52.trans (congrArg some (by kernel_rfl))⟩
  f25 := ⟨Try.f53.name, by decide, Try.func53.trans (congrArg some (by kernel_rfl))⟩
  f26 := ⟨Try.f54.name, by decide, Try.func54.trans (congrArg some (by kernel_rfl))⟩
  f27 := ⟨Try.f55.name, by decide, Try.func55.trans (congrArg some (by kernel_rfl))⟩
  f28 := Try.func56.trans (congrArg some (by kernel_rfl))
  f29 := Try.func57.trans (congrArg some (by kernel_rfl))
  f46 := ⟨Try.f59.name, by decide, Try.func59.trans (congrArg some (by kernel_rfl))⟩
  f47 := Try.func60.trans (congrArg some (by kernel_rfl))
  f48 := Try.func61.trans (congrArg some (by kernel_rfl))
  f49 := ⟨Try.f62.name, by decide, Try.func62.trans (congrArg some (by kernel_rfl))⟩
  f50 := ⟨Try.f63.name, by decide, Try.func63.trans (congrArg some (by kernel_rfl))⟩
  f57 := ⟨Try.f64.name, by decide, Try.func64.trans (congrArg some (by kernel_rfl))⟩
  t0 := Try.underlying0
  a0 := Try.isAgg0
  z0 := Try.sizeOf0
  v0 := Try.zeroValue0
  t3 := Try.underlying3
  a3 := Try.isAgg3
  z3 := Try.sizeOf3
  v3 := Try.zeroValue3
  t4 := Try.underlying4
  a4 := Try.isAgg4
  z4 := Try.sizeOf4
  v4 := Try.zeroValue4
  t5 := Try.underlying5
  a5 := Try.isAgg5
  z5 := Try.sizeOf5
  v5 := Try.zeroValue5
  t9 := Try.underlying9
  a9 := Try.isAgg9
  z9 := Try.sizeOf9
  v9 := Try.zeroValue9
  t22 := Try.underlying54
  a22 := Try.isAgg54
  z22 := Try.sizeOf54
  v22 := Try.zeroValue54
  t25 := Try.underlying62
  a25 := Try.isAgg62
  z25 := Try.sizeOf62
  v25 := Try.zeroValue62
  t39 := Try.underlying65
  a39 := Try.isAgg65
  z39 := Try.sizeOf65
  v39 := Try.zeroValue65
  t45 := Try.underlying68
  a45 := Try.isAgg68
  z45 := Try.sizeOf68
  v45 := Try.zeroValue68
  t46 := Try.underlying69
  a46 := Try.isAgg69
  z46 := Try.sizeOf69
  v46 := Try.zeroValue69
  t50 := Try.underlying73
  a50 := Try.isAgg73
  z50 := Try.sizeOf73
  v50 := Try.zeroValue73
  t53 := Try.underlying76
  a53 := Try.isAgg76
  z53 := Try.sizeOf76
  v53 := Try.zeroValue76
  t55 := Try.underlying78
  a55 := Try.isAgg78
  z55 := Try.sizeOf78
  v55 := Try.zeroValue78
  t66 := Try.underlying80
  a66 := Try.isAgg80
  z66 := Try.sizeOf80
  v66 := Try.zeroValue80
  t70 := Try.underlying84
  a70 := Try.isAgg84
  z70 := Try.sizeOf84
  v70 := Try.zeroValue84
  t76 := Try.underlying86
  a76 := Try.isAgg86
  z76 := Try.sizeOf86
  v76 := Try.zeroValue86
  t77 := Try.underlying87
  a77 := Try.isAgg87
  z77 := Try.sizeOf87
  v77 := Try.zeroValue87 }
def Try.cmpInt_ren : Go.Shelf.Ren := ⟨fun | 5 => 47 | 7 => 58 | n => n, fun | 22 => 3 | 3 => 3 | 4 => 4 | n => n, fun | n => n⟩
theorem Try.cmpInt : Go.Proofs.SlLaysC2.n5 Try.prog Try.cmpInt_ren := {
  mixed := by kernel_rfl
  f5 := ⟨Try.f47.name, by decide, Try.func47.trans (congrArg some (by kernel_rfl))⟩
  f7 := ⟨Try.f58.name, by decide, Try.func58.trans (congrArg some (by kernel_rfl))⟩
  t3 := Try.underlying3
  a3 := Try.isAgg3
  z3 := Try.sizeOf3
  v3 := Try.zeroValue3
  t4 := Try.underlying4
  a4 := Try.isAgg4
  z4 := Try.sizeOf4
  v4 := Try.zeroValue4
  t22 := Try.underlying3
  a22 := Try.isAgg3
  z22 := Try.sizeOf3
  v22 := Try.zeroValue3 }

abbrev En := Int × Int × Int
def encE (x : En) : List Value := [.int .i64 x.1, .int .i64 x.2.1, .int .i64 x.2.2]
def cmp1 (r0 r1 r2 : Int) : Int := if r0 = 0 then (if r1 = 0 then r2 else r1) else r0
def cmpE (x y : En) : Int := cmp1 (Lib.compareInt x.1 y.1) (Lib.compareInt x.2.1 y.2.1) (Lib.compareInt x.2.2 y.2.2)

set_option maxHeartbeats 1000000 in
theorem compare_any (b1 b2 : Nat) (x0 x1 x2 y0 y1 y2 : Int) (w : World) (hx : Own w b1 [.int .i64 x0, .int .i64 x1, .int .i64 x2]) (hy : Own w b2 [.int .i64 y0, .int .i64 y1, .int .i64 y2]) :
    Calls Try.prog 44 #[.slice (some ⟨b1, 0, none⟩) 3 3, .slice (some ⟨b2, 0, none⟩) 3 3] w (Same (.int .i64 (cmp1 (Lib.compareInt x0 y0) (Lib.compareInt x1 y1) (Lib.compareInt x2 y2))) w) := by
  have h0 := fun W' => AnyG.cmp_Compare_int Try.cmpInt x0 y0 W'
  have h1 := fun W' => AnyG.cmp_Compare_int Try.cmpInt x1 y1 W'
  have h2 := fun W' => AnyG.cmp_Compare_int Try.cmpInt x2 y2 W'
  change ∀ W', Calls Try.prog 47 _ _ _ at h0 h1 h2
  generalize Lib.compareInt x0 y0 = r0 at h0 ⊢
  generalize Lib.compareInt x1 y1 = r1 at h1 ⊢
  generalize Lib.compareInt x2 y2 = r2 at h2 ⊢
  have a0 := hx.cell 0 _ rfl
  have a1 := hx.cell 1 _ rfl
  have a2 := hx.cell 2 _ rfl
  have e0 := hy.cell 0 _ rfl
  have e1 := hy.cell 1 _ rfl
  have e2 := hy.cell 2 _ rfl
  clear hx hy
  go_enter Try.func44, Try.ntmps44
  go_wp2_with fail
  refine wp_loop_rounds 4 ?_
  rw [rounds_succ]
  go_wp2_with (go_at_call 47; refine (h0 _).mono ?_; rintro e w' ⟨rfl, rfl⟩)
  · go_ret
    have hz : ¬ r0 = 0 := by simpa using (show (r0 != 0) = true by assumption)
    exact Same.mk (by simp [cmp1, hz]) rfl
  have hz0 : r0 = 0 := by simpa using (show (r0 != 0) = false by assumption)
  rw [rounds_succ]
  go_wp2_with (go_at_call 47; refine (h1 _).mono ?_; rintro e w' ⟨rfl, rfl⟩)
  · go_ret
    have hz : ¬ r1 = 0 := by simpa using (show (r1 != 0) = true by assumption)
    exact Same.mk (by simp [cmp1, hz, hz0]) rfl
  have hz1 : r1 = 0 := by simpa using (show (r1 != 0) = false by assumption)
  rw [rounds_succ]
  go_wp2_with (go_at_call 47; refine (h2 _).mono ?_; rintro e w' ⟨rfl, rfl⟩)
  · go_ret
    exact Same.mk (by simp [cmp1, hz0, hz1]) rfl
  have hz2 : r2 = 0 := by simpa using (show (r2 != 0) = false by assumption)
  rw [rounds_succ]
  go_wp2_with fail
  go_ret
  exact Same.mk (by simp [cmp1, hz0, hz1, hz2]) rfl

set_option maxHeartbeats 1000000 in
theorem endsCmp_any (x y : En) (W : World) : Calls Try.prog 43 #[.agg (encE x).toArray, .agg (encE y).toArray] W fun e w' => e = .returned (.int .i64 (cmpE x y)) ∧ ∃ q os', w' = grow (W.drewN q) os' := by
  obtain ⟨x0, x1, x2⟩ := x
  obtain ⟨y0, y1, y2⟩ := y
  obtain ⟨W1, hW1⟩ : ∃ W1, (W.alloc (.cells #[.int .i64 x0, .int .i64 x1, .int .i64 x2] 57)).alloc (.cells #[.int .i64 y0, .int .i64 y1, .int .i64 y2] 57) = W1 := ⟨_, rfl⟩
  have hO1 : ∀ n, Own (W1.drewN n) W.heap.size [.int .i64 x0, .int .i64 x1, .int .i64 x2] := fun n => by
    have h := ((Own.new W #[.int .i64 x0, .int .i64 x1, .int .i64 x2] 57).alloc (.cells #[.int .i64 y0, .int .i64 y1, .int .i64 y2] 57))
    rw [hW1] at h; exact h.below (below_drewN (Below.refl _ _) n)
  have hO2 : ∀ n, Own (W1.drewN n) (W.heap.size + 1) [.int .i64 y0, .int .i64 y1, .int .i64 y2] := fun n => by
    have h := Own.new (W.alloc (.cells #[.int .i64 x0, .int .i64 x1, .int .i64 x2] 57)) #[.int .i64 y0, .int .i64 y1, .int .i64 y2] 57
    rw [hW1, World.size_alloc] at h; exact h.below (below_drewN (Below.refl _ _) n)
  have hcon := fun n => compare_any W.heap.size (W.heap.size + 1) x0 x1 x2 y0 y1 y2 (W1.drewN n) (hO1 n) (hO2 n)
  have hE : cmpE (x0, x1, x2) (y0, y1, y2) = cmp1 (Lib.compareInt x0 y0) (Lib.compareInt x1 y1) (Lib.compareInt x2 y2) := rfl
  rw [hE]
  generalize cmp1 _ _ _ = r at hcon ⊢
  simp only [encE]
  go_enter Try.func43, Try.ntmps43
  go_wp2_with fail
  clear hO1 hO2
  go_quiet ((go_at_call 44; exact (hcon _).mono fun _ _ ⟨he, hw⟩ => ⟨he, _, hw.symm⟩))
  go_wp2_with fail
  go_ret
  subst hW1
  exact ⟨rfl, nq, _, by rw [alloc_eq_grow, alloc_eq_grow, grow_grow]; rfl⟩
end Go.Proofs.Ytfhhkbijcleedaa
