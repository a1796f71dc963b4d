/-
  The law PrinterDifferent: two well-formed expressions have the same text exactly if they are the same.
-/
import Derived.Test.YtlkefcbkpohpgaaDoorPrnHead
import Derived.Test.YtlkefcbkpohpgaaDoorParSize
import Derived.Test.YtlkefcbkpohpgaaDoorParSame
namespace Go.Proofs.YtlkefcbkpohpgaaDoor
open Go.RowKit Go.Shelf
set_option maxRecDepth 100000

theorem same_txt {a b : Xp} {q : Bool} (ha : validF a = true) (hb : validF b = true) (h : q = true ↔ a = b) : (txtE a == txtE b) = q := by
  rw [Bool.eq_iff_iff, h, beq_iff_eq]
  exact ⟨fun h2 => txt_inj ha hb h2, fun h2 => by rw [h2]⟩
set_option maxHeartbeats 2000000 in
theorem lawD_any {Q R : Nat → Prop} (x : Xp) (u : Value) (y : Xp) (v : Value) (w : World) (hP : PL w) (h1 : Tree Q w x u) (h2 : Tree R w y v) : Calls Tryd.prog 5 #[u, v] w (Ret (.bool true) w) := by
  obtain ⟨ad1, cap1, rfl, -, -⟩ := h1.shape
  obtain ⟨ad2, cap2, rfl, -, -⟩ := h2.shape
  obtain ⟨W, hW⟩ : ∃ W, W = (w.alloc (.cells #[.int .i64 x.o, .int .i64 x.n, .slice ad1 x.ks.length cap1] 24)).alloc (.cells #[.int .i64 y.o, .int .i64 y.n, .slice ad2 y.ks.length cap2] 24) := ⟨_, rfl⟩
  have o1 : Own W w.heap.size [.int .i64 x.o, .int .i64 x.n, .slice ad1 x.ks.length cap1] := by rw [hW]; exact (Own.new w #[.int .i64 x.o, .int .i64 x.n, .slice ad1 x.ks.length cap1] 24).alloc _
  have o2 : Own W (w.heap.size + 1) [.int .i64 y.o, .int .i64 y.n, .slice ad2 y.ks.length cap2] := by
    rw [hW]
    have := Own.new (w.alloc (.cells #[.int .i64 x.o, .int .i64 x.n, .slice ad1 x.ks.length cap1] 24)) #[.int .i64 y.o, .int .i64 y.n, .slice ad2 y.ks.length cap2] 24
    simpa using this
  have hb : Below w.heap.size w W := by rw [hW]; exact balloc (balloc (Below.refl _ _) _) _
  have hd := head_any W (hP.below hb)
  cases hv1 : validF x with
  | false =>
    have hr := fun w1 (hb1 : Below w.heap.size w w1) => rvalid8_any x _ w1 (h1.below hb1)
    rw [hv1] at hr
    go_enter Tryd.func5, Tryd.ntmps5
    go_wp2_with fail
    rw [← hW]
    clear hW
    refine hd.mono ?_
    rintro e w1 ⟨rfl, hx⟩
    replace o1 := o1.below hx
    replace hb := hb.trans (hx.mono hb.size)
    obtain ⟨c0, c1, c2, -, -, -, -⟩ := o1.three
    go_wp2_with fail
    refine (hr w1 hb).mono ?_
    rintro e w2 ⟨rfl, hx2⟩
    go_wp2_with fail
    go_ret
    exact Ret.mk rfl (hb.trans (hx2.mono hb.size))
  | true =>
  cases hv2 : validF y with
  | false =>
    have hr := fun w1 (hb1 : Below w.heap.size w w1) => rvalid8_any x _ w1 (h1.below hb1)
    have hr2 := fun w1 (hb1 : Below w.heap.size w w1) => rvalid8_any y _ w1 (h2.below hb1)
    rw [hv1] at hr
    rw [hv2] at hr2
    go_enter Tryd.func5, Tryd.ntmps5
    go_wp2_with fail
    rw [← hW]
    clear hW
    refine hd.mono ?_
    rintro e w1 ⟨rfl, hx⟩
    replace o1 := o1.below hx
    replace o2 := o2.below hx
    replace hb := hb.trans (hx.mono hb.size)
    obtain ⟨c0, c1, c2, -, -, -, -⟩ := o1.three
    go_wp2_with fail
    refine (hr w1 hb).mono ?_
    rintro e w2 ⟨rfl, hx2⟩
    replace o2 := o2.below hx2
    replace hb := hb.trans (hx2.mono hb.size)
    obtain ⟨d0, d1, d2, -, -, -, -⟩ := o2.three
    go_wp2_with fail
    refine (hr2 w2 hb).mono ?_
    rintro e w3 ⟨rfl, hx3⟩
    go_wp2_with fail
    go_ret
    exact Ret.mk rfl (hb.trans (hx3.mono hb.size))
  | true =>
    have hr := fun w1 (hb1 : Below w.heap.size w w1) => rvalid8_any x _ w1 (h1.below hb1)
    have hr2 := fun w1 (hb1 : Below w.heap.size w w1) => rvalid8_any y _ w1 (h2.below hb1)
    have hp1 := fun w1 (hb1 : Below w.heap.size w w1) => pprint_any x _ w1 (hP.below hb1) (h1.below hb1)
    have hp2 := fun w1 (hb1 : Below w.heap.size w w1) => pprint_any y _ w1 (hP.below hb1) (h2.below hb1)
    have hsm := fun w1 (hb1 : Below w.heap.size w w1) => same_any Q R x y _ _ w1 (h1.below hb1) (h2.below hb1)
    unfold exprP at hp1 hp2
    rw [if_pos hv1] at hp1
    rw [if_pos hv2] at hp2
    rw [hv1] at hr
    rw [hv2] at hr2
    have hst := fun q h => same_txt (q := q) hv1 hv2 h
    simp only at hp1 hp2
    generalize txtE x = T1 at hp1 hst
    generalize txtE y = T2 at hp2 hst
    go_enter Tryd.func5, Tryd.ntmps5
    go_wp2_with fail
    rw [← hW]
    clear hW
    refine hd.mono ?_
    rintro e w1 ⟨rfl, hx⟩
    replace o1 := o1.below hx
    replace o2 := o2.below hx
    replace hb := hb.trans (hx.mono hb.size)
    obtain ⟨c0, c1, c2, -, -, -, -⟩ := o1.three
    go_wp2_with fail
    refine (hr w1 hb).mono ?_
    rintro e w2 ⟨rfl, hx2⟩
    replace o1 := o1.below hx2
    replace o2 := o2.below hx2
    replace hb := hb.trans (hx2.mono hb.size)
    obtain ⟨d0, d1, d2, -, -, -, -⟩ := o2.three
    clear c0 c1 c2 hx hx2
    go_wp2_with fail
    refine (hr2 w2 hb).mono ?_
    rintro e w3 ⟨rfl, hx3⟩
    replace o1 := o1.below hx3
    replace o2 := o2.below hx3
    replace hb := hb.trans (hx3.mono hb.size)
    obtain ⟨c0, c1, c2, -, -, -, -⟩ := o1.three
    clear d0 d1 d2 hx3
    go_wp2_with fail
    refine (hp1 w3 hb).mono ?_
    rintro e w4 ⟨rfl, hx4⟩
    replace o1 := o1.below hx4
    replace o2 := o2.below hx4
    replace hb := hb.trans (hx4.mono hb.size)
    obtain ⟨d0, d1, d2, -, -, -, -⟩ := o2.three
    clear c0 c1 c2 hx4
    go_wp2_with fail
    refine (hp2 w4 hb).mono ?_
    rintro e w5 ⟨rfl, hx5⟩
    replace o1 := o1.below hx5
    replace o2 := o2.below hx5
    replace hb := hb.trans (hx5.mono hb.size)
    obtain ⟨d0, d1, d2, -, -, -, -⟩ := o2.three
    obtain ⟨c0, c1, c2, -, -, -, -⟩ := o1.three
    clear hx5
    go_wp2_with fail
    refine (hsm w5 hb).mono ?_
    rintro e w6 ⟨q, rfl, hq, hx6⟩
    have hst2 := hst q hq
    go_wp2_with fail
    go_ret
    exact Ret.mk (by simp) (hb.trans (hx6.mono hb.size))
end Go.Proofs.YtlkefcbkpohpgaaDoor
