/-
  The law PrinterExprs: the text of an expression is read as this expression.
-/
import Derived.Test.YtlkefcbkpohpgaaGreatDoorQph
import Derived.Test.YtlkefcbkpohpgaaGreatDoorQpp
import Derived.Test.YtlkefcbkpohpgaaGreatDoorQp
import Derived.Test.YtlkefcbkpohpgaaGreatDoorQq
import Derived.Test.YtlkefcbkpohpgaaGreatDoorQs
namespace Go.Proofs.YtlkefcbkpohpgaaGreatDoor
open Go.RowKit Go.Shelf
set_option maxRecDepth 100000

set_option maxHeartbeats 2000000 in
theorem lawE_any {Q : Nat → Prop} (x : Xp) (u : Value) (w : World) (hP : PL w) (hL : Lay w) (h1 : Tree Q w x u) : Calls Tryz.prog 6 #[u] w (Ret (.bool true) w) := by
  obtain ⟨ad1, cap1, rfl, -, -⟩ := h1.shape
  obtain ⟨W, hW⟩ : ∃ W, W = w.alloc (.cells #[.int .i64 x.o, .int .i64 x.n, .slice ad1 x.ks.length cap1] 24) := ⟨_, rfl⟩
  have o1 : Own W w.heap.size [.int .i64 x.o, .int .i64 x.n, .slice ad1 x.ks.length cap1] := by rw [hW]; exact Own.new w #[.int .i64 x.o, .int .i64 x.n, .slice ad1 x.ks.length cap1] 24
  have hb : Below w.heap.size w W := by rw [hW]; exact balloc (Below.refl _ _) _
  have hd := head_any W (hP.below hb)
  have hr := fun w1 (hb1 : Below w.heap.size w w1) => rvalid8_any x _ w1 (h1.below hb1)
  cases hv1 : validF x with
  | false =>
    rw [hv1] at hr
    go_enter Tryz.func6, Tryz.ntmps6
    go_wp2_with fail
    rw [← hW]
    clear hW
    refine hd.mono ?_
    rintro e w1 ⟨rfl, hx⟩
    replace o1 := o1.below hx
    replace hb := hb.trans (hx.mono hb.size)
    obtain ⟨c0, c1, c2, -, -, -, -⟩ := o1.three
    go_wp2_with fail
    refine (hr w1 hb).mono ?_
    rintro e w2 ⟨rfl, hx2⟩
    go_wp2_with fail
    go_ret
    exact Ret.mk rfl (hb.trans (hx2.mono hb.size))
  | true =>
    have hp1 := fun w1 (hb1 : Below w.heap.size w w1) => pprint_any x _ w1 (hP.below hb1) (h1.below hb1)
    unfold exprP at hp1
    rw [if_pos hv1] at hp1
    rw [hv1] at hr
    have hrd := txt_read hv1
    have hpe := fun w1 (hb1 : Below w.heap.size w w1) => pexpr_any (txtE x) w1 (hL.below hb1)
    have hsm := fun w1 (tv : Value) (R : Nat → Prop) (hb1 : Below w.heap.size w w1) (ht : Tree R w1 x tv) => same_self (h1.below hb1) ht
    simp only at hp1
    generalize txtE x = T1 at hp1 hrd hpe
    go_enter Tryz.func6, Tryz.ntmps6
    go_wp2_with fail
    rw [← hW]
    clear hW
    refine hd.mono ?_
    rintro e w1 ⟨rfl, hx⟩
    replace o1 := o1.below hx
    replace hb := hb.trans (hx.mono hb.size)
    obtain ⟨c0, c1, c2, -, -, -, -⟩ := o1.three
    go_wp2_with fail
    refine (hr w1 hb).mono ?_
    rintro e w2 ⟨rfl, hx2⟩
    replace o1 := o1.below hx2
    replace hb := hb.trans (hx2.mono hb.size)
    obtain ⟨c0, c1, c2, -, -, -, -⟩ := o1.three
    clear hx hx2
    go_wp2_with fail
    refine (hp1 w2 hb).mono ?_
    rintro e w3 ⟨rfl, hx3⟩
    replace o1 := o1.below hx3
    replace hb := hb.trans (hx3.mono hb.size)
    clear hx3 c0 c1 c2
    go_wp2_with fail
    refine (hpe w3 hb).mono ?_
    rintro e w4 ⟨y, k, tv, hE, rfl, ty, hx4⟩
    obtain ⟨rfl, rfl⟩ := hE.det hrd
    obtain ⟨ad2, cap2, rfl, -, -⟩ := ty.shape
    replace o1 := o1.below hx4
    replace hb := hb.trans (hx4.mono hb.size)
    obtain ⟨c0, c1, c2, -, -, -, cz⟩ := o1.three
    clear hx4 hE hrd hpe hp1 hr hd
    go_wp2_with fail
    refine (hsm _ _ _ (balloc hb _) (ty.alloc _)).mono ?_
    rintro e w5 ⟨rfl, hx5⟩
    go_wp2_with fail
    go_ret
    exact Ret.mk rfl ((balloc hb _).trans (hx5.mono (balloc hb _).size))
end Go.Proofs.YtlkefcbkpohpgaaGreatDoor
