/-
  SignMatchesReference: the walk.
-/
import Derived.Test.YtgljelkjfipefaaDoorSignKit
namespace Go.Proofs.YtgljelkjfipefaaDoor
open Go.RowKit Go.Shelf

set_option maxRecDepth 100000 in
set_option maxHeartbeats 8000000 in
theorem walkSignMatchesReference (a x o E S : Int) (v : Value) (l : List Int) (w : World) (ha : I64 a) (hT : Tab w) (h : Ints w v l) (hf : Fat v) :
    Calls Tryd.prog 3 #[.int .i64 a, .int .i64 x, .int .i64 o, .agg #[.int .i64 E, .int .i64 S], v] w (Ret (.bool true) w) := by
  obtain ⟨V, hV, hfew⟩ := few_at v l w h hf
  have hl := len_few l
  have hb0 : Below w.heap.size w (w.alloc (.cells #[.int .i64 E, .int .i64 S] 23)) := (Below.refl _ w).alloc (Nat.le_refl _) _
  have hO := Own.new w #[.int .i64 E, .int .i64 S] 23
  obtain ⟨ad, cap, rfl⟩ := h.1.shape
  simp only [List.length_map] at hfew ⊢
  clear h hf
  have heq := eql_sig
  go_enter Tryd.func3, Tryd.ntmps3
  go_wp2_with fail
  generalize w.alloc (.cells #[.int .i64 E, .int .i64 S] 23) = W at *
  have hTW : Tab W := hT.below hb0
  have hVW : Ints W V (l.take 20) := ⟨hV.1.below hb0, hV.2⟩
  have hk : ∀ w1, Below W.heap.size W w1 → w1.cell? ⟨w.heap.size, 0, none⟩ = some (.int .i64 E) ∧ w1.cell? ⟨w.heap.size, 1, none⟩ = some (.int .i64 S) ∧ w.heap.size < w1.heap.size :=
    fun w1 hb => ⟨(hb.cell (p := ⟨w.heap.size, 0, none⟩) hO.two.2.2.2.2).trans hO.two.1, (hb.cell (p := ⟨w.heap.size, 1, none⟩) hO.two.2.2.2.2).trans hO.two.2.1, Nat.lt_of_lt_of_le hO.two.2.2.2.2 hb.size⟩
  have pM := fun w1 => member_any a w1
  have rM := fun w1 => refMember_any a w1
  have pE := fun w1 => exp_any a x w1
  have rE := fun w1 => refExp_any a x w1
  have pP := fun w1 => public_any x w1
  have rP := fun w1 => refPublic_any x w1
  have pS : ∀ w1, Below W.heap.size W w1 → Calls Tryd.prog 17 #[.int .i64 x, .int .i64 o, V] w1 _ := fun w1 hb => sign_any x o V _ w1 (hTW.below hb) ⟨hVW.1.below hb, hVW.2⟩ hl
  have rS : ∀ w1, Below W.heap.size W w1 → Calls Tryd.prog 18 #[.int .i64 x, .int .i64 o, V] w1 _ := fun w1 hb => refSign_any x o V _ w1 ⟨hVW.1.below hb, hVW.2⟩ hl
  have pV : ∀ w1, Below W.heap.size W w1 → Calls Tryd.prog 19 #[.int .i64 a, .agg #[.int .i64 E, .int .i64 S], V] w1 _ := fun w1 hb => verify_any a E S ha V _ w1 (hTW.below hb) ⟨hVW.1.below hb, hVW.2⟩ hl
  have rV : ∀ w1, Below W.heap.size W w1 → Calls Tryd.prog 20 #[.int .i64 a, .agg #[.int .i64 E, .int .i64 S], V] w1 _ := fun w1 hb => refVerify_any a E S ha V _ w1 ⟨hVW.1.below hb, hVW.2⟩ hl
  have hhd : ∀ w1, Below W.heap.size W w1 → Calls Tryd.prog 9 #[] w1 _ := fun w1 hb => at_head hTW hb
  have hfw : ∀ w1, Below W.heap.size W w1 → Calls Tryd.prog 10 #[.slice ad l.length cap] w1 (Same V w1) := fun w1 hb => hfew w1 (hb0.trans (hb.mono hb0.size))
  generalize memB a = m at *
  generalize expF a x = ex at *
  generalize pubF x = pu at *
  generalize sgnF x o (l.take 20) = sg at *
  generalize verF a E S (l.take 20) = ve at *
  obtain ⟨ex1, ex2⟩ := ex
  obtain ⟨pu1, pu2⟩ := pu
  obtain ⟨sg1, sg2, sg3⟩ := sg
  obtain ⟨ve1, ve2⟩ := ve
  simp only [twoV, sgnV, verV] at pE rE pP rP pS rS pV rV
  clear hV hfew hO hT hTW hVW hl
  have hb := Below.refl W.heap.size W
  go_wp2_with (first
    | (go_at_call 20; refine (rV _ hb).mono ?_; rintro e w1 ⟨rfl, hx⟩; replace hb := bel_step hb hx; clear hx)
    | (go_at_call 19; refine (pV _ (hb.alloc hb.size _)).mono ?_; rintro e w1 ⟨rfl, hx⟩; replace hb := bel_step (hb.alloc hb.size _) hx; clear hx; obtain ⟨c0, c1, z⟩ := hk _ hb)
    | (go_at_call 18; refine (rS _ (hb.alloc hb.size _)).mono ?_; rintro e wB ⟨rfl, hx⟩; replace hb := bel_step (hb.alloc hb.size _) hx; obtain ⟨b0, b1, f0, f1, z1⟩ := ((Own.new wA #[.int .i64 sg1, .int .i64 sg2] 23).below hx).two; clear hx; obtain ⟨c0, c1, z⟩ := hk _ hb)
    | (go_at_call 17; refine (pS _ hb).mono ?_; rintro e wA ⟨rfl, hx⟩; replace hb := bel_step hb hx; clear hx)
    | (go_at_call 16; refine (rP _).mono ?_; rintro e w1 ⟨rfl, hx⟩; replace hb := bel_step hb hx; clear hx)
    | (go_at_call 15; refine (pP _).mono ?_; rintro e w1 ⟨rfl, hx⟩; replace hb := bel_step hb hx; clear hx)
    | (go_at_call 14; refine (rE _).mono ?_; rintro e w1 ⟨rfl, hx⟩; replace hb := bel_step hb hx; clear hx)
    | (go_at_call 13; refine (pE _).mono ?_; rintro e w1 ⟨rfl, hx⟩; replace hb := bel_step hb hx; clear hx)
    | (go_at_call 12; refine (rM _).mono ?_; rintro e w1 ⟨rfl, rfl⟩)
    | (go_at_call 11; refine (pM _).mono ?_; rintro e w1 ⟨rfl, hx⟩; replace hb := bel_step hb hx; clear hx)
    | (go_at_call 10; refine (hfw _ hb).mono ?_; rintro e w1 ⟨rfl, rfl⟩)
    | (go_at_call 9; refine (hhd _ hb).mono ?_; rintro e w1 ⟨rfl, hx⟩; replace hb := bel_step hb hx; clear hx))
  go_ret
  exact Ret.mk rfl (hb0.trans (hb.mono hb0.size))
end Go.Proofs.YtgljelkjfipefaaDoor
