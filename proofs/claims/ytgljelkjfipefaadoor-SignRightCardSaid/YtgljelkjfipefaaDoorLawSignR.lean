/-
  SignRight: the walk.
-/
import Derived.Test.YtgljelkjfipefaaDoorSignKit
namespace Go.Proofs.YtgljelkjfipefaaDoor
open Go.RowKit Go.Shelf

set_option maxRecDepth 100000 in
set_option maxHeartbeats 4000000 in
theorem walkSignRight (a b : Int) (v : Value) (l : List Int) (w : World) (ha : U64 a) (hb0 : U64 b) (hT : Tab w) (h : Ints w v l) (hf : Fat v) : Calls Tryd.prog 5 #[.int .u64 a, .int .u64 b, v] w (Ret (.bool true) w) := by
  obtain ⟨V, hV, hfew⟩ := few_at v l w h hf
  obtain ⟨ad, cap, rfl⟩ := h.1.shape
  simp only [List.length_map] at hfew ⊢
  have hl := len_few l
  have hr := right_sig (l.take 20) (secB_sec a) (secB_sec b)
  clear h hf
  have hb := Below.refl w.heap.size w
  go_enter Tryd.func5, Tryd.ntmps5
  go_wp2_with (first
    | (go_at_call 19; refine (at_ver hT (hb.alloc hb.size _) (memG _) (sgnI_exp _ _ _) (sgnS_exp _ _ _) hV hl).mono ?_; rw [hr]; rintro e w1 ⟨rfl, hx⟩; replace hb := bel_step (hb.alloc hb.size _) hx; clear hx)
    | (go_at_call 17; refine (at_sign hT hb (secB_sec _) (secB_sec _) hV hl).mono ?_; rintro e w1 ⟨rfl, hx⟩; replace hb := bel_step hb hx; clear hx)
    | (go_at_call 15; refine (at_pub (secB_sec _)).mono ?_; rintro e w1 ⟨rfl, hx⟩; replace hb := bel_step hb hx; clear hx)
    | (go_at_call 21; refine (secret_at (by assumption) _).mono ?_; rintro e w1 ⟨rfl, rfl⟩)
    | (go_at_call 10; refine (hfew _ hb).mono ?_; rintro e w1 ⟨rfl, rfl⟩)
    | (go_at_call 9; refine (at_head hT hb).mono ?_; rintro e w1 ⟨rfl, hx⟩; replace hb := bel_step hb hx; clear hx))
  go_ret
  exact Ret.mk rfl hb
end Go.Proofs.YtgljelkjfipefaaDoor
