/-
  The reference: Next.
-/
import Derived.Test.YtgljelkjfipefaaDoorDigText
namespace Go.Proofs.YtgljelkjfipefaaDoor
open Go.RowKit Go.Shelf

set_option maxHeartbeats 1000000 in
theorem refNext_any (d : UInt64) (v : Value) (l : List Int) (w : World) (h : Ints w v l) (hlen : l.length ≤ 1000000) : Calls Tryd.prog 33 #[vD d, v] w (Ret (vD (nxt d l)) w) := by
  have ht := text_any d v l w h hlen
  have hln : (bytes8 d ++ txt l).length ≤ 1000000000 := by
    have := txt_len l h.2
    rw [List.length_append]; simp [bytes8]; omega
  rw [show nxt d l = fnv fnv0 (bytes8 d ++ txt l) from rfl]
  generalize bytes8 d ++ txt l = tx at ht hln ⊢
  obtain ⟨ad, cap, rfl⟩ := h.1.shape
  simp only [List.length_map] at ht ⊢
  clear h
  unfold vD at ht ⊢
  go_enter Tryd.func33, Tryd.ntmps33
  go_wp2_with (go_at_call 39; refine ht.mono ?_; rintro e w1 ⟨v1, rfl, hown, hx1⟩; refine Hid.out ?_)
  have hby := bytes_of_own hown hln
  obtain ⟨ad2, cap2, hv2⟩ := hby.shape
  rw [List.length_map] at hv2
  subst hv2
  have hs := refSum_any _ _ w1 hby
  clear hown hby ht
  refine Lib.hid ?_
  go_wp2_with (go_at_call 34; refine hs.mono ?_; rintro e w2 ⟨rfl, hx2⟩; refine Hid.out ?_)
  refine Lib.hid ?_
  go_wp2_with fail
  go_ret
  exact Ret.mk rfl (hx1.trans (hx2.mono hx1.size))

end Go.Proofs.YtgljelkjfipefaaDoor
