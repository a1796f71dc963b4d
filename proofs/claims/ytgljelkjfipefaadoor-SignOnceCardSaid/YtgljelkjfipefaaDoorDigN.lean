/-
  Next.
-/
import Derived.Test.YtgljelkjfipefaaDoorDigRow
namespace Go.Proofs.YtgljelkjfipefaaDoor
open Go.RowKit

set_option maxHeartbeats 1000000 in
theorem next_any (d : UInt64) (v : Value) (l : List Int) (w : World) (hT : Tab w) (h : Ints w v l) : Calls Tryd.prog 37 #[vD d, v] w (Ret (vD (nxt d l)) w) := by
  have hb1 : Below w.heap.size w (w.alloc (.cells #[vD d] 39)) := (Below.refl _ w).alloc (Nat.le_refl _) _
  have hbox : Below w.heap.size w ((w.alloc (.cells #[vD d] 39)).alloc (.cells #[v] 24)) := hb1.alloc (by simp) _
  have ho1 := ((Own.new w #[vD d] 39).alloc (.cells #[v] 24)).one
  have ho2 := (Own.at (w.alloc (.cells #[vD d] 39)) #[v] 24 (w.heap.size + 1) (by simp)).one
  have hf := overNext _ _ _ (feedNext _ w.heap.size (w.heap.size + 1) d v l (hT.below hbox) ho1.2.2 ho1.1 ho2.2.2 ho2.1 ⟨h.1.below hbox, h.2⟩)
  obtain ⟨ad, cap, rfl⟩ := h.1.shape
  simp only [List.length_map] at hf hbox ⊢
  unfold vD at hf hbox ⊢
  go_enter Tryd.func37, Tryd.ntmps37
  go_wp2_with (go_at_call 42; refine hf.mono ?_; rintro e w2 ⟨rfl, hx⟩)
  go_ret
  exact Ret.mk rfl (hbox.trans (hx.mono hbox.size))

theorem int_one {l : List Int} : ∀ u ∈ l.map (Value.int .i64), u.oneCell' = true := by
  intro u hu
  obtain ⟨x, _, rfl⟩ := List.mem_map.1 hu
  rfl
/-- number and integers of a list, laid by the call -/
theorem ints_of_own {w : World} {base : Nat} {v : Value} {l : List Int} (h : OwnRow w base 3 v (l.map (.int .i64))) (hl : l.length ≤ 1000000) (hi : ∀ x ∈ l, I64 x) : Ints w v l :=
  ⟨Row.of_own h (by simp; omega), hi⟩

end Go.Proofs.YtgljelkjfipefaaDoor
