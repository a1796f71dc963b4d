/-
  The law Texts: its walk.
-/
import Derived.Test.YtgagdljmanmjnaaDoorDigMath
namespace Go.Proofs.YtgagdljmanmjnaaDoor
open Go.RowKit Go.Shelf

set_option maxRecDepth 100000 in
set_option maxHeartbeats 8000000 in
theorem walkDigestTexts (d0 : UInt64) (v1 : Value) (l1 : List Int) (n2 : Nat) (hn2 : n2 < 65536) (n3 : Nat) (hn3 : n3 < 256) (w : World) (hT : Tab w)  (h1 : Ints w v1 l1)   : Calls Tryd.prog 6 #[vD d0, v1, .int .u16 n2, .int .u8 n3] w (Ret (.bool true) w) := by
  have hb := Below.refl w.heap.size w
  obtain ⟨ad1, cap1, hv1⟩ := h1.1.shape
  rw [List.length_map] at hv1
  subst hv1
  unfold vD
  have hs1 := h1.1.short
  simp only [List.length_map] at hs1
  by_cases c1 : 40 < l1.length
  · go_enter Tryd.func6, Tryd.ntmps6
    go_wp2_with fail
    refine (head_any w hT).mono ?_
    rintro e w1 ⟨rfl, hx⟩
    replace hT := hT.below hx
    replace h1 := h1.below hx
    replace hb := hb.trans (hx.mono hb.size)
    clear hx
    go_wp2_with fail
    go_ret
    exact Ret.mk rfl hb
  have q1 : decide (40 < (l1.length : Int)) = false := by simp; omega
  have hln : (bytes8 d0 ++ txt l1).length ≤ 1000000000 := by
    have := txt_len l1 h1.2
    rw [List.length_append]; simp [bytes8]; omega
  have ht := fun (w : World) (h : Ints w (.slice ad1 l1.length cap1) l1) => text_any d0 _ l1 w h (by omega)
  have hst : fnv fnv0 (bytes8 d0 ++ txt l1) = nxt d0 l1 := rfl
  generalize bytes8 d0 ++ txt l1 = tx at ht hln hst
  obtain ⟨s1, e1⟩ : ∃ s : Int, s = ((nxt d0 l1).toNat : Int) := ⟨_, rfl⟩
  by_cases c9 : tIs l1 n2 = true
  case neg =>
    replace c9 : tIs l1 n2 = false := by simpa using c9
    go_enter Tryd.func6, Tryd.ntmps6
    have hn := head_any w hT
    go_wp2_with fail
    refine hn.mono ?_
    rintro e w1 ⟨rfl, hx⟩
    clear hn
    replace hT := hT.below hx
    replace h1 := h1.below hx
    replace hb := hb.trans (hx.mono hb.size)
    clear hx
    have hn := show Calls Tryd.prog _ #[.int .u64 (d0.toNat : Int), _] _ (Ret (.int .u64 s1) w1) from by rw [e1]; exact next_any d0 _ _ _ hT h1
    go_wp2_with fail
    refine hn.mono ?_
    rintro e w2 ⟨rfl, hx⟩
    clear hn
    replace hT := hT.below hx
    replace h1 := h1.below hx
    replace hb := hb.trans (hx.mono hb.size)
    clear hx
    have hn := ht w2 h1
    unfold vD at hn
    go_wp2_with fail
    refine hn.mono ?_
    rintro e wt ⟨vt, rfl, hown, hx⟩
    clear hn
    replace hT := hT.below hx
    replace h1 := h1.below hx
    replace hb := hb.trans (hx.mono hb.size)
    clear hx
    have hby := bytes_of_own hown hln
    clear hown
    obtain ⟨adt, capt, hvt⟩ := hby.shape
    rw [List.length_map] at hvt
    subst hvt
    have hn := show Calls Tryd.prog _ _ _ (Ret (.int .u64 s1) wt) from by rw [e1, ← hst]; exact sum_any _ _ _ hby
    go_wp2_with fail
    refine hn.mono ?_
    rintro e w3 ⟨rfl, hx⟩
    clear hn
    replace hT := hT.below hx
    replace h1 := h1.below hx
    replace hby := hby.below hx
    replace hb := hb.trans (hx.mono hb.size)
    clear hx
    clear hby
    have hn := turned_any _ l1 n2 n3 hn2 hn3 w3 h1 (by omega)
    rw [c9] at hn
    simp only [Bool.false_eq_true, if_false] at hn
    go_wp2_with fail
    refine hn.mono ?_
    rintro e w4 ⟨vm, rfl, hm, hx⟩
    clear hn
    replace hT := hT.below hx
    replace h1 := h1.below hx
    replace hb := hb.trans (hx.mono hb.size)
    clear hx
    obtain ⟨adm, capm, hvm⟩ := hm.1.shape
    simp only [List.length_map, List.length_nil] at hvm
    subst hvm
    go_wp2_with fail
    go_ret
    exact Ret.mk rfl hb
  obtain ⟨s2, e2⟩ : ∃ s : Int, s = ((nxt d0 (tList l1 n2 n3)).toNat : Int) := ⟨_, rfl⟩
  have q2 : (s1 == s2) = false := by rw [beq_eq_false_iff_ne, e1, e2]; intro h; exact turned_ne d0 l1 n2 n3 c9 (UInt64.toNat.inj (by omega))
  go_enter Tryd.func6, Tryd.ntmps6
  have hn := head_any w hT
  go_wp2_with fail
  refine hn.mono ?_
  rintro e w1 ⟨rfl, hx⟩
  clear hn
  replace hT := hT.below hx
  replace h1 := h1.below hx
  replace hb := hb.trans (hx.mono hb.size)
  clear hx
  have hn := show Calls Tryd.prog _ #[.int .u64 (d0.toNat : Int), _] _ (Ret (.int .u64 s1) w1) from by rw [e1]; exact next_any d0 _ _ _ hT h1
  go_wp2_with fail
  refine hn.mono ?_
  rintro e w2 ⟨rfl, hx⟩
  clear hn
  replace hT := hT.below hx
  replace h1 := h1.below hx
  replace hb := hb.trans (hx.mono hb.size)
  clear hx
  have hn := ht w2 h1
  unfold vD at hn
  go_wp2_with fail
  refine hn.mono ?_
  rintro e wt ⟨vt, rfl, hown, hx⟩
  clear hn
  replace hT := hT.below hx
  replace h1 := h1.below hx
  replace hb := hb.trans (hx.mono hb.size)
  clear hx
  have hby := bytes_of_own hown hln
  clear hown
  obtain ⟨adt, capt, hvt⟩ := hby.shape
  rw [List.length_map] at hvt
  subst hvt
  have hn := show Calls Tryd.prog _ _ _ (Ret (.int .u64 s1) wt) from by rw [e1, ← hst]; exact sum_any _ _ _ hby
  go_wp2_with fail
  refine hn.mono ?_
  rintro e w3 ⟨rfl, hx⟩
  clear hn
  replace hT := hT.below hx
  replace h1 := h1.below hx
  replace hby := hby.below hx
  replace hb := hb.trans (hx.mono hb.size)
  clear hx
  clear hby
  have hn := turned_any _ l1 n2 n3 hn2 hn3 w3 h1 (by omega)
  rw [c9] at hn
  simp only [if_true] at hn
  go_wp2_with fail
  refine hn.mono ?_
  rintro e w4 ⟨vm, rfl, hm, hx⟩
  clear hn
  replace hT := hT.below hx
  replace h1 := h1.below hx
  replace hb := hb.trans (hx.mono hb.size)
  clear hx
  obtain ⟨adm, capm, hvm⟩ := hm.1.shape
  simp only [List.length_map, turned_len] at hvm
  subst hvm
  have hn := show Calls Tryd.prog _ #[.int .u64 (d0.toNat : Int), _] _ (Ret (.int .u64 s1) w4) from by rw [e1]; exact next_any d0 _ _ _ hT h1
  go_wp2_with fail
  refine hn.mono ?_
  rintro e w5 ⟨rfl, hx⟩
  clear hn
  replace hT := hT.below hx
  replace h1 := h1.below hx
  replace hm := hm.below hx
  replace hb := hb.trans (hx.mono hb.size)
  clear hx
  have hn := show Calls Tryd.prog _ #[.int .u64 (d0.toNat : Int), _] _ (Ret (.int .u64 s2) w5) from by rw [e2]; exact next_any d0 _ _ _ hT hm
  go_wp2_with fail
  refine hn.mono ?_
  rintro e w6 ⟨rfl, hx⟩
  clear hn
  replace hT := hT.below hx
  replace h1 := h1.below hx
  replace hm := hm.below hx
  replace hb := hb.trans (hx.mono hb.size)
  clear hx
  go_wp2_with fail
  go_ret
  exact Ret.mk (by rw [← e1, ← e2]; simp [bne, q2]) hb
end Go.Proofs.YtgagdljmanmjnaaDoor
