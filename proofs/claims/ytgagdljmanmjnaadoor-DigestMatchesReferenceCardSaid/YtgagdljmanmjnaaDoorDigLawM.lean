/-
  The law MatchesReference: its walk.
-/
import Derived.Test.YtgagdljmanmjnaaDoorDigMath
namespace Go.Proofs.YtgagdljmanmjnaaDoor
open Go.RowKit Go.Shelf

theorem few_out {l : List (List Int)} (h : few l = true) : l.length ≤ 40 ∧ ∀ x ∈ l, x.length ≤ 40 := by
  unfold few at h
  simp only [Bool.and_eq_true, decide_eq_true_eq, List.all_eq_true] at h
  exact ⟨h.2, h.1⟩

set_option maxRecDepth 100000 in
set_option maxHeartbeats 8000000 in
theorem walkDigestMatchesReference (v0 : Value) (l0 : List UInt8) (d1 : UInt64) (v2 : Value) (l2 : List Int) (v3 : Value) (l3 : List (List Int)) (w : World) (hT : Tab w) (h0 : Bytes w v0 l0)  (h2 : Ints w v2 l2) (h3 : Lists w v3 l3) : Calls Tryd.prog 3 #[v0, vD d1, v2, v3] w (Ret (.bool true) w) := by
  have hb := Below.refl w.heap.size w
  obtain ⟨ad0, cap0, hv0⟩ := h0.shape
  rw [List.length_map] at hv0
  subst hv0
  obtain ⟨ad2, cap2, hv2⟩ := h2.1.shape
  rw [List.length_map] at hv2
  subst hv2
  obtain ⟨ad3, cap3, hv3⟩ : ∃ ad cap, v3 = .slice ad l3.length cap := by obtain ⟨vs, hr, hl, _⟩ := h3; obtain ⟨ad, cap, e⟩ := hr.shape; rw [hl] at e; exact ⟨ad, cap, e⟩
  subst hv3
  unfold vD
  have hs0 := h0.short
  have hs2 := h2.1.short
  simp only [List.length_map] at hs0 hs2
  by_cases c0 : 500 < l0.length
  · go_enter Tryd.func3, Tryd.ntmps3
    go_wp2_with fail
    refine (head_any w hT).mono ?_
    rintro e w1 ⟨rfl, hx⟩
    replace hT := hT.below hx
    replace h0 := h0.below hx
    replace h2 := h2.below hx
    replace h3 := h3.below hx
    replace hb := hb.trans (hx.mono hb.size)
    clear hx
    go_wp2_with fail
    go_ret
    exact Ret.mk rfl hb
  by_cases c2 : 40 < l2.length
  · go_enter Tryd.func3, Tryd.ntmps3
    go_wp2_with fail
    refine (head_any w hT).mono ?_
    rintro e w1 ⟨rfl, hx⟩
    replace hT := hT.below hx
    replace h0 := h0.below hx
    replace h2 := h2.below hx
    replace h3 := h3.below hx
    replace hb := hb.trans (hx.mono hb.size)
    clear hx
    go_wp2_with fail
    go_ret
    exact Ret.mk rfl hb
  by_cases c3 : few l3 = true
  case neg =>
    go_enter Tryd.func3, Tryd.ntmps3
    go_wp2_with fail
    refine (head_any w hT).mono ?_
    rintro e w1 ⟨rfl, hx⟩
    replace hT := hT.below hx
    replace h0 := h0.below hx
    replace h2 := h2.below hx
    replace h3 := h3.below hx
    replace hb := hb.trans (hx.mono hb.size)
    clear hx
    go_wp2_with fail
    refine (show Calls Tryd.prog _ _ _ (Ret (.bool false) w1) from by have := few_any _ _ _ h3; rw [show few l3 = false by simpa using c3] at this; exact this).mono ?_
    rintro e w2 ⟨rfl, hx⟩
    replace hT := hT.below hx
    replace h0 := h0.below hx
    replace h2 := h2.below hx
    replace h3 := h3.below hx
    replace hb := hb.trans (hx.mono hb.size)
    clear hx
    go_wp2_with fail
    go_ret
    exact Ret.mk rfl hb
  obtain ⟨hlen, hall⟩ := few_out c3
  obtain ⟨s1, hs1⟩ : ∃ s : Int, s = ((fnv fnv0 l0).toNat : Int) := ⟨_, rfl⟩
  obtain ⟨s2, hs2'⟩ : ∃ s : Int, s = ((nxt d1 l2).toNat : Int) := ⟨_, rfl⟩
  obtain ⟨s3, hs3⟩ : ∃ s : Int, s = ((chn fnv0 l3).toNat : Int) := ⟨_, rfl⟩
  go_enter Tryd.func3, Tryd.ntmps3
  go_wp2_with fail
  refine (head_any w hT).mono ?_
  rintro e w1 ⟨rfl, hx⟩
  replace hT := hT.below hx
  replace h0 := h0.below hx
  replace h2 := h2.below hx
  replace h3 := h3.below hx
  replace hb := hb.trans (hx.mono hb.size)
  clear hx
  go_wp2_with fail
  refine (show Calls Tryd.prog _ _ _ (Ret (.bool true) w1) from by have := few_any _ _ _ h3; rw [c3] at this; exact this).mono ?_
  rintro e w2 ⟨rfl, hx⟩
  replace hT := hT.below hx
  replace h0 := h0.below hx
  replace h2 := h2.below hx
  replace h3 := h3.below hx
  replace hb := hb.trans (hx.mono hb.size)
  clear hx
  go_wp2_with fail
  refine (show Calls Tryd.prog _ _ _ (Ret (.int .u64 s1) w2) from by rw [hs1]; exact sum_any _ _ _ h0).mono ?_
  rintro e w3 ⟨rfl, hx⟩
  replace hT := hT.below hx
  replace h0 := h0.below hx
  replace h2 := h2.below hx
  replace h3 := h3.below hx
  replace hb := hb.trans (hx.mono hb.size)
  clear hx
  go_wp2_with fail
  refine (show Calls Tryd.prog _ _ _ (Ret (.int .u64 s1) w3) from by rw [hs1]; exact refSum_any _ _ _ h0).mono ?_
  rintro e w4 ⟨rfl, hx⟩
  replace hT := hT.below hx
  replace h0 := h0.below hx
  replace h2 := h2.below hx
  replace h3 := h3.below hx
  replace hb := hb.trans (hx.mono hb.size)
  clear hx
  go_wp2_with fail
  refine (show Calls Tryd.prog _ #[.int .u64 (d1.toNat : Int), _] _ (Ret (.int .u64 s2) w4) from by rw [hs2']; exact next_any d1 _ _ _ hT h2).mono ?_
  rintro e w5 ⟨rfl, hx⟩
  replace hT := hT.below hx
  replace h0 := h0.below hx
  replace h2 := h2.below hx
  replace h3 := h3.below hx
  replace hb := hb.trans (hx.mono hb.size)
  clear hx
  go_wp2_with fail
  refine (show Calls Tryd.prog _ #[.int .u64 (d1.toNat : Int), _] _ (Ret (.int .u64 s2) w5) from by rw [hs2']; exact refNext_any d1 _ _ _ h2 (by omega)).mono ?_
  rintro e w6 ⟨rfl, hx⟩
  replace hT := hT.below hx
  replace h0 := h0.below hx
  replace h2 := h2.below hx
  replace h3 := h3.below hx
  replace hb := hb.trans (hx.mono hb.size)
  clear hx
  go_wp2_with fail
  refine (show Calls Tryd.prog _ _ _ (Ret (.int .u64 s3) w6) from by rw [hs3]; exact chain_any _ _ _ hT h3 (by omega) (fun x hx => by have := hall x hx; omega)).mono ?_
  rintro e w7 ⟨rfl, hx⟩
  replace hT := hT.below hx
  replace h0 := h0.below hx
  replace h2 := h2.below hx
  replace h3 := h3.below hx
  replace hb := hb.trans (hx.mono hb.size)
  clear hx
  go_wp2_with fail
  refine (show Calls Tryd.prog _ _ _ (Ret (.int .u64 s3) w7) from by rw [hs3]; exact refChain_any _ _ _ h3 (by omega) (fun x hx => by have := hall x hx; omega)).mono ?_
  rintro e w8 ⟨rfl, hx⟩
  replace hT := hT.below hx
  replace h0 := h0.below hx
  replace h2 := h2.below hx
  replace h3 := h3.below hx
  replace hb := hb.trans (hx.mono hb.size)
  clear hx
  go_wp2_with fail
  go_ret
  exact Ret.mk rfl hb
end Go.Proofs.YtgagdljmanmjnaaDoor
