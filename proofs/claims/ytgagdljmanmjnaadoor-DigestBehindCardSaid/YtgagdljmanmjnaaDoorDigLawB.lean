/-
  The law Behind: its walk.
-/
import Derived.Test.YtgagdljmanmjnaaDoorDigMath
namespace Go.Proofs.YtgagdljmanmjnaaDoor
open Go.RowKit Go.Shelf

set_option maxRecDepth 100000 in
set_option maxHeartbeats 8000000 in
theorem walkDigestBehind (v0 : Value) (l0 : List UInt8) (v1 : Value) (l1 : List UInt8) (v2 : Value) (l2 : List UInt8) (w : World) (hT : Tab w) (h0 : Bytes w v0 l0) (h1 : Bytes w v1 l1) (h2 : Bytes w v2 l2) : Calls Tryd.prog 5 #[v0, v1, v2] w (Ret (.bool true) w) := by
  have hb := Below.refl w.heap.size w
  obtain ⟨ad0, cap0, hv0⟩ := h0.shape
  rw [List.length_map] at hv0
  subst hv0
  obtain ⟨ad1, cap1, hv1⟩ := h1.shape
  rw [List.length_map] at hv1
  subst hv1
  obtain ⟨ad2, cap2, hv2⟩ := h2.shape
  rw [List.length_map] at hv2
  subst hv2
  have hs0 := h0.short
  have hs1 := h1.short
  have hs2 := h2.short
  simp only [List.length_map] at hs0 hs1 hs2
  by_cases c0 : 200 < l0.length
  · go_enter Tryd.func5, Tryd.ntmps5
    go_wp2_with fail
    refine (head_any w hT).mono ?_
    rintro e w1 ⟨rfl, hx⟩
    replace hT := hT.below hx
    replace h0 := h0.below hx
    replace h1 := h1.below hx
    replace h2 := h2.below hx
    replace hb := hb.trans (hx.mono hb.size)
    clear hx
    go_wp2_with fail
    go_ret
    exact Ret.mk rfl hb
  by_cases c1 : 200 < l1.length
  · go_enter Tryd.func5, Tryd.ntmps5
    go_wp2_with fail
    refine (head_any w hT).mono ?_
    rintro e w1 ⟨rfl, hx⟩
    replace hT := hT.below hx
    replace h0 := h0.below hx
    replace h1 := h1.below hx
    replace h2 := h2.below hx
    replace hb := hb.trans (hx.mono hb.size)
    clear hx
    go_wp2_with fail
    go_ret
    exact Ret.mk rfl hb
  by_cases c2 : 200 < l2.length
  · go_enter Tryd.func5, Tryd.ntmps5
    go_wp2_with fail
    refine (head_any w hT).mono ?_
    rintro e w1 ⟨rfl, hx⟩
    replace hT := hT.below hx
    replace h0 := h0.below hx
    replace h1 := h1.below hx
    replace h2 := h2.below hx
    replace hb := hb.trans (hx.mono hb.size)
    clear hx
    go_wp2_with fail
    go_ret
    exact Ret.mk rfl hb
  have q0 : decide (200 < (l0.length : Int)) = false := by simp; omega
  have q1 : decide (200 < (l1.length : Int)) = false := by simp; omega
  have q2 : decide (200 < (l2.length : Int)) = false := by simp; omega
  have heq : ((fnv fnv0 l0).toNat : Int) = ((fnv fnv0 l1).toNat : Int) ↔ ((fnv fnv0 (l0 ++ l2)).toNat : Int) = ((fnv fnv0 (l1 ++ l2)).toNat : Int) := by
    have hu : ∀ a b : UInt64, (a.toNat : Int) = (b.toNat : Int) ↔ a = b := fun a b => ⟨fun h => UInt64.toNat.inj (by omega), fun h => by rw [h]⟩
    rw [hu, hu, fnv_app, fnv_app, fnv_app_eq]
  obtain ⟨s0, e0⟩ : ∃ s : Int, s = ((fnv fnv0 l0).toNat : Int) := ⟨_, rfl⟩
  obtain ⟨s1, e1⟩ : ∃ s : Int, s = ((fnv fnv0 l1).toNat : Int) := ⟨_, rfl⟩
  obtain ⟨s2, e2⟩ : ∃ s : Int, s = ((fnv fnv0 (l0 ++ l2)).toNat : Int) := ⟨_, rfl⟩
  obtain ⟨s3, e3⟩ : ∃ s : Int, s = ((fnv fnv0 (l1 ++ l2)).toNat : Int) := ⟨_, rfl⟩
  rw [← e0, ← e1, ← e2, ← e3] at heq
  have q4 : (s0 == s1) = (s2 == s3) := by rw [Bool.eq_iff_iff, beq_iff_eq, beq_iff_eq]; exact heq
  go_enter Tryd.func5, Tryd.ntmps5
  have hn := head_any w hT
  go_wp2_with fail
  refine hn.mono ?_
  rintro e w1 ⟨rfl, hx⟩
  clear hn
  replace hT := hT.below hx
  replace h0 := h0.below hx
  replace h1 := h1.below hx
  replace h2 := h2.below hx
  replace hb := hb.trans (hx.mono hb.size)
  clear hx
  have hown := OwnRow.new w1 w1.heap.size (Nat.le_refl _) 5 [] (by simp)
  have hr0 : Row (w1.alloc (.cells #[] 5)) _ (l0.map vB) := (h0).below ((Below.refl _ w1).alloc (Nat.le_refl _) _)
  go_wp2_with (at_builtin; go_loud (refine app_row _ rfl _ _ 22 rfl w1.heap.size 5 (.int .u8 0) 1 Tryd.underlying22 Tryd.infoU8 rfl (by decide) _ [] rfl hown _ (l0.map vB) rfl hr0 byte_one (by simp <;> omega) (by simp) ?_; intro v2' w2 hown2 hx2; refine Hid.out ?_))
  have hz : Below w1.heap.size w1 w2 := ((Below.refl _ w1).alloc (Nat.le_refl _) _).trans hx2
  clear hr0 hown hx2
  rw [List.nil_append] at hown2
  have hr0 : Row w2 _ (l2.map vB) := h2.below hz
  refine Lib.hid ?_
  go_wp2_with (at_builtin; go_loud (refine app_row _ rfl _ _ 22 rfl w1.heap.size 5 (.int .u8 0) 1 Tryd.underlying22 Tryd.infoU8 rfl (by decide) _ (l0.map vB) rfl hown2 _ (l2.map vB) rfl hr0 byte_one (by simp <;> omega) hz.size ?_; intro v3' w3 hown3 hx3; refine Hid.out ?_))
  replace hz := hz.trans hx3
  clear hr0 hx3 hown2
  have hx' : Bytes w3 v3' (l0 ++ l2) := bytes_of_own (by rw [show ((l0 ++ l2)).map vB = ((l0.map vB) ++ (l2.map vB)) by simp]; exact hown3) (by simp <;> omega)
  clear hown3
  replace hT := hT.below hz
  replace h0 := h0.below hz
  replace h1 := h1.below hz
  replace h2 := h2.below hz
  replace hb := hb.trans (hz.mono hb.size)
  clear hz
  obtain ⟨da3, ca3, hv⟩ := hx'.shape
  simp only [List.length_map, List.length_append] at hv
  subst hv
  have hown := OwnRow.new w3 w3.heap.size (Nat.le_refl _) 5 [] (by simp)
  have hr0 : Row (w3.alloc (.cells #[] 5)) _ (l1.map vB) := (h1).below ((Below.refl _ w3).alloc (Nat.le_refl _) _)
  refine Lib.hid ?_
  go_wp2_with (at_builtin; go_loud (refine app_row _ rfl _ _ 22 rfl w3.heap.size 5 (.int .u8 0) 1 Tryd.underlying22 Tryd.infoU8 rfl (by decide) _ [] rfl hown _ (l1.map vB) rfl hr0 byte_one (by simp <;> omega) (by simp) ?_; intro v4' w4 hown4 hx4; refine Hid.out ?_))
  have hz : Below w3.heap.size w3 w4 := ((Below.refl _ w3).alloc (Nat.le_refl _) _).trans hx4
  clear hr0 hown hx4
  rw [List.nil_append] at hown4
  have hr0 : Row w4 _ (l2.map vB) := h2.below hz
  refine Lib.hid ?_
  go_wp2_with (at_builtin; go_loud (refine app_row _ rfl _ _ 22 rfl w3.heap.size 5 (.int .u8 0) 1 Tryd.underlying22 Tryd.infoU8 rfl (by decide) _ (l1.map vB) rfl hown4 _ (l2.map vB) rfl hr0 byte_one (by simp <;> omega) hz.size ?_; intro v5' w5 hown5 hx5; refine Hid.out ?_))
  replace hz := hz.trans hx5
  clear hr0 hx5 hown4
  have hy' : Bytes w5 v5' (l1 ++ l2) := bytes_of_own (by rw [show ((l1 ++ l2)).map vB = ((l1.map vB) ++ (l2.map vB)) by simp]; exact hown5) (by simp <;> omega)
  clear hown5
  replace hT := hT.below hz
  replace h0 := h0.below hz
  replace h1 := h1.below hz
  replace h2 := h2.below hz
  replace hx' := hx'.below hz
  replace hb := hb.trans (hz.mono hb.size)
  clear hz
  obtain ⟨da5, ca5, hv⟩ := hy'.shape
  simp only [List.length_map, List.length_append] at hv
  subst hv
  have hn := show Calls Tryd.prog _ _ _ (Ret (.int .u64 s0) w5) from by rw [e0]; exact sum_any _ _ _ h0
  refine Lib.hid ?_
  go_wp2_with fail
  refine hn.mono ?_
  rintro e w6 ⟨rfl, hx⟩
  clear hn
  replace hT := hT.below hx
  replace h0 := h0.below hx
  replace h1 := h1.below hx
  replace h2 := h2.below hx
  replace hx' := hx'.below hx
  replace hy' := hy'.below hx
  replace hb := hb.trans (hx.mono hb.size)
  clear hx
  have hn := show Calls Tryd.prog _ _ _ (Ret (.int .u64 s1) w6) from by rw [e1]; exact sum_any _ _ _ h1
  go_wp2_with fail
  refine hn.mono ?_
  rintro e w7 ⟨rfl, hx⟩
  clear hn
  replace hT := hT.below hx
  replace h0 := h0.below hx
  replace h1 := h1.below hx
  replace h2 := h2.below hx
  replace hx' := hx'.below hx
  replace hy' := hy'.below hx
  replace hb := hb.trans (hx.mono hb.size)
  clear hx
  have hn := show Calls Tryd.prog _ _ _ (Ret (.int .u64 s2) w7) from by rw [e2]; exact sum_any _ _ _ hx'
  go_wp2_with fail
  refine hn.mono ?_
  rintro e w8 ⟨rfl, hx⟩
  clear hn
  replace hT := hT.below hx
  replace h0 := h0.below hx
  replace h1 := h1.below hx
  replace h2 := h2.below hx
  replace hx' := hx'.below hx
  replace hy' := hy'.below hx
  replace hb := hb.trans (hx.mono hb.size)
  clear hx
  have hn := show Calls Tryd.prog _ _ _ (Ret (.int .u64 s3) w8) from by rw [e3]; exact sum_any _ _ _ hy'
  go_wp2_with fail
  refine hn.mono ?_
  rintro e w9 ⟨rfl, hx⟩
  clear hn
  replace hT := hT.below hx
  replace h0 := h0.below hx
  replace h1 := h1.below hx
  replace h2 := h2.below hx
  replace hx' := hx'.below hx
  replace hy' := hy'.below hx
  replace hb := hb.trans (hx.mono hb.size)
  clear hx
  go_wp2_with fail
  go_ret
  exact Ret.mk (by rw [← e0, ← e1, ← e2, ← e3, q4]; simp) hb
end Go.Proofs.YtgagdljmanmjnaaDoor
