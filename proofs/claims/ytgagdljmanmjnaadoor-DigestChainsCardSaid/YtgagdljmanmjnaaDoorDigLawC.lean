/-
  The law Chains: its walk.
-/
import Derived.Test.YtgagdljmanmjnaaDoorDigMath
namespace Go.Proofs.YtgagdljmanmjnaaDoor
open Go.RowKit Go.Shelf

theorem few_out {l : List (List Int)} (h : few l = true) : l.length ≤ 40 ∧ ∀ x ∈ l, x.length ≤ 40 := by
  unfold few at h
  simp only [Bool.and_eq_true, decide_eq_true_eq, List.all_eq_true] at h
  exact ⟨h.2, h.1⟩
theorem all1 {l : List (List Int)} (h : ∀ x ∈ l, x.length ≤ 40) : ∀ x ∈ l, x.length ≤ 1000000 - 1 := fun x hx => by have := h x hx; omega
theorem all2 {l m : List (List Int)} (h : ∀ x ∈ l, x.length ≤ 40) (k : ∀ x ∈ m, x.length ≤ 40) : ∀ x ∈ l ++ m, x.length ≤ 1000000 - 1 := fun x hx => by
  rcases List.mem_append.1 hx with hx | hx
  · have := h x hx; omega
  · have := k x hx; omega

set_option maxRecDepth 100000 in
set_option maxHeartbeats 8000000 in
theorem walkDigestChains (v0 : Value) (l0 : List (List Int)) (v1 : Value) (l1 : List (List Int)) (v2 : Value) (l2 : List (List Int)) (v3 : Value) (l3 : List Int) (w : World) (hT : Tab w) (h0 : Lists w v0 l0) (h1 : Lists w v1 l1) (h2 : Lists w v2 l2) (h3 : Ints w v3 l3) : Calls Tryd.prog 7 #[v0, v1, v2, v3] w (Ret (.bool true) w) := by
  have hb := Below.refl w.heap.size w
  obtain ⟨ad0, cap0, hv0⟩ : ∃ ad cap, v0 = .slice ad l0.length cap := by obtain ⟨vs, hr, hl, _⟩ := h0; obtain ⟨ad, cap, e⟩ := hr.shape; rw [hl] at e; exact ⟨ad, cap, e⟩
  subst hv0
  obtain ⟨ad1, cap1, hv1⟩ : ∃ ad cap, v1 = .slice ad l1.length cap := by obtain ⟨vs, hr, hl, _⟩ := h1; obtain ⟨ad, cap, e⟩ := hr.shape; rw [hl] at e; exact ⟨ad, cap, e⟩
  subst hv1
  obtain ⟨ad2, cap2, hv2⟩ : ∃ ad cap, v2 = .slice ad l2.length cap := by obtain ⟨vs, hr, hl, _⟩ := h2; obtain ⟨ad, cap, e⟩ := hr.shape; rw [hl] at e; exact ⟨ad, cap, e⟩
  subst hv2
  obtain ⟨ad3, cap3, hv3⟩ := h3.1.shape
  rw [List.length_map] at hv3
  subst hv3
  have hs3 := h3.1.short
  simp only [List.length_map] at hs3
  by_cases c0 : few l0 = true
  case neg =>
    replace c0 : few l0 = false := by simpa using c0
    go_enter Tryd.func7, Tryd.ntmps7
    go_wp2_with fail
    refine (head_any w hT).mono ?_
    rintro e w1 ⟨rfl, hx⟩
    replace hT := hT.below hx
    replace h0 := h0.below hx
    replace h1 := h1.below hx
    replace h2 := h2.below hx
    replace h3 := h3.below hx
    replace hb := hb.trans (hx.mono hb.size)
    clear hx
    go_wp2_with fail
    refine (show Calls Tryd.prog _ _ _ (Ret (.bool false) w1) from by have := few_any _ _ _ h0; rw [c0] at this; exact this).mono ?_
    rintro e w2 ⟨rfl, hx⟩
    replace hT := hT.below hx
    replace h0 := h0.below hx
    replace h1 := h1.below hx
    replace h2 := h2.below hx
    replace h3 := h3.below hx
    replace hb := hb.trans (hx.mono hb.size)
    clear hx
    go_wp2_with fail
    go_ret
    exact Ret.mk rfl hb
  by_cases c1 : few l1 = true
  case neg =>
    replace c1 : few l1 = false := by simpa using c1
    go_enter Tryd.func7, Tryd.ntmps7
    go_wp2_with fail
    refine (head_any w hT).mono ?_
    rintro e w1 ⟨rfl, hx⟩
    replace hT := hT.below hx
    replace h0 := h0.below hx
    replace h1 := h1.below hx
    replace h2 := h2.below hx
    replace h3 := h3.below hx
    replace hb := hb.trans (hx.mono hb.size)
    clear hx
    go_wp2_with fail
    refine (show Calls Tryd.prog _ _ _ (Ret (.bool true) w1) from by have := few_any _ _ _ h0; rw [c0] at this; exact this).mono ?_
    rintro e w2 ⟨rfl, hx⟩
    replace hT := hT.below hx
    replace h0 := h0.below hx
    replace h1 := h1.below hx
    replace h2 := h2.below hx
    replace h3 := h3.below hx
    replace hb := hb.trans (hx.mono hb.size)
    clear hx
    go_wp2_with fail
    refine (show Calls Tryd.prog _ _ _ (Ret (.bool false) w2) from by have := few_any _ _ _ h1; rw [c1] at this; exact this).mono ?_
    rintro e w3 ⟨rfl, hx⟩
    replace hT := hT.below hx
    replace h0 := h0.below hx
    replace h1 := h1.below hx
    replace h2 := h2.below hx
    replace h3 := h3.below hx
    replace hb := hb.trans (hx.mono hb.size)
    clear hx
    go_wp2_with fail
    go_ret
    exact Ret.mk rfl hb
  by_cases c2 : few l2 = true
  case neg =>
    replace c2 : few l2 = false := by simpa using c2
    go_enter Tryd.func7, Tryd.ntmps7
    go_wp2_with fail
    refine (head_any w hT).mono ?_
    rintro e w1 ⟨rfl, hx⟩
    replace hT := hT.below hx
    replace h0 := h0.below hx
    replace h1 := h1.below hx
    replace h2 := h2.below hx
    replace h3 := h3.below hx
    replace hb := hb.trans (hx.mono hb.size)
    clear hx
    go_wp2_with fail
    refine (show Calls Tryd.prog _ _ _ (Ret (.bool true) w1) from by have := few_any _ _ _ h0; rw [c0] at this; exact this).mono ?_
    rintro e w2 ⟨rfl, hx⟩
    replace hT := hT.below hx
    replace h0 := h0.below hx
    replace h1 := h1.below hx
    replace h2 := h2.below hx
    replace h3 := h3.below hx
    replace hb := hb.trans (hx.mono hb.size)
    clear hx
    go_wp2_with fail
    refine (show Calls Tryd.prog _ _ _ (Ret (.bool true) w2) from by have := few_any _ _ _ h1; rw [c1] at this; exact this).mono ?_
    rintro e w3 ⟨rfl, hx⟩
    replace hT := hT.below hx
    replace h0 := h0.below hx
    replace h1 := h1.below hx
    replace h2 := h2.below hx
    replace h3 := h3.below hx
    replace hb := hb.trans (hx.mono hb.size)
    clear hx
    go_wp2_with fail
    refine (show Calls Tryd.prog _ _ _ (Ret (.bool false) w3) from by have := few_any _ _ _ h2; rw [c2] at this; exact this).mono ?_
    rintro e w4 ⟨rfl, hx⟩
    replace hT := hT.below hx
    replace h0 := h0.below hx
    replace h1 := h1.below hx
    replace h2 := h2.below hx
    replace h3 := h3.below hx
    replace hb := hb.trans (hx.mono hb.size)
    clear hx
    go_wp2_with fail
    go_ret
    exact Ret.mk rfl hb
  by_cases c3 : 40 < l3.length
  · go_enter Tryd.func7, Tryd.ntmps7
    go_wp2_with fail
    refine (head_any w hT).mono ?_
    rintro e w1 ⟨rfl, hx⟩
    replace hT := hT.below hx
    replace h0 := h0.below hx
    replace h1 := h1.below hx
    replace h2 := h2.below hx
    replace h3 := h3.below hx
    replace hb := hb.trans (hx.mono hb.size)
    clear hx
    go_wp2_with fail
    refine (show Calls Tryd.prog _ _ _ (Ret (.bool true) w1) from by have := few_any _ _ _ h0; rw [c0] at this; exact this).mono ?_
    rintro e w2 ⟨rfl, hx⟩
    replace hT := hT.below hx
    replace h0 := h0.below hx
    replace h1 := h1.below hx
    replace h2 := h2.below hx
    replace h3 := h3.below hx
    replace hb := hb.trans (hx.mono hb.size)
    clear hx
    go_wp2_with fail
    refine (show Calls Tryd.prog _ _ _ (Ret (.bool true) w2) from by have := few_any _ _ _ h1; rw [c1] at this; exact this).mono ?_
    rintro e w3 ⟨rfl, hx⟩
    replace hT := hT.below hx
    replace h0 := h0.below hx
    replace h1 := h1.below hx
    replace h2 := h2.below hx
    replace h3 := h3.below hx
    replace hb := hb.trans (hx.mono hb.size)
    clear hx
    go_wp2_with fail
    refine (show Calls Tryd.prog _ _ _ (Ret (.bool true) w3) from by have := few_any _ _ _ h2; rw [c2] at this; exact this).mono ?_
    rintro e w4 ⟨rfl, hx⟩
    replace hT := hT.below hx
    replace h0 := h0.below hx
    replace h1 := h1.below hx
    replace h2 := h2.below hx
    replace h3 := h3.below hx
    replace hb := hb.trans (hx.mono hb.size)
    clear hx
    go_wp2_with fail
    go_ret
    exact Ret.mk rfl hb
  have q3 : decide (40 < (l3.length : Int)) = false := by simp; omega
  obtain ⟨hlen0, hall0⟩ := few_out c0
  obtain ⟨hlen1, hall1⟩ := few_out c1
  obtain ⟨hlen2, hall2⟩ := few_out c2
  have hall3 : ∀ x ∈ [l3], x.length ≤ 40 := by intro x hx; rw [List.mem_singleton] at hx; subst hx; omega
  have h0' := h0
  obtain ⟨va0, ra0, ya0'⟩ := h0'
  have ya0 : Vs w va0 l0 := ya0'
  clear ya0'
  have na0 : va0.length = l0.length := ya0.1
  have h1' := h1
  obtain ⟨va1, ra1, ya1'⟩ := h1'
  have ya1 : Vs w va1 l1 := ya1'
  clear ya1'
  have na1 : va1.length = l1.length := ya1.1
  have h2' := h2
  obtain ⟨va2, ra2, ya2'⟩ := h2'
  have ya2 : Vs w va2 l2 := ya2'
  clear ya2'
  have na2 : va2.length = l2.length := ya2.1
  have hi3 : ∀ x ∈ ((l3.length : Int) :: l3), I64 x := by
    intro x hx
    rcases List.mem_cons.1 hx with rfl | hx
    · constructor <;> omega
    · exact h3.2 x hx
  have hsame : chn fnv0 l0 = chn fnv0 l1 → chn fnv0 (l0 ++ l2) = chn fnv0 (l1 ++ l2) := fun h => by rw [chn_app, chn_app, h]
  have hone : chn fnv0 (l0 ++ [l3]) = nxt (chn fnv0 l0) ((l3.length : Int) :: l3) := by rw [chn_app, chn_one]
  obtain ⟨sa, ea⟩ : ∃ s : Int, s = ((chn fnv0 l0).toNat : Int) := ⟨_, rfl⟩
  replace ea := Lib.hid ea
  obtain ⟨sb, eb⟩ : ∃ s : Int, s = ((chn fnv0 l1).toNat : Int) := ⟨_, rfl⟩
  replace eb := Lib.hid eb
  obtain ⟨so, eo⟩ : ∃ s : Int, s = ((chn fnv0 (l0 ++ [l3])).toNat : Int) := ⟨_, rfl⟩
  replace eo := Lib.hid eo
  obtain ⟨sx, ex⟩ : ∃ s : Int, s = ((chn fnv0 (l0 ++ l2)).toNat : Int) := ⟨_, rfl⟩
  replace ex := Lib.hid ex
  obtain ⟨sy, ey⟩ : ∃ s : Int, s = ((chn fnv0 (l1 ++ l2)).toNat : Int) := ⟨_, rfl⟩
  replace ey := Lib.hid ey
  have hu : ∀ a b : UInt64, (a.toNat : Int) = (b.toNat : Int) ↔ a = b := fun a b => ⟨fun h => UInt64.toNat.inj (by omega), fun h => by rw [h]⟩
  by_cases hab : chn fnv0 l0 = chn fnv0 l1
  case neg =>
    have qn : (sa == sb) = false := by rw [beq_eq_false_iff_ne, ea.out, eb.out]; intro h; exact hab ((hu _ _).1 h)
    have qn2 : (sa != sb) = true := by rw [bne, qn]; rfl
    go_enter Tryd.func7, Tryd.ntmps7
    have hn := head_any w hT
    go_wp2_with fail
    refine hn.mono ?_
    rintro e w1 ⟨rfl, hx⟩
    clear hn
    replace hT := hT.below hx
    replace h0 := h0.below hx
    replace h1 := h1.below hx
    replace h2 := h2.below hx
    replace h3 := h3.below hx
    replace ra0 := ra0.below hx
    replace ra1 := ra1.below hx
    replace ra2 := ra2.below hx
    replace ya0 := ya0.below hx
    replace ya1 := ya1.below hx
    replace ya2 := ya2.below hx
    replace hb := hb.trans (hx.mono hb.size)
    clear hx
    have hn := show Calls Tryd.prog _ _ _ (Ret (.bool true) w1) from by have := few_any _ _ _ h0; rw [c0] at this; exact this
    go_wp2_with fail
    refine hn.mono ?_
    rintro e w2 ⟨rfl, hx⟩
    clear hn
    replace hT := hT.below hx
    replace h0 := h0.below hx
    replace h1 := h1.below hx
    replace h2 := h2.below hx
    replace h3 := h3.below hx
    replace ra0 := ra0.below hx
    replace ra1 := ra1.below hx
    replace ra2 := ra2.below hx
    replace ya0 := ya0.below hx
    replace ya1 := ya1.below hx
    replace ya2 := ya2.below hx
    replace hb := hb.trans (hx.mono hb.size)
    clear hx
    have hn := show Calls Tryd.prog _ _ _ (Ret (.bool true) w2) from by have := few_any _ _ _ h1; rw [c1] at this; exact this
    go_wp2_with fail
    refine hn.mono ?_
    rintro e w3 ⟨rfl, hx⟩
    clear hn
    replace hT := hT.below hx
    replace h0 := h0.below hx
    replace h1 := h1.below hx
    replace h2 := h2.below hx
    replace h3 := h3.below hx
    replace ra0 := ra0.below hx
    replace ra1 := ra1.below hx
    replace ra2 := ra2.below hx
    replace ya0 := ya0.below hx
    replace ya1 := ya1.below hx
    replace ya2 := ya2.below hx
    replace hb := hb.trans (hx.mono hb.size)
    clear hx
    have hn := show Calls Tryd.prog _ _ _ (Ret (.bool true) w3) from by have := few_any _ _ _ h2; rw [c2] at this; exact this
    go_wp2_with fail
    refine hn.mono ?_
    rintro e w4 ⟨rfl, hx⟩
    clear hn
    replace hT := hT.below hx
    replace h0 := h0.below hx
    replace h1 := h1.below hx
    replace h2 := h2.below hx
    replace h3 := h3.below hx
    replace ra0 := ra0.below hx
    replace ra1 := ra1.below hx
    replace ra2 := ra2.below hx
    replace ya0 := ya0.below hx
    replace ya1 := ya1.below hx
    replace ya2 := ya2.below hx
    replace hb := hb.trans (hx.mono hb.size)
    clear hx
    have hown := OwnRow.new w4 w4.heap.size (Nat.le_refl _) 24 [] (by simp)
    have hr0 : Row (w4.alloc (.cells #[] 24)) _ va0 := (ra0).below ((Below.refl _ w4).alloc (Nat.le_refl _) _)
    go_wp2_with (at_builtin; go_loud (refine app_row _ rfl _ _ 25 rfl w4.heap.size 24 (.slice none 0 0) 24 Tryd.underlying25 Tryd.infoInts rfl (by decide) _ [] rfl hown _ va0 rfl hr0 ya0.cells (by first | omega | (simp; omega) | simp) (by simp) ?_; intro v5' w5 hown5 hx5; refine Hid.out ?_))
    have hz : Below w4.heap.size w4 w5 := ((Below.refl _ w4).alloc (Nat.le_refl _) _).trans hx5
    clear hr0 hown hx5
    rw [List.nil_append] at hown5
    have hr0 : Row (w5.alloc (.cells #[(.slice ad3 l3.length cap3)] 24)) _ [(.slice ad3 l3.length cap3)] := one_row (.slice ad3 l3.length cap3) 24
    refine Lib.hid ?_
    go_wp2_with (at_builtin; go_loud (refine app_row _ rfl _ _ 25 rfl w4.heap.size 24 (.slice none 0 0) 24 Tryd.underlying25 Tryd.infoInts rfl (by decide) _ va0 rfl (own_below hown5 ((Below.refl _ w5).alloc (Nat.le_refl _) _)) _ [(.slice ad3 l3.length cap3)] rfl hr0 (by intro u hu; rw [List.mem_singleton] at hu; subst hu; rfl) (by first | omega | (simp; omega) | simp) (by have := hz.size; simp; omega) ?_; intro v6' w6 hown6 hx6; refine Hid.out ?_))
    replace hz := (hz.alloc hz.size _).trans hx6
    clear hr0 hx6 hown5
    have ho : Lists w6 v6' (l0 ++ [l3]) := lists_of_own hown6 (by first | omega | (simp; omega) | simp) ((ya0.below hz).app (Vs.one (h3.below hz)))
    clear hown6
    replace hT := hT.below hz
    replace h0 := h0.below hz
    replace h1 := h1.below hz
    replace h2 := h2.below hz
    replace h3 := h3.below hz
    replace ra0 := ra0.below hz
    replace ra1 := ra1.below hz
    replace ra2 := ra2.below hz
    replace ya0 := ya0.below hz
    replace ya1 := ya1.below hz
    replace ya2 := ya2.below hz
    replace hb := hb.trans (hz.mono hb.size)
    clear hz
    obtain ⟨da6, ca6, hv⟩ : ∃ ad cap, v6' = .slice ad (l0 ++ [l3]).length cap := by obtain ⟨vr, hr, hl, _⟩ := ho; obtain ⟨ad, cap, e⟩ := hr.shape; rw [hl] at e; exact ⟨ad, cap, e⟩
    simp only [List.length_append, List.length_cons, List.length_nil] at hv
    subst hv
    have hown := OwnRow.new w6 w6.heap.size (Nat.le_refl _) 3 [.int .i64 l3.length] (by simp)
    have hr0 : Row (w6.alloc (.cells #[.int .i64 l3.length] 3)) _ (l3.map (.int .i64)) := (h3.1).below ((Below.refl _ w6).alloc (Nat.le_refl _) _)
    refine Lib.hid ?_
    go_wp2_with (at_builtin; refine app_row _ rfl _ _ 24 rfl w6.heap.size 3 (.int .i64 0) 8 Tryd.underlying24 Tryd.infoInt rfl (by decide) _ [.int .i64 l3.length] rfl hown _ (l3.map (.int .i64)) rfl hr0 int_one (by first | omega | (simp; omega) | simp) (by simp) ?_; intro v7' w7 hown7 hx7; refine Hid.out ?_)
    have hz : Below w6.heap.size w6 w7 := ((Below.refl _ w6).alloc (Nat.le_refl _) _).trans hx7
    clear hr0 hown hx7
    have hi : Ints w7 v7' ((l3.length : Int) :: l3) := ints_of_own hown7 (by first | omega | (simp; omega) | simp) hi3
    clear hown7
    replace hT := hT.below hz
    replace h0 := h0.below hz
    replace h1 := h1.below hz
    replace h2 := h2.below hz
    replace h3 := h3.below hz
    replace ra0 := ra0.below hz
    replace ra1 := ra1.below hz
    replace ra2 := ra2.below hz
    replace ya0 := ya0.below hz
    replace ya1 := ya1.below hz
    replace ya2 := ya2.below hz
    replace ho := ho.below hz
    replace hb := hb.trans (hz.mono hb.size)
    clear hz
    obtain ⟨da7, ca7, hv⟩ := hi.1.shape
    simp only [List.length_map, List.length_cons] at hv
    subst hv
    have hn := show Calls Tryd.prog _ _ _ (Ret (.int .u64 so) w7) from by rw [eo.out]; exact chain_any _ _ _ hT ho (by first | omega | (simp; omega) | simp) (all2 hall0 hall3)
    refine Lib.hid ?_
    go_wp2_with fail
    refine hn.mono ?_
    rintro e w8 ⟨rfl, hx⟩
    clear hn
    replace hT := hT.below hx
    replace h0 := h0.below hx
    replace h1 := h1.below hx
    replace h2 := h2.below hx
    replace h3 := h3.below hx
    replace ra0 := ra0.below hx
    replace ra1 := ra1.below hx
    replace ra2 := ra2.below hx
    replace ya0 := ya0.below hx
    replace ya1 := ya1.below hx
    replace ya2 := ya2.below hx
    replace ho := ho.below hx
    replace hi := hi.below hx
    replace hb := hb.trans (hx.mono hb.size)
    clear hx
    have hn := show Calls Tryd.prog _ _ _ (Ret (.int .u64 sa) w8) from by rw [ea.out]; exact chain_any _ _ _ hT h0 (by first | omega | (simp; omega) | simp) (all1 hall0)
    go_wp2_with fail
    refine hn.mono ?_
    rintro e w9 ⟨rfl, hx⟩
    clear hn
    replace hT := hT.below hx
    replace h0 := h0.below hx
    replace h1 := h1.below hx
    replace h2 := h2.below hx
    replace h3 := h3.below hx
    replace ra0 := ra0.below hx
    replace ra1 := ra1.below hx
    replace ra2 := ra2.below hx
    replace ya0 := ya0.below hx
    replace ya1 := ya1.below hx
    replace ya2 := ya2.below hx
    replace ho := ho.below hx
    replace hi := hi.below hx
    replace hb := hb.trans (hx.mono hb.size)
    clear hx
    have hn := show Calls Tryd.prog _ #[.int .u64 sa, _] _ (Ret (.int .u64 so) w9) from by rw [eo.out, hone, ea.out]; exact next_any _ _ _ _ hT hi
    go_wp2_with fail
    refine hn.mono ?_
    rintro e w10 ⟨rfl, hx⟩
    clear hn
    replace hT := hT.below hx
    replace h0 := h0.below hx
    replace h1 := h1.below hx
    replace h2 := h2.below hx
    replace h3 := h3.below hx
    replace ra0 := ra0.below hx
    replace ra1 := ra1.below hx
    replace ra2 := ra2.below hx
    replace ya0 := ya0.below hx
    replace ya1 := ya1.below hx
    replace ya2 := ya2.below hx
    replace ho := ho.below hx
    replace hi := hi.below hx
    replace hb := hb.trans (hx.mono hb.size)
    clear hx
    have hown := OwnRow.new w10 w10.heap.size (Nat.le_refl _) 24 [] (by simp)
    have hr0 : Row (w10.alloc (.cells #[] 24)) _ va0 := (ra0).below ((Below.refl _ w10).alloc (Nat.le_refl _) _)
    go_wp2_with (at_builtin; go_loud (refine app_row _ rfl _ _ 25 rfl w10.heap.size 24 (.slice none 0 0) 24 Tryd.underlying25 Tryd.infoInts rfl (by decide) _ [] rfl hown _ va0 rfl hr0 ya0.cells (by first | omega | (simp; omega) | simp) (by simp) ?_; intro v11' w11 hown11 hx11; refine Hid.out ?_))
    have hz : Below w10.heap.size w10 w11 := ((Below.refl _ w10).alloc (Nat.le_refl _) _).trans hx11
    clear hr0 hown hx11
    rw [List.nil_append] at hown11
    have hr0 : Row w11 _ va2 := ra2.below hz
    refine Lib.hid ?_
    go_wp2_with (at_builtin; go_loud (refine app_row _ rfl _ _ 25 rfl w10.heap.size 24 (.slice none 0 0) 24 Tryd.underlying25 Tryd.infoInts rfl (by decide) _ va0 rfl hown11 _ va2 rfl hr0 ya2.cells (by first | omega | (simp; omega) | simp) hz.size ?_; intro v12' w12 hown12 hx12; refine Hid.out ?_))
    replace hz := hz.trans hx12
    clear hr0 hx12 hown11
    have hX : Lists w12 v12' (l0 ++ l2) := lists_of_own hown12 (by first | omega | (simp; omega) | simp) ((ya0.below hz).app (ya2.below hz))
    clear hown12
    replace hT := hT.below hz
    replace h0 := h0.below hz
    replace h1 := h1.below hz
    replace h2 := h2.below hz
    replace h3 := h3.below hz
    replace ra0 := ra0.below hz
    replace ra1 := ra1.below hz
    replace ra2 := ra2.below hz
    replace ya0 := ya0.below hz
    replace ya1 := ya1.below hz
    replace ya2 := ya2.below hz
    replace ho := ho.below hz
    replace hi := hi.below hz
    replace hb := hb.trans (hz.mono hb.size)
    clear hz
    obtain ⟨da12, ca12, hv⟩ : ∃ ad cap, v12' = .slice ad (l0 ++ l2).length cap := by obtain ⟨vr, hr, hl, _⟩ := hX; obtain ⟨ad, cap, e⟩ := hr.shape; rw [hl] at e; exact ⟨ad, cap, e⟩
    simp only [List.length_append] at hv
    subst hv
    have hown := OwnRow.new w12 w12.heap.size (Nat.le_refl _) 24 [] (by simp)
    have hr0 : Row (w12.alloc (.cells #[] 24)) _ va1 := (ra1).below ((Below.refl _ w12).alloc (Nat.le_refl _) _)
    refine Lib.hid ?_
    go_wp2_with (at_builtin; go_loud (refine app_row _ rfl _ _ 25 rfl w12.heap.size 24 (.slice none 0 0) 24 Tryd.underlying25 Tryd.infoInts rfl (by decide) _ [] rfl hown _ va1 rfl hr0 ya1.cells (by first | omega | (simp; omega) | simp) (by simp) ?_; intro v13' w13 hown13 hx13; refine Hid.out ?_))
    have hz : Below w12.heap.size w12 w13 := ((Below.refl _ w12).alloc (Nat.le_refl _) _).trans hx13
    clear hr0 hown hx13
    rw [List.nil_append] at hown13
    have hr0 : Row w13 _ va2 := ra2.below hz
    refine Lib.hid ?_
    go_wp2_with (at_builtin; go_loud (refine app_row _ rfl _ _ 25 rfl w12.heap.size 24 (.slice none 0 0) 24 Tryd.underlying25 Tryd.infoInts rfl (by decide) _ va1 rfl hown13 _ va2 rfl hr0 ya2.cells (by first | omega | (simp; omega) | simp) hz.size ?_; intro v14' w14 hown14 hx14; refine Hid.out ?_))
    replace hz := hz.trans hx14
    clear hr0 hx14 hown13
    have hY : Lists w14 v14' (l1 ++ l2) := lists_of_own hown14 (by first | omega | (simp; omega) | simp) ((ya1.below hz).app (ya2.below hz))
    clear hown14
    replace hT := hT.below hz
    replace h0 := h0.below hz
    replace h1 := h1.below hz
    replace h2 := h2.below hz
    replace h3 := h3.below hz
    replace ra0 := ra0.below hz
    replace ra1 := ra1.below hz
    replace ra2 := ra2.below hz
    replace ya0 := ya0.below hz
    replace ya1 := ya1.below hz
    replace ya2 := ya2.below hz
    replace ho := ho.below hz
    replace hi := hi.below hz
    replace hX := hX.below hz
    replace hb := hb.trans (hz.mono hb.size)
    clear hz
    obtain ⟨da14, ca14, hv⟩ : ∃ ad cap, v14' = .slice ad (l1 ++ l2).length cap := by obtain ⟨vr, hr, hl, _⟩ := hY; obtain ⟨ad, cap, e⟩ := hr.shape; rw [hl] at e; exact ⟨ad, cap, e⟩
    simp only [List.length_append] at hv
    subst hv
    have hn := show Calls Tryd.prog _ _ _ (Ret (.int .u64 sa) w14) from by rw [ea.out]; exact chain_any _ _ _ hT h0 (by first | omega | (simp; omega) | simp) (all1 hall0)
    refine Lib.hid ?_
    go_wp2_with fail
    refine hn.mono ?_
    rintro e w15 ⟨rfl, hx⟩
    clear hn
    replace hT := hT.below hx
    replace h0 := h0.below hx
    replace h1 := h1.below hx
    replace h2 := h2.below hx
    replace h3 := h3.below hx
    replace ra0 := ra0.below hx
    replace ra1 := ra1.below hx
    replace ra2 := ra2.below hx
    replace ya0 := ya0.below hx
    replace ya1 := ya1.below hx
    replace ya2 := ya2.below hx
    replace ho := ho.below hx
    replace hi := hi.below hx
    replace hX := hX.below hx
    replace hY := hY.below hx
    replace hb := hb.trans (hx.mono hb.size)
    clear hx
    have hn := show Calls Tryd.prog _ _ _ (Ret (.int .u64 sb) w15) from by rw [eb.out]; exact chain_any _ _ _ hT h1 (by first | omega | (simp; omega) | simp) (all1 hall1)
    go_wp2_with fail
    refine hn.mono ?_
    rintro e w16 ⟨rfl, hx⟩
    clear hn
    replace hT := hT.below hx
    replace h0 := h0.below hx
    replace h1 := h1.below hx
    replace h2 := h2.below hx
    replace h3 := h3.below hx
    replace ra0 := ra0.below hx
    replace ra1 := ra1.below hx
    replace ra2 := ra2.below hx
    replace ya0 := ya0.below hx
    replace ya1 := ya1.below hx
    replace ya2 := ya2.below hx
    replace ho := ho.below hx
    replace hi := hi.below hx
    replace hX := hX.below hx
    replace hY := hY.below hx
    replace hb := hb.trans (hx.mono hb.size)
    clear hx
    go_wp2_with fail
    go_ret
    exact Ret.mk rfl hb
  have qe : sa = sb := by rw [ea.out, eb.out, hab]
  have qe2 : sx = sy := by rw [ex.out, ey.out, hsame hab]
  subst qe qe2
  go_enter Tryd.func7, Tryd.ntmps7
  have hn := head_any w hT
  go_wp2_with fail
  refine hn.mono ?_
  rintro e w1 ⟨rfl, hx⟩
  clear hn
  replace hT := hT.below hx
  replace h0 := h0.below hx
  replace h1 := h1.below hx
  replace h2 := h2.below hx
  replace h3 := h3.below hx
  replace ra0 := ra0.below hx
  replace ra1 := ra1.below hx
  replace ra2 := ra2.below hx
  replace ya0 := ya0.below hx
  replace ya1 := ya1.below hx
  replace ya2 := ya2.below hx
  replace hb := hb.trans (hx.mono hb.size)
  clear hx
  have hn := show Calls Tryd.prog _ _ _ (Ret (.bool true) w1) from by have := few_any _ _ _ h0; rw [c0] at this; exact this
  go_wp2_with fail
  refine hn.mono ?_
  rintro e w2 ⟨rfl, hx⟩
  clear hn
  replace hT := hT.below hx
  replace h0 := h0.below hx
  replace h1 := h1.below hx
  replace h2 := h2.below hx
  replace h3 := h3.below hx
  replace ra0 := ra0.below hx
  replace ra1 := ra1.below hx
  replace ra2 := ra2.below hx
  replace ya0 := ya0.below hx
  replace ya1 := ya1.below hx
  replace ya2 := ya2.below hx
  replace hb := hb.trans (hx.mono hb.size)
  clear hx
  have hn := show Calls Tryd.prog _ _ _ (Ret (.bool true) w2) from by have := few_any _ _ _ h1; rw [c1] at this; exact this
  go_wp2_with fail
  refine hn.mono ?_
  rintro e w3 ⟨rfl, hx⟩
  clear hn
  replace hT := hT.below hx
  replace h0 := h0.below hx
  replace h1 := h1.below hx
  replace h2 := h2.below hx
  replace h3 := h3.below hx
  replace ra0 := ra0.below hx
  replace ra1 := ra1.below hx
  replace ra2 := ra2.below hx
  replace ya0 := ya0.below hx
  replace ya1 := ya1.below hx
  replace ya2 := ya2.below hx
  replace hb := hb.trans (hx.mono hb.size)
  clear hx
  have hn := show Calls Tryd.prog _ _ _ (Ret (.bool true) w3) from by have := few_any _ _ _ h2; rw [c2] at this; exact this
  go_wp2_with fail
  refine hn.mono ?_
  rintro e w4 ⟨rfl, hx⟩
  clear hn
  replace hT := hT.below hx
  replace h0 := h0.below hx
  replace h1 := h1.below hx
  replace h2 := h2.below hx
  replace h3 := h3.below hx
  replace ra0 := ra0.below hx
  replace ra1 := ra1.below hx
  replace ra2 := ra2.below hx
  replace ya0 := ya0.below hx
  replace ya1 := ya1.below hx
  replace ya2 := ya2.below hx
  replace hb := hb.trans (hx.mono hb.size)
  clear hx
  have hown := OwnRow.new w4 w4.heap.size (Nat.le_refl _) 24 [] (by simp)
  have hr0 : Row (w4.alloc (.cells #[] 24)) _ va0 := (ra0).below ((Below.refl _ w4).alloc (Nat.le_refl _) _)
  go_wp2_with (at_builtin; go_loud (refine app_row _ rfl _ _ 25 rfl w4.heap.size 24 (.slice none 0 0) 24 Tryd.underlying25 Tryd.infoInts rfl (by decide) _ [] rfl hown _ va0 rfl hr0 ya0.cells (by first | omega | (simp; omega) | simp) (by simp) ?_; intro v5' w5 hown5 hx5; refine Hid.out ?_))
  have hz : Below w4.heap.size w4 w5 := ((Below.refl _ w4).alloc (Nat.le_refl _) _).trans hx5
  clear hr0 hown hx5
  rw [List.nil_append] at hown5
  have hr0 : Row (w5.alloc (.cells #[(.slice ad3 l3.length cap3)] 24)) _ [(.slice ad3 l3.length cap3)] := one_row (.slice ad3 l3.length cap3) 24
  refine Lib.hid ?_
  go_wp2_with (at_builtin; go_loud (refine app_row _ rfl _ _ 25 rfl w4.heap.size 24 (.slice none 0 0) 24 Tryd.underlying25 Tryd.infoInts rfl (by decide) _ va0 rfl (own_below hown5 ((Below.refl _ w5).alloc (Nat.le_refl _) _)) _ [(.slice ad3 l3.length cap3)] rfl hr0 (by intro u hu; rw [List.mem_singleton] at hu; subst hu; rfl) (by first | omega | (simp; omega) | simp) (by have := hz.size; simp; omega) ?_; intro v6' w6 hown6 hx6; refine Hid.out ?_))
  replace hz := (hz.alloc hz.size _).trans hx6
  clear hr0 hx6 hown5
  have ho : Lists w6 v6' (l0 ++ [l3]) := lists_of_own hown6 (by first | omega | (simp; omega) | simp) ((ya0.below hz).app (Vs.one (h3.below hz)))
  clear hown6
  replace hT := hT.below hz
  replace h0 := h0.below hz
  replace h1 := h1.below hz
  replace h2 := h2.below hz
  replace h3 := h3.below hz
  replace ra0 := ra0.below hz
  replace ra1 := ra1.below hz
  replace ra2 := ra2.below hz
  replace ya0 := ya0.below hz
  replace ya1 := ya1.below hz
  replace ya2 := ya2.below hz
  replace hb := hb.trans (hz.mono hb.size)
  clear hz
  obtain ⟨da6, ca6, hv⟩ : ∃ ad cap, v6' = .slice ad (l0 ++ [l3]).length cap := by obtain ⟨vr, hr, hl, _⟩ := ho; obtain ⟨ad, cap, e⟩ := hr.shape; rw [hl] at e; exact ⟨ad, cap, e⟩
  simp only [List.length_append, List.length_cons, List.length_nil] at hv
  subst hv
  have hown := OwnRow.new w6 w6.heap.size (Nat.le_refl _) 3 [.int .i64 l3.length] (by simp)
  have hr0 : Row (w6.alloc (.cells #[.int .i64 l3.length] 3)) _ (l3.map (.int .i64)) := (h3.1).below ((Below.refl _ w6).alloc (Nat.le_refl _) _)
  refine Lib.hid ?_
  go_wp2_with (at_builtin; refine app_row _ rfl _ _ 24 rfl w6.heap.size 3 (.int .i64 0) 8 Tryd.underlying24 Tryd.infoInt rfl (by decide) _ [.int .i64 l3.length] rfl hown _ (l3.map (.int .i64)) rfl hr0 int_one (by first | omega | (simp; omega) | simp) (by simp) ?_; intro v7' w7 hown7 hx7; refine Hid.out ?_)
  have hz : Below w6.heap.size w6 w7 := ((Below.refl _ w6).alloc (Nat.le_refl _) _).trans hx7
  clear hr0 hown hx7
  have hi : Ints w7 v7' ((l3.length : Int) :: l3) := ints_of_own hown7 (by first | omega | (simp; omega) | simp) hi3
  clear hown7
  replace hT := hT.below hz
  replace h0 := h0.below hz
  replace h1 := h1.below hz
  replace h2 := h2.below hz
  replace h3 := h3.below hz
  replace ra0 := ra0.below hz
  replace ra1 := ra1.below hz
  replace ra2 := ra2.below hz
  replace ya0 := ya0.below hz
  replace ya1 := ya1.below hz
  replace ya2 := ya2.below hz
  replace ho := ho.below hz
  replace hb := hb.trans (hz.mono hb.size)
  clear hz
  obtain ⟨da7, ca7, hv⟩ := hi.1.shape
  simp only [List.length_map, List.length_cons] at hv
  subst hv
  have hn := show Calls Tryd.prog _ _ _ (Ret (.int .u64 so) w7) from by rw [eo.out]; exact chain_any _ _ _ hT ho (by first | omega | (simp; omega) | simp) (all2 hall0 hall3)
  refine Lib.hid ?_
  go_wp2_with fail
  refine hn.mono ?_
  rintro e w8 ⟨rfl, hx⟩
  clear hn
  replace hT := hT.below hx
  replace h0 := h0.below hx
  replace h1 := h1.below hx
  replace h2 := h2.below hx
  replace h3 := h3.below hx
  replace ra0 := ra0.below hx
  replace ra1 := ra1.below hx
  replace ra2 := ra2.below hx
  replace ya0 := ya0.below hx
  replace ya1 := ya1.below hx
  replace ya2 := ya2.below hx
  replace ho := ho.below hx
  replace hi := hi.below hx
  replace hb := hb.trans (hx.mono hb.size)
  clear hx
  have hn := show Calls Tryd.prog _ _ _ (Ret (.int .u64 sa) w8) from by rw [ea.out]; exact chain_any _ _ _ hT h0 (by first | omega | (simp; omega) | simp) (all1 hall0)
  go_wp2_with fail
  refine hn.mono ?_
  rintro e w9 ⟨rfl, hx⟩
  clear hn
  replace hT := hT.below hx
  replace h0 := h0.below hx
  replace h1 := h1.below hx
  replace h2 := h2.below hx
  replace h3 := h3.below hx
  replace ra0 := ra0.below hx
  replace ra1 := ra1.below hx
  replace ra2 := ra2.below hx
  replace ya0 := ya0.below hx
  replace ya1 := ya1.below hx
  replace ya2 := ya2.below hx
  replace ho := ho.below hx
  replace hi := hi.below hx
  replace hb := hb.trans (hx.mono hb.size)
  clear hx
  have hn := show Calls Tryd.prog _ #[.int .u64 sa, _] _ (Ret (.int .u64 so) w9) from by rw [eo.out, hone, ea.out]; exact next_any _ _ _ _ hT hi
  go_wp2_with fail
  refine hn.mono ?_
  rintro e w10 ⟨rfl, hx⟩
  clear hn
  replace hT := hT.below hx
  replace h0 := h0.below hx
  replace h1 := h1.below hx
  replace h2 := h2.below hx
  replace h3 := h3.below hx
  replace ra0 := ra0.below hx
  replace ra1 := ra1.below hx
  replace ra2 := ra2.below hx
  replace ya0 := ya0.below hx
  replace ya1 := ya1.below hx
  replace ya2 := ya2.below hx
  replace ho := ho.below hx
  replace hi := hi.below hx
  replace hb := hb.trans (hx.mono hb.size)
  clear hx
  have hown := OwnRow.new w10 w10.heap.size (Nat.le_refl _) 24 [] (by simp)
  have hr0 : Row (w10.alloc (.cells #[] 24)) _ va0 := (ra0).below ((Below.refl _ w10).alloc (Nat.le_refl _) _)
  go_wp2_with (at_builtin; go_loud (refine app_row _ rfl _ _ 25 rfl w10.heap.size 24 (.slice none 0 0) 24 Tryd.underlying25 Tryd.infoInts rfl (by decide) _ [] rfl hown _ va0 rfl hr0 ya0.cells (by first | omega | (simp; omega) | simp) (by simp) ?_; intro v11' w11 hown11 hx11; refine Hid.out ?_))
  have hz : Below w10.heap.size w10 w11 := ((Below.refl _ w10).alloc (Nat.le_refl _) _).trans hx11
  clear hr0 hown hx11
  rw [List.nil_append] at hown11
  have hr0 : Row w11 _ va2 := ra2.below hz
  refine Lib.hid ?_
  go_wp2_with (at_builtin; go_loud (refine app_row _ rfl _ _ 25 rfl w10.heap.size 24 (.slice none 0 0) 24 Tryd.underlying25 Tryd.infoInts rfl (by decide) _ va0 rfl hown11 _ va2 rfl hr0 ya2.cells (by first | omega | (simp; omega) | simp) hz.size ?_; intro v12' w12 hown12 hx12; refine Hid.out ?_))
  replace hz := hz.trans hx12
  clear hr0 hx12 hown11
  have hX : Lists w12 v12' (l0 ++ l2) := lists_of_own hown12 (by first | omega | (simp; omega) | simp) ((ya0.below hz).app (ya2.below hz))
  clear hown12
  replace hT := hT.below hz
  replace h0 := h0.below hz
  replace h1 := h1.below hz
  replace h2 := h2.below hz
  replace h3 := h3.below hz
  replace ra0 := ra0.below hz
  replace ra1 := ra1.below hz
  replace ra2 := ra2.below hz
  replace ya0 := ya0.below hz
  replace ya1 := ya1.below hz
  replace ya2 := ya2.below hz
  replace ho := ho.below hz
  replace hi := hi.below hz
  replace hb := hb.trans (hz.mono hb.size)
  clear hz
  obtain ⟨da12, ca12, hv⟩ : ∃ ad cap, v12' = .slice ad (l0 ++ l2).length cap := by obtain ⟨vr, hr, hl, _⟩ := hX; obtain ⟨ad, cap, e⟩ := hr.shape; rw [hl] at e; exact ⟨ad, cap, e⟩
  simp only [List.length_append] at hv
  subst hv
  have hown := OwnRow.new w12 w12.heap.size (Nat.le_refl _) 24 [] (by simp)
  have hr0 : Row (w12.alloc (.cells #[] 24)) _ va1 := (ra1).below ((Below.refl _ w12).alloc (Nat.le_refl _) _)
  refine Lib.hid ?_
  go_wp2_with (at_builtin; go_loud (refine app_row _ rfl _ _ 25 rfl w12.heap.size 24 (.slice none 0 0) 24 Tryd.underlying25 Tryd.infoInts rfl (by decide) _ [] rfl hown _ va1 rfl hr0 ya1.cells (by first | omega | (simp; omega) | simp) (by simp) ?_; intro v13' w13 hown13 hx13; refine Hid.out ?_))
  have hz : Below w12.heap.size w12 w13 := ((Below.refl _ w12).alloc (Nat.le_refl _) _).trans hx13
  clear hr0 hown hx13
  rw [List.nil_append] at hown13
  have hr0 : Row w13 _ va2 := ra2.below hz
  refine Lib.hid ?_
  go_wp2_with (at_builtin; go_loud (refine app_row _ rfl _ _ 25 rfl w12.heap.size 24 (.slice none 0 0) 24 Tryd.underlying25 Tryd.infoInts rfl (by decide) _ va1 rfl hown13 _ va2 rfl hr0 ya2.cells (by first | omega | (simp; omega) | simp) hz.size ?_; intro v14' w14 hown14 hx14; refine Hid.out ?_))
  replace hz := hz.trans hx14
  clear hr0 hx14 hown13
  have hY : Lists w14 v14' (l1 ++ l2) := lists_of_own hown14 (by first | omega | (simp; omega) | simp) ((ya1.below hz).app (ya2.below hz))
  clear hown14
  replace hT := hT.below hz
  replace h0 := h0.below hz
  replace h1 := h1.below hz
  replace h2 := h2.below hz
  replace h3 := h3.below hz
  replace ra0 := ra0.below hz
  replace ra1 := ra1.below hz
  replace ra2 := ra2.below hz
  replace ya0 := ya0.below hz
  replace ya1 := ya1.below hz
  replace ya2 := ya2.below hz
  replace ho := ho.below hz
  replace hi := hi.below hz
  replace hX := hX.below hz
  replace hb := hb.trans (hz.mono hb.size)
  clear hz
  obtain ⟨da14, ca14, hv⟩ : ∃ ad cap, v14' = .slice ad (l1 ++ l2).length cap := by obtain ⟨vr, hr, hl, _⟩ := hY; obtain ⟨ad, cap, e⟩ := hr.shape; rw [hl] at e; exact ⟨ad, cap, e⟩
  simp only [List.length_append] at hv
  subst hv
  have hn := show Calls Tryd.prog _ _ _ (Ret (.int .u64 sa) w14) from by rw [ea.out]; exact chain_any _ _ _ hT h0 (by first | omega | (simp; omega) | simp) (all1 hall0)
  refine Lib.hid ?_
  go_wp2_with fail
  refine hn.mono ?_
  rintro e w15 ⟨rfl, hx⟩
  clear hn
  replace hT := hT.below hx
  replace h0 := h0.below hx
  replace h1 := h1.below hx
  replace h2 := h2.below hx
  replace h3 := h3.below hx
  replace ra0 := ra0.below hx
  replace ra1 := ra1.below hx
  replace ra2 := ra2.below hx
  replace ya0 := ya0.below hx
  replace ya1 := ya1.below hx
  replace ya2 := ya2.below hx
  replace ho := ho.below hx
  replace hi := hi.below hx
  replace hX := hX.below hx
  replace hY := hY.below hx
  replace hb := hb.trans (hx.mono hb.size)
  clear hx
  have hn := show Calls Tryd.prog _ _ _ (Ret (.int .u64 sa) w15) from by rw [eb.out]; exact chain_any _ _ _ hT h1 (by first | omega | (simp; omega) | simp) (all1 hall1)
  go_wp2_with fail
  refine hn.mono ?_
  rintro e w16 ⟨rfl, hx⟩
  clear hn
  replace hT := hT.below hx
  replace h0 := h0.below hx
  replace h1 := h1.below hx
  replace h2 := h2.below hx
  replace h3 := h3.below hx
  replace ra0 := ra0.below hx
  replace ra1 := ra1.below hx
  replace ra2 := ra2.below hx
  replace ya0 := ya0.below hx
  replace ya1 := ya1.below hx
  replace ya2 := ya2.below hx
  replace ho := ho.below hx
  replace hi := hi.below hx
  replace hX := hX.below hx
  replace hY := hY.below hx
  replace hb := hb.trans (hx.mono hb.size)
  clear hx
  have hn := show Calls Tryd.prog _ _ _ (Ret (.int .u64 sx) w16) from by rw [ex.out]; exact chain_any _ _ _ hT hX (by first | omega | (simp; omega) | simp) (all2 hall0 hall2)
  go_wp2_with fail
  refine hn.mono ?_
  rintro e w17 ⟨rfl, hx⟩
  clear hn
  replace hT := hT.below hx
  replace h0 := h0.below hx
  replace h1 := h1.below hx
  replace h2 := h2.below hx
  replace h3 := h3.below hx
  replace ra0 := ra0.below hx
  replace ra1 := ra1.below hx
  replace ra2 := ra2.below hx
  replace ya0 := ya0.below hx
  replace ya1 := ya1.below hx
  replace ya2 := ya2.below hx
  replace ho := ho.below hx
  replace hi := hi.below hx
  replace hX := hX.below hx
  replace hY := hY.below hx
  replace hb := hb.trans (hx.mono hb.size)
  clear hx
  have hn := show Calls Tryd.prog _ _ _ (Ret (.int .u64 sx) w17) from by rw [ey.out]; exact chain_any _ _ _ hT hY (by first | omega | (simp; omega) | simp) (all2 hall1 hall2)
  go_wp2_with fail
  refine hn.mono ?_
  rintro e w18 ⟨rfl, hx⟩
  clear hn
  replace hT := hT.below hx
  replace h0 := h0.below hx
  replace h1 := h1.below hx
  replace h2 := h2.below hx
  replace h3 := h3.below hx
  replace ra0 := ra0.below hx
  replace ra1 := ra1.below hx
  replace ra2 := ra2.below hx
  replace ya0 := ya0.below hx
  replace ya1 := ya1.below hx
  replace ya2 := ya2.below hx
  replace ho := ho.below hx
  replace hi := hi.below hx
  replace hX := hX.below hx
  replace hY := hY.below hx
  replace hb := hb.trans (hx.mono hb.size)
  clear hx
  go_wp2_with fail
  go_ret
  exact Ret.mk rfl hb
end Go.Proofs.YtgagdljmanmjnaaDoor
