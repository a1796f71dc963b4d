/-
  The law Last: its walk.
-/
import Derived.Test.YtgagdljmanmjnaaDoorDigBig
namespace Go.Proofs.YtgagdljmanmjnaaDoor
open Go.RowKit Go.Shelf

theorem few_out {l : List (List Int)} (h : few l = true) : l.length ≤ 40 ∧ ∀ x ∈ l, x.length ≤ 40 := by
  unfold few at h
  simp only [Bool.and_eq_true, decide_eq_true_eq, List.all_eq_true] at h
  exact ⟨h.2, h.1⟩
theorem all1 {l : List (List Int)} (h : ∀ x ∈ l, x.length ≤ 40) : ∀ x ∈ l, x.length ≤ 1000000 - 1 := fun x hx => by have := h x hx; omega
theorem all2 {l m : List (List Int)} (h : ∀ x ∈ l, x.length ≤ 40) (k : ∀ x ∈ m, x.length ≤ 40) : ∀ x ∈ l ++ m, x.length ≤ 1000000 - 1 := fun x hx => by
  rcases List.mem_append.1 hx with hx | hx
  · have := h x hx; omega
  · have := k x hx; omega

set_option maxRecDepth 100000 in
set_option maxHeartbeats 8000000 in
theorem walkDigestLast (v0 : Value) (l0 : List (List Int)) (v1 : Value) (l1 : List Int) (n2 : Nat) (hn2 : n2 < 65536) (n3 : Nat) (hn3 : n3 < 256) (w : World) (hT : Tab w) (h0 : Lists w v0 l0) (h1 : Ints w v1 l1) (hz1 : l1.length * 8 ≤ 140737488355328)   : Calls Tryd.prog 8 #[v0, v1, .int .u16 n2, .int .u8 n3] w (Ret (.bool true) w) := by
  have hb := Below.refl w.heap.size w
  obtain ⟨ad0, cap0, hv0⟩ : ∃ ad cap, v0 = .slice ad l0.length cap := by obtain ⟨vs, hr, hl, _⟩ := h0; obtain ⟨ad, cap, e⟩ := hr.shape; rw [hl] at e; exact ⟨ad, cap, e⟩
  subst hv0
  obtain ⟨ad1, cap1, hv1⟩ := h1.1.shape
  rw [List.length_map] at hv1
  subst hv1
  have hs1 := h1.1.short
  simp only [List.length_map] at hs1
  by_cases c9 : tIs l1 n2 = true
  case neg =>
    replace c9 : tIs l1 n2 = false := by simpa using c9
    by_cases c0 : few l0 = true
    case neg =>
      replace c0 : few l0 = false := by simpa using c0
      go_enter Tryd.func8, Tryd.ntmps8
      have hn := head_any w hT
      go_wp2_with fail
      refine hn.mono ?_
      rintro e w1 ⟨rfl, hx⟩
      clear hn
      replace hT := hT.below hx
      replace h0 := h0.below hx
      replace h1 := h1.below hx
      replace hb := hb.trans (hx.mono hb.size)
      clear hx
      have hn := turned_big _ l1 n2 n3 hn2 hn3 w1 h1 (by omega)
      rw [c9] at hn
      simp only [Bool.false_eq_true, if_false] at hn
      go_wp2_with fail
      refine hn.mono ?_
      rintro e w2 ⟨vm, rfl, hm, hx⟩
      clear hn
      replace hT := hT.below hx
      replace h0 := h0.below hx
      replace h1 := h1.below hx
      replace hb := hb.trans (hx.mono hb.size)
      clear hx
      obtain ⟨adm, capm, hvm⟩ := hm.1.shape
      simp only [List.length_map, List.length_nil] at hvm
      subst hvm
      have hn := show Calls Tryd.prog _ _ _ (Ret (.bool false) w2) from by have := few_any _ _ _ h0; rw [c0] at this; exact this
      go_wp2_with fail
      refine hn.mono ?_
      rintro e w3 ⟨rfl, hx⟩
      clear hn
      replace hT := hT.below hx
      replace h0 := h0.below hx
      replace h1 := h1.below hx
      replace hm := hm.below hx
      replace hb := hb.trans (hx.mono hb.size)
      clear hx
      go_wp2_with fail
      go_ret
      exact Ret.mk rfl hb
    by_cases c1 : 40 < l1.length
    · go_enter Tryd.func8, Tryd.ntmps8
      have hn := head_any w hT
      go_wp2_with fail
      refine hn.mono ?_
      rintro e w1 ⟨rfl, hx⟩
      clear hn
      replace hT := hT.below hx
      replace h0 := h0.below hx
      replace h1 := h1.below hx
      replace hb := hb.trans (hx.mono hb.size)
      clear hx
      have hn := turned_big _ l1 n2 n3 hn2 hn3 w1 h1 (by omega)
      rw [c9] at hn
      simp only [Bool.false_eq_true, if_false] at hn
      go_wp2_with fail
      refine hn.mono ?_
      rintro e w2 ⟨vm, rfl, hm, hx⟩
      clear hn
      replace hT := hT.below hx
      replace h0 := h0.below hx
      replace h1 := h1.below hx
      replace hb := hb.trans (hx.mono hb.size)
      clear hx
      obtain ⟨adm, capm, hvm⟩ := hm.1.shape
      simp only [List.length_map, List.length_nil] at hvm
      subst hvm
      have hn := show Calls Tryd.prog _ _ _ (Ret (.bool true) w2) from by have := few_any _ _ _ h0; rw [c0] at this; exact this
      go_wp2_with fail
      refine hn.mono ?_
      rintro e w3 ⟨rfl, hx⟩
      clear hn
      replace hT := hT.below hx
      replace h0 := h0.below hx
      replace h1 := h1.below hx
      replace hm := hm.below hx
      replace hb := hb.trans (hx.mono hb.size)
      clear hx
      go_wp2_with fail
      go_ret
      exact Ret.mk rfl hb
    have q1 : decide (40 < (l1.length : Int)) = false := by simp; omega
    go_enter Tryd.func8, Tryd.ntmps8
    have hn := head_any w hT
    go_wp2_with fail
    refine hn.mono ?_
    rintro e w1 ⟨rfl, hx⟩
    clear hn
    replace hT := hT.below hx
    replace h0 := h0.below hx
    replace h1 := h1.below hx
    replace hb := hb.trans (hx.mono hb.size)
    clear hx
    have hn := turned_big _ l1 n2 n3 hn2 hn3 w1 h1 (by omega)
    rw [c9] at hn
    simp only [Bool.false_eq_true, if_false] at hn
    go_wp2_with fail
    refine hn.mono ?_
    rintro e w2 ⟨vm, rfl, hm, hx⟩
    clear hn
    replace hT := hT.below hx
    replace h0 := h0.below hx
    replace h1 := h1.below hx
    replace hb := hb.trans (hx.mono hb.size)
    clear hx
    obtain ⟨adm, capm, hvm⟩ := hm.1.shape
    simp only [List.length_map, List.length_nil] at hvm
    subst hvm
    have hn := show Calls Tryd.prog _ _ _ (Ret (.bool true) w2) from by have := few_any _ _ _ h0; rw [c0] at this; exact this
    go_wp2_with fail
    refine hn.mono ?_
    rintro e w3 ⟨rfl, hx⟩
    clear hn
    replace hT := hT.below hx
    replace h0 := h0.below hx
    replace h1 := h1.below hx
    replace hm := hm.below hx
    replace hb := hb.trans (hx.mono hb.size)
    clear hx
    go_wp2_with fail
    go_ret
    exact Ret.mk rfl hb
  by_cases c0 : few l0 = true
  case neg =>
    replace c0 : few l0 = false := by simpa using c0
    go_enter Tryd.func8, Tryd.ntmps8
    have hn := head_any w hT
    go_wp2_with fail
    refine hn.mono ?_
    rintro e w1 ⟨rfl, hx⟩
    clear hn
    replace hT := hT.below hx
    replace h0 := h0.below hx
    replace h1 := h1.below hx
    replace hb := hb.trans (hx.mono hb.size)
    clear hx
    have hn := turned_big _ l1 n2 n3 hn2 hn3 w1 h1 (by omega)
    rw [c9] at hn
    simp only [if_true] at hn
    go_wp2_with fail
    refine hn.mono ?_
    rintro e w2 ⟨vm, rfl, hm, hx⟩
    clear hn
    replace hT := hT.below hx
    replace h0 := h0.below hx
    replace h1 := h1.below hx
    replace hb := hb.trans (hx.mono hb.size)
    clear hx
    obtain ⟨adm, capm, hvm⟩ := hm.1.shape
    simp only [List.length_map, turned_len] at hvm
    subst hvm
    have hn := show Calls Tryd.prog _ _ _ (Ret (.bool false) w2) from by have := few_any _ _ _ h0; rw [c0] at this; exact this
    go_wp2_with fail
    refine hn.mono ?_
    rintro e w3 ⟨rfl, hx⟩
    clear hn
    replace hT := hT.below hx
    replace h0 := h0.below hx
    replace h1 := h1.below hx
    replace hm := hm.below hx
    replace hb := hb.trans (hx.mono hb.size)
    clear hx
    go_wp2_with fail
    go_ret
    exact Ret.mk rfl hb
  by_cases c1 : 40 < l1.length
  · go_enter Tryd.func8, Tryd.ntmps8
    have hn := head_any w hT
    go_wp2_with fail
    refine hn.mono ?_
    rintro e w1 ⟨rfl, hx⟩
    clear hn
    replace hT := hT.below hx
    replace h0 := h0.below hx
    replace h1 := h1.below hx
    replace hb := hb.trans (hx.mono hb.size)
    clear hx
    have hn := turned_big _ l1 n2 n3 hn2 hn3 w1 h1 (by omega)
    rw [c9] at hn
    simp only [if_true] at hn
    go_wp2_with fail
    refine hn.mono ?_
    rintro e w2 ⟨vm, rfl, hm, hx⟩
    clear hn
    replace hT := hT.below hx
    replace h0 := h0.below hx
    replace h1 := h1.below hx
    replace hb := hb.trans (hx.mono hb.size)
    clear hx
    obtain ⟨adm, capm, hvm⟩ := hm.1.shape
    simp only [List.length_map, turned_len] at hvm
    subst hvm
    have hn := show Calls Tryd.prog _ _ _ (Ret (.bool true) w2) from by have := few_any _ _ _ h0; rw [c0] at this; exact this
    go_wp2_with fail
    refine hn.mono ?_
    rintro e w3 ⟨rfl, hx⟩
    clear hn
    replace hT := hT.below hx
    replace h0 := h0.below hx
    replace h1 := h1.below hx
    replace hm := hm.below hx
    replace hb := hb.trans (hx.mono hb.size)
    clear hx
    go_wp2_with fail
    go_ret
    exact Ret.mk rfl hb
  have q1 : decide (40 < (l1.length : Int)) = false := by simp; omega
  obtain ⟨hlen0, hall0⟩ := few_out c0
  have hall1 : ∀ x ∈ [l1], x.length ≤ 40 := by intro x hx; rw [List.mem_singleton] at hx; subst hx; omega
  have hall2 : ∀ x ∈ [tList l1 n2 n3], x.length ≤ 40 := by intro x hx; rw [List.mem_singleton] at hx; subst hx; rw [turned_len]; omega
  have h0' := h0
  obtain ⟨va0, ra0, ya0'⟩ := h0'
  have ya0 : Vs w va0 l0 := ya0'
  clear ya0'
  have na0 : va0.length = l0.length := ya0.1
  obtain ⟨sa, ea⟩ : ∃ s : Int, s = ((chn fnv0 (l0 ++ [l1])).toNat : Int) := ⟨_, rfl⟩
  replace ea := Lib.hid ea
  obtain ⟨sb, eb⟩ : ∃ s : Int, s = ((chn fnv0 (l0 ++ [tList l1 n2 n3])).toNat : Int) := ⟨_, rfl⟩
  replace eb := Lib.hid eb
  have hne : chn fnv0 (l0 ++ [l1]) ≠ chn fnv0 (l0 ++ [tList l1 n2 n3]) := by rw [chn_app, chn_app, chn_one, chn_one]; exact turned_ne2 _ l1 n2 n3 c9
  have qn : (sa == sb) = false := by rw [beq_eq_false_iff_ne, ea.out, eb.out]; intro h; exact hne (UInt64.toNat.inj (by omega))
  have qn2 : (sa != sb) = true := by rw [bne, qn]; rfl
  go_enter Tryd.func8, Tryd.ntmps8
  have hn := head_any w hT
  go_wp2_with fail
  refine hn.mono ?_
  rintro e w1 ⟨rfl, hx⟩
  clear hn
  replace hT := hT.below hx
  replace h0 := h0.below hx
  replace h1 := h1.below hx
  replace ra0 := ra0.below hx
  replace ya0 := ya0.below hx
  replace hb := hb.trans (hx.mono hb.size)
  clear hx
  have hn := turned_big _ l1 n2 n3 hn2 hn3 w1 h1 (by omega)
  rw [c9] at hn
  simp only [if_true] at hn
  go_wp2_with fail
  refine hn.mono ?_
  rintro e w2 ⟨vm, rfl, hm, hx⟩
  clear hn
  replace hT := hT.below hx
  replace h0 := h0.below hx
  replace h1 := h1.below hx
  replace ra0 := ra0.below hx
  replace ya0 := ya0.below hx
  replace hb := hb.trans (hx.mono hb.size)
  clear hx
  obtain ⟨adm, capm, hvm⟩ := hm.1.shape
  simp only [List.length_map, turned_len] at hvm
  subst hvm
  have hn := show Calls Tryd.prog _ _ _ (Ret (.bool true) w2) from by have := few_any _ _ _ h0; rw [c0] at this; exact this
  go_wp2_with fail
  refine hn.mono ?_
  rintro e w3 ⟨rfl, hx⟩
  clear hn
  replace hT := hT.below hx
  replace h0 := h0.below hx
  replace h1 := h1.below hx
  replace ra0 := ra0.below hx
  replace ya0 := ya0.below hx
  replace hm := hm.below hx
  replace hb := hb.trans (hx.mono hb.size)
  clear hx
  have hlm : (tList l1 n2 n3).length = l1.length := turned_len _ _ _
  generalize tList l1 n2 n3 = m at hm hall2 eb hlm
  have hown := OwnRow.new w3 w3.heap.size (Nat.le_refl _) 24 [] (by simp)
  have hr0 : Row (w3.alloc (.cells #[] 24)) _ va0 := (ra0).below ((Below.refl _ w3).alloc (Nat.le_refl _) _)
  go_wp2_with (at_builtin; go_loud (refine app_row _ rfl _ _ 25 rfl w3.heap.size 24 (.slice none 0 0) 24 Tryd.underlying25 Tryd.infoInts rfl (by decide) _ [] rfl hown _ va0 rfl hr0 ya0.cells (by first | omega | (simp; omega) | simp) (by simp) ?_; intro v4' w4 hown4 hx4; refine Hid.out ?_))
  have hz : Below w3.heap.size w3 w4 := ((Below.refl _ w3).alloc (Nat.le_refl _) _).trans hx4
  clear hr0 hown hx4
  rw [List.nil_append] at hown4
  have hr0 : Row (w4.alloc (.cells #[(.slice ad1 l1.length cap1)] 24)) _ [(.slice ad1 l1.length cap1)] := one_row (.slice ad1 l1.length cap1) 24
  refine Lib.hid ?_
  go_wp2_with (at_builtin; go_loud (refine app_row _ rfl _ _ 25 rfl w3.heap.size 24 (.slice none 0 0) 24 Tryd.underlying25 Tryd.infoInts rfl (by decide) _ va0 rfl (own_below hown4 ((Below.refl _ w4).alloc (Nat.le_refl _) _)) _ [(.slice ad1 l1.length cap1)] rfl hr0 (by intro u hu; rw [List.mem_singleton] at hu; subst hu; rfl) (by first | omega | (simp; omega) | simp) (by have := hz.size; simp; omega) ?_; intro v5' w5 hown5 hx5; refine Hid.out ?_))
  replace hz := (hz.alloc hz.size _).trans hx5
  clear hr0 hx5 hown4
  have hA : Lists w5 v5' (l0 ++ [l1]) := lists_of_own hown5 (by first | omega | (simp; omega) | simp) ((ya0.below hz).app (Vs.one (h1.below hz)))
  clear hown5
  replace hT := hT.below hz
  replace h0 := h0.below hz
  replace h1 := h1.below hz
  replace ra0 := ra0.below hz
  replace ya0 := ya0.below hz
  replace hm := hm.below hz
  replace hb := hb.trans (hz.mono hb.size)
  clear hz
  obtain ⟨da5, ca5, hv⟩ : ∃ ad cap, v5' = .slice ad (l0 ++ [l1]).length cap := by obtain ⟨vr, hr, hl, _⟩ := hA; obtain ⟨ad, cap, e⟩ := hr.shape; rw [hl] at e; exact ⟨ad, cap, e⟩
  simp only [List.length_append, List.length_cons, List.length_nil] at hv
  subst hv
  have hn := show Calls Tryd.prog _ _ _ (Ret (.int .u64 sa) w5) from by rw [ea.out]; exact chain_any _ _ _ hT hA (by first | omega | (simp; omega) | simp) (all2 hall0 hall1)
  refine Lib.hid ?_
  go_wp2_with fail
  refine hn.mono ?_
  rintro e w6 ⟨rfl, hx⟩
  clear hn
  replace hT := hT.below hx
  replace h0 := h0.below hx
  replace h1 := h1.below hx
  replace ra0 := ra0.below hx
  replace ya0 := ya0.below hx
  replace hm := hm.below hx
  replace hA := hA.below hx
  replace hb := hb.trans (hx.mono hb.size)
  clear hx
  have hown := OwnRow.new w6 w6.heap.size (Nat.le_refl _) 24 [] (by simp)
  have hr0 : Row (w6.alloc (.cells #[] 24)) _ va0 := (ra0).below ((Below.refl _ w6).alloc (Nat.le_refl _) _)
  go_wp2_with (at_builtin; go_loud (refine app_row _ rfl _ _ 25 rfl w6.heap.size 24 (.slice none 0 0) 24 Tryd.underlying25 Tryd.infoInts rfl (by decide) _ [] rfl hown _ va0 rfl hr0 ya0.cells (by first | omega | (simp; omega) | simp) (by simp) ?_; intro v7' w7 hown7 hx7; refine Hid.out ?_))
  have hz : Below w6.heap.size w6 w7 := ((Below.refl _ w6).alloc (Nat.le_refl _) _).trans hx7
  clear hr0 hown hx7
  rw [List.nil_append] at hown7
  have hr0 : Row (w7.alloc (.cells #[(.slice adm l1.length capm)] 24)) _ [(.slice adm l1.length capm)] := one_row (.slice adm l1.length capm) 24
  refine Lib.hid ?_
  go_wp2_with (at_builtin; go_loud (refine app_row _ rfl _ _ 25 rfl w6.heap.size 24 (.slice none 0 0) 24 Tryd.underlying25 Tryd.infoInts rfl (by decide) _ va0 rfl (own_below hown7 ((Below.refl _ w7).alloc (Nat.le_refl _) _)) _ [(.slice adm l1.length capm)] rfl hr0 (by intro u hu; rw [List.mem_singleton] at hu; subst hu; rfl) (by first | omega | (simp; omega) | simp) (by have := hz.size; simp; omega) ?_; intro v8' w8 hown8 hx8; refine Hid.out ?_))
  replace hz := (hz.alloc hz.size _).trans hx8
  clear hr0 hx8 hown7
  have hB : Lists w8 v8' (l0 ++ [m]) := lists_of_own hown8 (by first | omega | (simp; omega) | simp) ((ya0.below hz).app (Vs.one (hm.below hz)))
  clear hown8
  replace hT := hT.below hz
  replace h0 := h0.below hz
  replace h1 := h1.below hz
  replace ra0 := ra0.below hz
  replace ya0 := ya0.below hz
  replace hm := hm.below hz
  replace hA := hA.below hz
  replace hb := hb.trans (hz.mono hb.size)
  clear hz
  obtain ⟨da8, ca8, hv⟩ : ∃ ad cap, v8' = .slice ad (l0 ++ [m]).length cap := by obtain ⟨vr, hr, hl, _⟩ := hB; obtain ⟨ad, cap, e⟩ := hr.shape; rw [hl] at e; exact ⟨ad, cap, e⟩
  simp only [List.length_append, List.length_cons, List.length_nil] at hv
  subst hv
  have hn := show Calls Tryd.prog _ _ _ (Ret (.int .u64 sb) w8) from by rw [eb.out]; exact chain_any _ _ _ hT hB (by first | omega | (simp; omega) | simp) (all2 hall0 hall2)
  refine Lib.hid ?_
  go_wp2_with fail
  refine hn.mono ?_
  rintro e w9 ⟨rfl, hx⟩
  clear hn
  replace hT := hT.below hx
  replace h0 := h0.below hx
  replace h1 := h1.below hx
  replace ra0 := ra0.below hx
  replace ya0 := ya0.below hx
  replace hm := hm.below hx
  replace hA := hA.below hx
  replace hB := hB.below hx
  replace hb := hb.trans (hx.mono hb.size)
  clear hx
  go_wp2_with fail
  go_ret
  exact Ret.mk rfl hb
end Go.Proofs.YtgagdljmanmjnaaDoor
