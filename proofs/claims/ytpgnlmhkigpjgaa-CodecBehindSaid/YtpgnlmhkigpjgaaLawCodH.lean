/-
  CodecBehind: its walk.
-/
import Derived.Test.YtpgnlmhkigpjgaaLawCodKit2
namespace Go.Proofs.Ytpgnlmhkigpjgaa
open Go.RowKit
set_option linter.unusedVariables false

set_option maxRecDepth 100000 in
set_option maxHeartbeats 8000000 in
theorem bh_early1 (v0 : Value) (l0 : List (List Int)) (v1 : Value) (l1 : List UInt8) (w : World) (h0 : Lists w v0 l0) (f0 : Fat v0) (h1 : Bytes w v1 l1) (f1 : Fat v1) (hsm : smallF l0 = false) : Calls Try.prog 6 #[v0, v1] w (Ret (.bool true) w) := by
  obtain ⟨ad0, cap0, hv0⟩ : ∃ ad cap, v0 = .slice ad l0.length cap := by obtain ⟨vs, hr, hl, _⟩ := h0; obtain ⟨ad, cap, e⟩ := hr.shape; rw [hl] at e; exact ⟨ad, cap, e⟩
  subst hv0
  obtain ⟨ad1, cap1, hv1⟩ := h1.shape
  rw [List.length_map] at hv1
  subst hv1
  have hs1 := h1.short
  rw [List.length_map] at hs1
  go_enter Try.func6, Try.ntmps6
  go_wp2_with (first | (go_at_call 21; refine (small_any _ l0 _ (h0.below hb1)).mono ?_; rw [hsm]; rintro e ws ⟨rfl, rfl⟩) | (go_at_call 9; refine (head_any _).mono ?_; rintro e w1 ⟨rfl, hx1⟩; have hb1 := bel_step (Below.refl _ _) hx1))
  go_ret
  exact Ret.mk rfl hb1

set_option maxRecDepth 100000 in
set_option maxHeartbeats 8000000 in
theorem bh_early2 (v0 : Value) (l0 : List (List Int)) (v1 : Value) (l1 : List UInt8) (w : World) (h0 : Lists w v0 l0) (f0 : Fat v0) (h1 : Bytes w v1 l1) (f1 : Fat v1) (hsm : smallF l0 = true) (d : 1000 < l1.length) : Calls Try.prog 6 #[v0, v1] w (Ret (.bool true) w) := by
  obtain ⟨ad0, cap0, hv0⟩ : ∃ ad cap, v0 = .slice ad l0.length cap := by obtain ⟨vs, hr, hl, _⟩ := h0; obtain ⟨ad, cap, e⟩ := hr.shape; rw [hl] at e; exact ⟨ad, cap, e⟩
  subst hv0
  obtain ⟨ad1, cap1, hv1⟩ := h1.shape
  rw [List.length_map] at hv1
  subst hv1
  have hs1 := h1.short
  rw [List.length_map] at hs1
  have q1 : decide ((1000 : Int) < l1.length) = true := by simp; omega
  go_enter Try.func6, Try.ntmps6
  go_wp2_with (first | (go_at_call 21; refine (small_any _ l0 _ (h0.below hb1)).mono ?_; rw [hsm]; rintro e ws ⟨rfl, rfl⟩) | (go_at_call 9; refine (head_any _).mono ?_; rintro e w1 ⟨rfl, hx1⟩; have hb1 := bel_step (Below.refl _ _) hx1))
  go_ret
  exact Ret.mk rfl hb1

set_option maxRecDepth 100000 in
set_option maxHeartbeats 8000000 in
theorem bh_main (v0 : Value) (l0 : List (List Int)) (v1 : Value) (l1 : List UInt8) (w : World) (h0 : Lists w v0 l0) (f0 : Fat v0) (h1 : Bytes w v1 l1) (f1 : Fat v1) (hsm : smallF l0 = true) (d : l1.length ≤ 1000) : Calls Try.prog 6 #[v0, v1] w (Ret (.bool true) w) := by
  obtain ⟨ad0, cap0, hv0⟩ : ∃ ad cap, v0 = .slice ad l0.length cap := by obtain ⟨vs, hr, hl, _⟩ := h0; obtain ⟨ad, cap, e⟩ := hr.shape; rw [hl] at e; exact ⟨ad, cap, e⟩
  subst hv0
  obtain ⟨ad1, cap1, hv1⟩ := h1.shape
  rw [List.length_map] at hv1
  subst hv1
  have hs1 := h1.short
  rw [List.length_map] at hs1
  have q1 : decide ((1000 : Int) < l1.length) = false := by simp; omega
  obtain ⟨hs10, hs30⟩ := small_out hsm
  have h64 := lists_i64 h0
  have hgood : ∀ l ∈ l0, Good l := fun l hl => ⟨by have := hs30 l hl; omega, h64 l hl⟩
  have hfl := flen_small (ls := l0) (fun l hl => ⟨hs30 l hl, h64 l hl⟩) l0.length (Nat.le_refl _)
  rw [flen_all] at hfl
  have hfr := lframes_flat l0 l1 hgood
  obtain ⟨fl, hfle⟩ : ∃ fl, fl = l0.flatMap lframe := ⟨_, rfl⟩
  rw [← hfle] at hfl hfr
  obtain ⟨⟨K, sz⟩, hK⟩ : ∃ p : List (List Int) × Nat, p = lframes l1 := ⟨_, rfl⟩
  rw [← hK] at hfr
  simp only at hfr
  have hKl := lframes_len _ l1 (Nat.le_refl _)
  have hKs := lframes_size _ l1 (Nat.le_refl _)
  rw [← hK] at hKl hKs
  simp only at hKl hKs
  have c1 : ((l0 ++ K).length : Int) = (l0.length : Int) + (K.length : Int) := by rw [List.length_append]; push_cast; rfl
  have hFrm := fun wc (hb : Below w.heap.size w wc) => frames_open _ l0 wc (h0.below hb) hs10 hs30 h64 fl hfle (by omega)
  have hFs := fun wc (hb : Below w.heap.size w wc) => frames_fat _ l1 wc (h1.below hb) f1 (by omega) K sz hK.symm _ rfl
  clear hfle hK
  go_enter Try.func6, Try.ntmps6
  go_wp2_with (first | (go_at_call 22; refine (hFrm _ hb1).mono ?_; rintro e w2 ⟨ad2, cap2, ad3, cap3, rfl, p2, hcp2, p3, hx2⟩; have hb2 := bel_step hb1 hx2) | (go_at_call 21; refine (small_any _ l0 _ (h0.below hb1)).mono ?_; rw [hsm]; rintro e ws ⟨rfl, rfl⟩) | (go_at_call 9; refine (head_any _).mono ?_; rintro e w1 ⟨rfl, hx1⟩; have hb1 := bel_step (Below.refl _ _) hx1) | (at_builtin; refine Hid.out ?_))
  have h1' := h1.below hb2
  refine Lib.hid ?_
  go_wp2_with (at_builtin; go_loud (refine app_row _ rfl _ _ 23 rfl w2.heap.size 5 (.int .u8 0) 1 Try.underlying23 Try.infoU8 rfl (by decide) _ [] rfl (OwnRow.new w2 w2.heap.size (Nat.le_refl _) 5 [] (by simp)) _ (fl.map vB) rfl (Row.below p2 ((Below.refl _ w2).alloc (Nat.le_refl _) _)) byte_one (by simp; omega) (by simp) ?_; intro va wa howna hxa; refine Hid.out ?_))
  refine Lib.hid ?_
  rw [List.nil_append] at howna
  have hWa := ((Below.refl _ w2).alloc (Nat.le_refl _) _).trans hxa
  have hsa := hWa.size
  go_wp2_with (at_builtin; go_loud (refine app_row _ rfl _ _ 23 rfl w2.heap.size 5 (.int .u8 0) 1 Try.underlying23 Try.infoU8 rfl (by decide) _ (fl.map vB) rfl howna _ (l1.map vB) rfl (Row.below h1' hWa) byte_one (by simp; omega) hsa ?_; intro vb wb hownb hxb; refine Hid.out ?_))
  refine Lib.hid ?_
  rw [← List.map_append] at hownb
  have hWb := hWa.trans hxb
  have hbb := bel_step hb2 hWb
  have pb := bytes_of_own hownb (by simp; omega)
  have fb := fat_own hownb
  have hF1 := frames_fat vb _ wb pb fb (by simp; omega) _ _ hfr (l0.length + K.length) (by rw [List.length_append])
  clear hsm c1 hgood
  go_wp2_with (first | (go_at_call 20; refine (sameLists_eq q2'' p7').mono ?_; rintro e w9 ⟨rfl, hx9⟩; have hb9 := bel_step hb8 hx9) | (go_at_call 20; refine (sameLists_eq q1' p0).mono ?_; rintro e w8 ⟨rfl, hx8⟩; have hb8 := bel_step hb7 hx8; have q2'' := Lists.below q2' hx8; have p7' := Lists.below p7 hx8) | (go_at_call 18; refine (hFs _ hb6).mono ?_; rintro e w7 ⟨ad7, cap7, vs7, rfl, r7, k7, hc7, hx7⟩; have hb7 := bel_step hb6 hx7; have q1' := Lists.below q1 hx7; have q2' := Lists.below q2 hx7; have p7 : Lists w7 _ K := ⟨_, r7, k7.1, k7.2⟩; have p0 := Lists.below h0 hb7) | (go_at_call 18; refine hF1.mono ?_; rintro e w6 ⟨ad6, cap6, vs6, rfl, r6, k6, hc6, hx6⟩; have hb6 := bel_step hbb hx6; obtain ⟨V1, V2, s1, s2, q1, q2⟩ := lists_parts l0 K _ rfl r6 k6 hc6))
  go_ret
  exact Ret.mk rfl hb9

theorem walkBehind (v0 : Value) (l0 : List (List Int)) (v1 : Value) (l1 : List UInt8) (w : World) (h0 : Lists w v0 l0) (f0 : Fat v0) (h1 : Bytes w v1 l1) (f1 : Fat v1) : Calls Try.prog 6 #[v0, v1] w (Ret (.bool true) w) := by
  cases hsm : smallF l0 with
  | false => exact bh_early1 _ l0 _ l1 w h0 f0 h1 f1 hsm
  | true =>
    by_cases d : 1000 < l1.length
    · exact bh_early2 _ l0 _ l1 w h0 f0 h1 f1 hsm d
    · exact bh_main _ l0 _ l1 w h0 f0 h1 f1 hsm (by omega)
end Go.Proofs.Ytpgnlmhkigpjgaa
