/-
  CodecPrefixes: its walk.
-/
import Derived.Test.YtpgnlmhkigpjgaaLawCodKit
namespace Go.Proofs.Ytpgnlmhkigpjgaa
open Go.RowKit
set_option linter.unusedVariables false

set_option maxRecDepth 100000 in
set_option maxHeartbeats 8000000 in
theorem pf_early1 (v0 : Value) (l0 : List Int) (v1 : Value) (l1 : List UInt8) (n2 : Int) (w : World) (h0 : Ints w v0 l0) (f0 : Fat v0) (h1 : Bytes w v1 l1) (f1 : Fat v1) (w2 : (Lit.int .u16 n2).wf = true) (c : 300 < l0.length) : Calls Try.prog 8 #[v0, v1, .int .u16 n2] w (Ret (.bool true) w) := by
  obtain ⟨ad0, cap0, hv0⟩ := h0.1.shape
  rw [List.length_map] at hv0
  subst hv0
  have hs0 := h0.1.short
  rw [List.length_map] at hs0
  obtain ⟨ad1, cap1, hv1⟩ := h1.shape
  rw [List.length_map] at hv1
  subst hv1
  have hs1 := h1.short
  rw [List.length_map] at hs1
  have ⟨z2, y2⟩ : 0 ≤ n2 ∧ n2 ≤ 65535 := by simp only [Lit.wf, Bool.and_eq_true, decide_eq_true_eq] at w2; exact w2
  have q0 : decide ((300 : Int) < l0.length) = true := by simp; omega
  go_enter Try.func8, Try.ntmps8
  go_wp2_with (first | (go_at_call 9; refine (head_any _).mono ?_; rintro e w1 ⟨rfl, hx1⟩; have hb1 := bel_step (Below.refl _ _) hx1))
  go_ret
  exact Ret.mk rfl hb1

set_option maxRecDepth 100000 in
set_option maxHeartbeats 8000000 in
theorem pf_early2 (v0 : Value) (l0 : List Int) (v1 : Value) (l1 : List UInt8) (n2 : Int) (w : World) (h0 : Ints w v0 l0) (f0 : Fat v0) (h1 : Bytes w v1 l1) (f1 : Fat v1) (w2 : (Lit.int .u16 n2).wf = true) (c : l0.length ≤ 300) (d : l1.length = 0) : Calls Try.prog 8 #[v0, v1, .int .u16 n2] w (Ret (.bool true) w) := by
  obtain ⟨ad0, cap0, hv0⟩ := h0.1.shape
  rw [List.length_map] at hv0
  subst hv0
  have hs0 := h0.1.short
  rw [List.length_map] at hs0
  obtain ⟨ad1, cap1, hv1⟩ := h1.shape
  rw [List.length_map] at hv1
  subst hv1
  have hs1 := h1.short
  rw [List.length_map] at hs1
  have ⟨z2, y2⟩ : 0 ≤ n2 ∧ n2 ≤ 65535 := by simp only [Lit.wf, Bool.and_eq_true, decide_eq_true_eq] at w2; exact w2
  have q0 : decide ((300 : Int) < l0.length) = false := by simp; omega
  have q1 : ((l1.length : Int) == 0) = true := by rw [beq_iff_eq]; omega
  go_enter Try.func8, Try.ntmps8
  go_wp2_with (first | (go_at_call 9; refine (head_any _).mono ?_; rintro e w1 ⟨rfl, hx1⟩; have hb1 := bel_step (Below.refl _ _) hx1))
  go_ret
  exact Ret.mk rfl hb1

set_option maxRecDepth 100000 in
set_option maxHeartbeats 8000000 in
theorem pf_early3 (v0 : Value) (l0 : List Int) (v1 : Value) (l1 : List UInt8) (n2 : Int) (w : World) (h0 : Ints w v0 l0) (f0 : Fat v0) (h1 : Bytes w v1 l1) (f1 : Fat v1) (w2 : (Lit.int .u16 n2).wf = true) (c : l0.length ≤ 300) (d : 300 < l1.length) : Calls Try.prog 8 #[v0, v1, .int .u16 n2] w (Ret (.bool true) w) := by
  obtain ⟨ad0, cap0, hv0⟩ := h0.1.shape
  rw [List.length_map] at hv0
  subst hv0
  have hs0 := h0.1.short
  rw [List.length_map] at hs0
  obtain ⟨ad1, cap1, hv1⟩ := h1.shape
  rw [List.length_map] at hv1
  subst hv1
  have hs1 := h1.short
  rw [List.length_map] at hs1
  have ⟨z2, y2⟩ : 0 ≤ n2 ∧ n2 ≤ 65535 := by simp only [Lit.wf, Bool.and_eq_true, decide_eq_true_eq] at w2; exact w2
  have q0 : decide ((300 : Int) < l0.length) = false := by simp; omega
  have q1 : ((l1.length : Int) == 0) = false := by rw [beq_eq_false_iff_ne]; omega
  have q2 : decide ((300 : Int) < l1.length) = true := by simp; omega
  go_enter Try.func8, Try.ntmps8
  go_wp2_with (first | (go_at_call 9; refine (head_any _).mono ?_; rintro e w1 ⟨rfl, hx1⟩; have hb1 := bel_step (Below.refl _ _) hx1))
  go_ret
  exact Ret.mk rfl hb1

set_option maxRecDepth 100000 in
set_option maxHeartbeats 8000000 in
theorem pf_main (v0 : Value) (l0 : List Int) (v1 : Value) (l1 : List UInt8) (n2 : Int) (w : World) (h0 : Ints w v0 l0) (f0 : Fat v0) (h1 : Bytes w v1 l1) (f1 : Fat v1) (w2 : (Lit.int .u16 n2).wf = true) (c : l0.length ≤ 300) (d : 0 < l1.length) (d2 : l1.length ≤ 300) : Calls Try.prog 8 #[v0, v1, .int .u16 n2] w (Ret (.bool true) w) := by
  obtain ⟨ad0, cap0, hv0⟩ := h0.1.shape
  rw [List.length_map] at hv0
  subst hv0
  have hs0 := h0.1.short
  rw [List.length_map] at hs0
  obtain ⟨ad1, cap1, hv1⟩ := h1.shape
  rw [List.length_map] at hv1
  subst hv1
  have hs1 := h1.short
  rw [List.length_map] at hs1
  have ⟨z2, y2⟩ : 0 ≤ n2 ∧ n2 ≤ 65535 := by simp only [Lit.wf, Bool.and_eq_true, decide_eq_true_eq] at w2; exact w2
  have q0 : decide ((300 : Int) < l0.length) = false := by simp; omega
  have q1 : ((l1.length : Int) == 0) = false := by rw [beq_eq_false_iff_ne]; omega
  have q2 : decide ((300 : Int) < l1.length) = false := by simp; omega
  have hl := lput_len h0.2 (by omega)
  have hlp : 0 < (lput l0).length := by unfold lput; rw [List.length_append]; have := leb_pos (num (l0.length : Int)); unfold enc; omega
  have hPut := fun wc (hb : Below w.heap.size w wc) => Put_any _ l0 wc (h0.below hb) (by omega)
  have hmore := lget_more (l := l0) (rest := l1) (by omega) h0.2 (by intro e; subst e; simp at d)
  obtain ⟨k, hk⟩ : ∃ k : Nat, n2 % ((lput l0).length : Int) = (k : Int) := ⟨(n2 % ((lput l0).length : Int)).toNat, by have := Int.emod_nonneg n2 (b := (lput l0).length) (by omega); omega⟩
  have hkl : k < (lput l0).length := by have := Int.emod_lt_of_pos n2 (b := (lput l0).length) (by omega); omega
  have hless := lget_less (l := l0) (k := k) (by omega) h0.2 hkl
  have qz : (((lput l0).length : Int) == 0) = false := by rw [beq_eq_false_iff_ne]; omega
  generalize lput l0 = lb at *
  go_enter Try.func8, Try.ntmps8
  go_wp2_with (first | (go_at_call 9; refine (head_any _).mono ?_; rintro e w1 ⟨rfl, hx1⟩; have hb1 := bel_step (Below.refl _ _) hx1) | (go_at_call 10; refine (hPut _ hb1).mono ?_; rintro e w2 ⟨v2, rfl, hown2, hx2⟩; have hb2 := bel_step hb1 hx2; obtain ⟨g2, cap2, rfl, hcp2⟩ := own_some hown2 (by rw [List.length_map]; omega); have p2 := bytes_of_own hown2 (by omega); rw [List.length_map] at hcp2 p2 ⊢) | (at_builtin; refine Hid.out ?_))
  have h1' := h1.below hb2
  refine Lib.hid ?_
  go_wp2_with (at_builtin; go_loud (refine app_row _ rfl _ _ 23 rfl w2.heap.size 5 (.int .u8 0) 1 Try.underlying23 Try.infoU8 rfl (by decide) _ [] rfl (OwnRow.new w2 w2.heap.size (Nat.le_refl _) 5 [] (by simp)) _ (lb.map vB) rfl (Row.below p2 ((Below.refl _ w2).alloc (Nat.le_refl _) _)) byte_one (by simp; omega) (by simp) ?_; intro va wa howna hxa; refine Hid.out ?_))
  refine Lib.hid ?_
  rw [List.nil_append] at howna
  have hWa := ((Below.refl _ w2).alloc (Nat.le_refl _) _).trans hxa
  have hsa := hWa.size
  go_wp2_with (at_builtin; go_loud (refine app_row _ rfl _ _ 23 rfl w2.heap.size 5 (.int .u8 0) 1 Try.underlying23 Try.infoU8 rfl (by decide) _ (lb.map vB) rfl howna _ (l1.map vB) rfl (Row.below h1' hWa) byte_one (by simp; omega) hsa ?_; intro vb wb hownb hxb; refine Hid.out ?_))
  refine Lib.hid ?_
  rw [← List.map_append] at hownb
  have hWb := hWa.trans hxb
  have hbb := bel_step hb2 hWb
  have pb := bytes_of_own hownb (by simp; omega)
  have fb := fat_own hownb
  have hG1 := Get_none _ _ wb pb (by simp; omega) hmore
  have p2b := p2.below hWb
  have hsl := row_sub p2b 0 k cap2 (by omega) (by omega) (by omega) (by omega)
  have hrun := run_upto8 (some ⟨g2, 0, none⟩) lb.length cap2 k (by omega)
  obtain ⟨V, hV⟩ : ∃ V, V = sliced (some ⟨g2, 0, none⟩) 0 k cap2 1 := ⟨_, rfl⟩
  rw [← hV] at hsl hrun
  rw [← List.map_take, List.drop_zero] at hsl
  clear hV
  have hG2 := fun wc (hb : Below wb.heap.size wb wc) => Get_none V _ wc (Row.below hsl.1 hb) (by simp; omega) hless
  unfold Ret at hG1 hG2
  clear hPut hmore hless
  go_wp2_with (first | (go_at_call 15; refine (hG2 _ hx8).mono ?_; rintro e w9 ⟨rfl, hx9⟩) | (go_at_call 15; refine hG1.mono ?_; rintro e w8 ⟨rfl, hx8⟩))
  go_ret
  exact Ret.mk rfl (bel_step hbb (hx8.trans (hx9.mono hx8.size)))

theorem walkPrefixes (v0 : Value) (l0 : List Int) (v1 : Value) (l1 : List UInt8) (n2 : Int) (w : World) (h0 : Ints w v0 l0) (f0 : Fat v0) (h1 : Bytes w v1 l1) (f1 : Fat v1) (w2 : (Lit.int .u16 n2).wf = true) : Calls Try.prog 8 #[v0, v1, .int .u16 n2] w (Ret (.bool true) w) := by
  by_cases c : 300 < l0.length
  · exact pf_early1 _ l0 _ l1 n2 w h0 f0 h1 f1 w2 c
  · by_cases d : l1.length = 0
    · exact pf_early2 _ l0 _ l1 n2 w h0 f0 h1 f1 w2 (by omega) d
    · by_cases d2 : 300 < l1.length
      · exact pf_early3 _ l0 _ l1 n2 w h0 f0 h1 f1 w2 (by omega) d2
      · exact pf_main _ l0 _ l1 n2 w h0 f0 h1 f1 w2 (by omega) (by omega) (by omega)
end Go.Proofs.Ytpgnlmhkigpjgaa
