/-
  CodecBack: its walk.
-/
import Derived.Test.YtpgnlmhkigpjgaaLawCodKit
namespace Go.Proofs.Ytpgnlmhkigpjgaa
open Go.RowKit
set_option linter.unusedVariables false

set_option maxRecDepth 100000 in
set_option maxHeartbeats 8000000 in
theorem bk_early1 (v0 : Value) (l0 : List Int) (v1 : Value) (l1 : List UInt8) (w : World) (h0 : Ints w v0 l0) (f0 : Fat v0) (h1 : Bytes w v1 l1) (f1 : Fat v1) (c : 300 < l0.length) : Calls Try.prog 4 #[v0, v1] w (Ret (.bool true) w) := by
  obtain ⟨ad0, cap0, hv0⟩ := h0.1.shape
  rw [List.length_map] at hv0
  subst hv0
  have hs0 := h0.1.short
  rw [List.length_map] at hs0
  obtain ⟨ad1, cap1, hv1⟩ := h1.shape
  rw [List.length_map] at hv1
  subst hv1
  have hs1 := h1.short
  rw [List.length_map] at hs1
  have q0 : decide ((300 : Int) < l0.length) = true := by simp; omega
  go_enter Try.func4, Try.ntmps4
  go_wp2_with (first | (go_at_call 9; refine (head_any _).mono ?_; rintro e w1 ⟨rfl, hx1⟩; have hb1 := bel_step (Below.refl _ _) hx1))
  go_ret
  exact Ret.mk rfl hb1

set_option maxRecDepth 100000 in
set_option maxHeartbeats 8000000 in
theorem bk_early2 (v0 : Value) (l0 : List Int) (v1 : Value) (l1 : List UInt8) (w : World) (h0 : Ints w v0 l0) (f0 : Fat v0) (h1 : Bytes w v1 l1) (f1 : Fat v1) (c : l0.length ≤ 300) (d : 3000 < l1.length) : Calls Try.prog 4 #[v0, v1] w (Ret (.bool true) w) := by
  obtain ⟨ad0, cap0, hv0⟩ := h0.1.shape
  rw [List.length_map] at hv0
  subst hv0
  have hs0 := h0.1.short
  rw [List.length_map] at hs0
  obtain ⟨ad1, cap1, hv1⟩ := h1.shape
  rw [List.length_map] at hv1
  subst hv1
  have hs1 := h1.short
  rw [List.length_map] at hs1
  have q0 : decide ((300 : Int) < l0.length) = false := by simp; omega
  have q1 : decide ((3000 : Int) < l1.length) = true := by simp; omega
  go_enter Try.func4, Try.ntmps4
  go_wp2_with (first | (go_at_call 9; refine (head_any _).mono ?_; rintro e w1 ⟨rfl, hx1⟩; have hb1 := bel_step (Below.refl _ _) hx1))
  go_ret
  exact Ret.mk rfl hb1

set_option maxRecDepth 100000 in
set_option maxHeartbeats 8000000 in
theorem bk_none (v0 : Value) (l0 : List Int) (v1 : Value) (l1 : List UInt8) (w : World) (h0 : Ints w v0 l0) (f0 : Fat v0) (h1 : Bytes w v1 l1) (f1 : Fat v1) (c : l0.length ≤ 300) (d : l1.length ≤ 3000) (hg : lget l1 = none) : Calls Try.prog 4 #[v0, v1] w (Ret (.bool true) w) := by
  obtain ⟨ad0, cap0, hv0⟩ := h0.1.shape
  rw [List.length_map] at hv0
  subst hv0
  have hs0 := h0.1.short
  rw [List.length_map] at hs0
  obtain ⟨ad1, cap1, hv1⟩ := h1.shape
  rw [List.length_map] at hv1
  subst hv1
  have hs1 := h1.short
  rw [List.length_map] at hs1
  have q0 : decide ((300 : Int) < l0.length) = false := by simp; omega
  have q1 : decide ((3000 : Int) < l1.length) = false := by simp; omega
  have hl := lput_len h0.2 (by omega)
  have hPut := fun wc (hb : Below w.heap.size w wc) => put_all _ l0 wc (h0.below hb)
  rw [show putR l0 = (lput l0, 0) by unfold putR; rw [if_pos (by omega)]] at hPut
  have hGet := fun wc v (hv : Bytes wc v (lput l0)) => get_all v _ wc hv (by omega)
  rw [show getR (lput l0) = (l0, 0) by unfold getR; rw [lget_lput (by omega) h0.2]] at hGet
  unfold BPost at hPut
  unfold IPost at hGet
  simp only at hPut hGet
  clear hl
  generalize lput l0 = lb at *
  have hG2 := fun wc (hb : Below w.heap.size w wc) => Get_none _ l1 wc (h1.below hb) (by omega) hg
  unfold Ret at hG2
  clear c d hg
  go_enter Try.func4, Try.ntmps4
  go_wp2_with (first | (go_at_call 15; refine (hG2 _ hb4).mono ?_; rintro e w5 ⟨rfl, hx5⟩; have hb5 := bel_step hb4 hx5) | (go_at_call 17; refine (sameInts_eq p0 p3).mono ?_; rintro e w4 ⟨rfl, hx4⟩; have hb4 := bel_step hb3 hx4) | (go_at_call 15; refine (hGet _ _ p2).mono ?_; rintro e w3 ⟨v3, rfl, p3, hx3⟩; have hb3 := bel_step hb2 hx3; have p0 := Ints.below h0 hb3) | (go_at_call 10; refine (hPut _ hb1).mono ?_; rintro e w2 ⟨v2, rfl, p2, hx2⟩; have hb2 := bel_step hb1 hx2) | (go_at_call 9; refine (head_any _).mono ?_; rintro e w1 ⟨rfl, hx1⟩; have hb1 := bel_step (Below.refl _ _) hx1))
  go_ret
  exact Ret.mk rfl hb5

set_option maxRecDepth 100000 in
set_option maxHeartbeats 8000000 in
theorem bk_some (v0 : Value) (l0 : List Int) (v1 : Value) (l1 : List UInt8) (w : World) (h0 : Ints w v0 l0) (f0 : Fat v0) (h1 : Bytes w v1 l1) (f1 : Fat v1) (c : l0.length ≤ 300) (d : l1.length ≤ 3000) (k : List Int) (hg : lget l1 = some k) : Calls Try.prog 4 #[v0, v1] w (Ret (.bool true) w) := by
  obtain ⟨ad0, cap0, hv0⟩ := h0.1.shape
  rw [List.length_map] at hv0
  subst hv0
  have hs0 := h0.1.short
  rw [List.length_map] at hs0
  obtain ⟨ad1, cap1, hv1⟩ := h1.shape
  rw [List.length_map] at hv1
  subst hv1
  have hs1 := h1.short
  rw [List.length_map] at hs1
  have q0 : decide ((300 : Int) < l0.length) = false := by simp; omega
  have q1 : decide ((3000 : Int) < l1.length) = false := by simp; omega
  have hl := lput_len h0.2 (by omega)
  have hPut := fun wc (hb : Below w.heap.size w wc) => put_all _ l0 wc (h0.below hb)
  rw [show putR l0 = (lput l0, 0) by unfold putR; rw [if_pos (by omega)]] at hPut
  have hGet := fun wc v (hv : Bytes wc v (lput l0)) => get_all v _ wc hv (by omega)
  rw [show getR (lput l0) = (l0, 0) by unfold getR; rw [lget_lput (by omega) h0.2]] at hGet
  unfold BPost at hPut
  unfold IPost at hGet
  simp only at hPut hGet
  clear hl
  generalize lput l0 = lb at *
  have hG2 := fun wc (hb : Below w.heap.size w wc) => Get_some _ l1 wc (h1.below hb) (by omega) k hg
  obtain ⟨hk1, hk2, hk3⟩ := lput_of_lget hg
  have hP2 := fun wc v (hv : IntsT wc v k) => put_all v k wc hv.1
  rw [show putR k = (l1, 0) by unfold putR; rw [if_pos hk2, hk1]] at hP2
  unfold BPost at hP2
  simp only at hP2
  clear c d hg hk1 hk2 hk3
  go_enter Try.func4, Try.ntmps4
  go_wp2_with (first | (go_at_call 12; refine (sameBytes_eq p1 p6).mono ?_; rintro e w7 ⟨rfl, hx7⟩; have hb7 := bel_step hb6 hx7) | (go_at_call 10; refine (hP2 _ _ p5).mono ?_; rintro e w6 ⟨v6, rfl, p6, hx6⟩; have hb6 := bel_step hb5 hx6; have p1 := Bytes.below h1 hb6) | (go_at_call 15; refine (hG2 _ hb4).mono ?_; rintro e w5 ⟨v5, rfl, p5, hx5⟩; have hb5 := bel_step hb4 hx5) | (go_at_call 17; refine (sameInts_eq p0 p3).mono ?_; rintro e w4 ⟨rfl, hx4⟩; have hb4 := bel_step hb3 hx4) | (go_at_call 15; refine (hGet _ _ p2).mono ?_; rintro e w3 ⟨v3, rfl, p3, hx3⟩; have hb3 := bel_step hb2 hx3; have p0 := Ints.below h0 hb3) | (go_at_call 10; refine (hPut _ hb1).mono ?_; rintro e w2 ⟨v2, rfl, p2, hx2⟩; have hb2 := bel_step hb1 hx2) | (go_at_call 9; refine (head_any _).mono ?_; rintro e w1 ⟨rfl, hx1⟩; have hb1 := bel_step (Below.refl _ _) hx1))
  go_ret
  exact Ret.mk rfl hb7

theorem walkBack (v0 : Value) (l0 : List Int) (v1 : Value) (l1 : List UInt8) (w : World) (h0 : Ints w v0 l0) (f0 : Fat v0) (h1 : Bytes w v1 l1) (f1 : Fat v1) : Calls Try.prog 4 #[v0, v1] w (Ret (.bool true) w) := by
  by_cases c : 300 < l0.length
  · exact bk_early1 _ l0 _ l1 w h0 f0 h1 f1 c
  · by_cases d : 3000 < l1.length
    · exact bk_early2 _ l0 _ l1 w h0 f0 h1 f1 (by omega) d
    · cases hg : lget l1 with
      | none => exact bk_none _ l0 _ l1 w h0 f0 h1 f1 (by omega) (by omega) hg
      | some k => exact bk_some _ l0 _ l1 w h0 f0 h1 f1 (by omega) (by omega) k hg
end Go.Proofs.Ytpgnlmhkigpjgaa
