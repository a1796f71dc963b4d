/-
  CodecMatchesReference: its walk.
-/
import Derived.Test.YtpgnlmhkigpjgaaLawCodKit
namespace Go.Proofs.Ytpgnlmhkigpjgaa
open Go.RowKit
set_option linter.unusedVariables false

set_option maxRecDepth 100000 in
set_option maxHeartbeats 8000000 in
theorem mr_early1 (v0 : Value) (l0 : List Int) (v1 : Value) (l1 : List UInt8) (w : World) (h0 : Ints w v0 l0) (f0 : Fat v0) (h1 : Bytes w v1 l1) (f1 : Fat v1) (c : 300 < l0.length) (d : l0.length ≤ 4000) : Calls Try.prog 3 #[v0, v1] w (Ret (.bool true) w) := by
  obtain ⟨ad0, cap0, hv0⟩ := h0.1.shape
  rw [List.length_map] at hv0
  subst hv0
  have hs0 := h0.1.short
  rw [List.length_map] at hs0
  obtain ⟨ad1, cap1, hv1⟩ := h1.shape
  rw [List.length_map] at hv1
  subst hv1
  have hs1 := h1.short
  rw [List.length_map] at hs1
  have q0 : decide ((300 : Int) < l0.length) = true := by simp; omega
  have q1 : decide ((l0.length : Int) ≤ 4000) = true := by simp; omega
  go_enter Try.func3, Try.ntmps3
  go_wp2_with (first | (go_at_call 9; refine (head_any _).mono ?_; rintro e w1 ⟨rfl, hx1⟩; have hb1 := bel_step (Below.refl _ _) hx1))
  go_ret
  exact Ret.mk rfl hb1

set_option maxRecDepth 100000 in
set_option maxHeartbeats 8000000 in
theorem mr_early2 (v0 : Value) (l0 : List Int) (v1 : Value) (l1 : List UInt8) (w : World) (h0 : Ints w v0 l0) (f0 : Fat v0) (h1 : Bytes w v1 l1) (f1 : Fat v1) (c : l0.length ≤ 300) (d : 3000 < l1.length) (d2 : l1.length ≤ 200000) : Calls Try.prog 3 #[v0, v1] w (Ret (.bool true) w) := by
  obtain ⟨ad0, cap0, hv0⟩ := h0.1.shape
  rw [List.length_map] at hv0
  subst hv0
  have hs0 := h0.1.short
  rw [List.length_map] at hs0
  obtain ⟨ad1, cap1, hv1⟩ := h1.shape
  rw [List.length_map] at hv1
  subst hv1
  have hs1 := h1.short
  rw [List.length_map] at hs1
  have q0 : decide ((300 : Int) < l0.length) = false := by simp; omega
  have q5 : decide ((3000 : Int) < l1.length) = true := by simp; omega
  have q6 : decide ((l1.length : Int) ≤ 200000) = true := by simp; omega
  go_enter Try.func3, Try.ntmps3
  go_wp2_with (first | (go_at_call 9; refine (head_any _).mono ?_; rintro e w1 ⟨rfl, hx1⟩; have hb1 := bel_step (Below.refl _ _) hx1))
  go_ret
  exact Ret.mk rfl hb1

set_option maxRecDepth 100000 in
set_option maxHeartbeats 8000000 in
theorem mr_few2 (v0 : Value) (l0 : List Int) (v1 : Value) (l1 : List UInt8) (w : World) (h0 : Ints w v0 l0) (f0 : Fat v0) (h1 : Bytes w v1 l1) (f1 : Fat v1) (c : l0.length ≤ 300) (d : l1.length ≤ 3000) : Calls Try.prog 3 #[v0, v1] w (Ret (.bool true) w) := by
  obtain ⟨ad0, cap0, hv0⟩ := h0.1.shape
  rw [List.length_map] at hv0
  subst hv0
  have hs0 := h0.1.short
  rw [List.length_map] at hs0
  obtain ⟨ad1, cap1, hv1⟩ := h1.shape
  rw [List.length_map] at hv1
  subst hv1
  have hs1 := h1.short
  rw [List.length_map] at hs1
  have B0 := Below.refl w.heap.size w
  have hPut := fun wc (hb : Below w.heap.size w wc) => put_all _ l0 wc (h0.below hb)
  have hRPut := fun wc (hb : Below w.heap.size w wc) => refPut_all _ l0 wc (h0.below hb)
  have hFr := fun wc (hb : Below w.heap.size w wc) => frame_all _ l0 wc (h0.below hb)
  have hRFr := fun wc (hb : Below w.heap.size w wc) => refFrame_all _ l0 wc (h0.below hb)
  have hFs := fun wc (hb : Below w.heap.size w wc) => frames_all _ l1 wc (h1.below hb) f1
  have hRFs := fun wc (hb : Below w.heap.size w wc) => refFrames_all _ l1 wc (h1.below hb) f1
  have hGet := fun wc (hb : Below w.heap.size w wc) => get_all _ l1 wc (h1.below hb) (by omega)
  have hRGet := fun wc (hb : Below w.heap.size w wc) => refGet_all _ l1 wc (h1.below hb) f1 (by omega)
  have q0 : decide ((300 : Int) < l0.length) = false := by simp; omega
  have q5 : decide ((3000 : Int) < l1.length) = false := by simp; omega
  have q7 : decide ((l1.length : Int) ≤ 3000) = true := by simp; omega
  clear c d
  generalize putR l0 = rP at *
  generalize frameR l0 = rF at *
  generalize framesR l1 = rS at *
  obtain ⟨bP, cP⟩ := rP
  obtain ⟨bF, cF⟩ := rF
  obtain ⟨bS, nS, cS⟩ := rS
  unfold BPost at hPut hRPut hFr hRFr
  unfold LPost at hFs hRFs
  simp only at hPut hRPut hFr hRFr hFs hRFs
  generalize getR l1 = rG at *
  obtain ⟨bG, cG⟩ := rG
  unfold IPost at hGet hRGet
  simp only at hGet hRGet
  go_enter Try.func3, Try.ntmps3
  go_wp2_with (first | (go_at_call 20; refine (sameLists_eq p11' p12).mono ?_; rintro e w13 ⟨rfl, hx13⟩; have hb13 := bel_step hb12 hx13) | (go_at_call 19; refine (hRFs _ hb11).mono ?_; rintro e w12 ⟨v12, rfl, p12, hx12⟩; have hb12 := bel_step hb11 hx12; have p11' := Lists.below p11 hx12) | (go_at_call 18; refine (hFs _ hb10).mono ?_; rintro e w11 ⟨v11, rfl, p11, hx11⟩; have hb11 := bel_step hb10 hx11) | (go_at_call 17; refine (sameInts_eq p8' p9).mono ?_; rintro e w10 ⟨rfl, hx10⟩; have hb10 := bel_step hb9 hx10) | (go_at_call 16; refine (hRGet _ hb8).mono ?_; rintro e w9 ⟨v9, rfl, p9, hx9⟩; have hb9 := bel_step hb8 hx9; have p8' := Ints.below p8 hx9) | (go_at_call 15; refine (hGet _ hb7).mono ?_; rintro e w8 ⟨v8, rfl, p8, hx8⟩; have hb8 := bel_step hb7 hx8) | (go_at_call 12; refine (sameBytes_eq p5' p6).mono ?_; rintro e w7 ⟨rfl, hx7⟩; have hb7 := bel_step hb6 hx7) | (go_at_call 14; refine (hRFr _ hb5).mono ?_; rintro e w6 ⟨v6, rfl, p6, hx6⟩; have hb6 := bel_step hb5 hx6; have p5' := Bytes.below p5 hx6) | (go_at_call 13; refine (hFr _ hb4).mono ?_; rintro e w5 ⟨v5, rfl, p5, hx5⟩; have hb5 := bel_step hb4 hx5) | (go_at_call 12; refine (sameBytes_eq p2' p3).mono ?_; rintro e w4 ⟨rfl, hx4⟩; have hb4 := bel_step hb3 hx4) | (go_at_call 11; refine (hRPut _ hb2).mono ?_; rintro e w3 ⟨v3, rfl, p3, hx3⟩; have hb3 := bel_step hb2 hx3; have p2' := Bytes.below p2 hx3) | (go_at_call 10; refine (hPut _ hb1).mono ?_; rintro e w2 ⟨v2, rfl, p2, hx2⟩; have hb2 := bel_step hb1 hx2) | (go_at_call 9; refine (head_any _).mono ?_; rintro e w1 ⟨rfl, hx1⟩; have hb1 := bel_step (Below.refl _ _) hx1))
  go_ret
  exact Ret.mk rfl hb13

set_option maxRecDepth 100000 in
set_option maxHeartbeats 8000000 in
theorem mr_many2 (v0 : Value) (l0 : List Int) (v1 : Value) (l1 : List UInt8) (w : World) (h0 : Ints w v0 l0) (f0 : Fat v0) (h1 : Bytes w v1 l1) (f1 : Fat v1) (c : l0.length ≤ 300) (d : 200000 < l1.length) : Calls Try.prog 3 #[v0, v1] w (Ret (.bool true) w) := by
  obtain ⟨ad0, cap0, hv0⟩ := h0.1.shape
  rw [List.length_map] at hv0
  subst hv0
  have hs0 := h0.1.short
  rw [List.length_map] at hs0
  obtain ⟨ad1, cap1, hv1⟩ := h1.shape
  rw [List.length_map] at hv1
  subst hv1
  have hs1 := h1.short
  rw [List.length_map] at hs1
  have B0 := Below.refl w.heap.size w
  have hPut := fun wc (hb : Below w.heap.size w wc) => put_all _ l0 wc (h0.below hb)
  have hRPut := fun wc (hb : Below w.heap.size w wc) => refPut_all _ l0 wc (h0.below hb)
  have hFr := fun wc (hb : Below w.heap.size w wc) => frame_all _ l0 wc (h0.below hb)
  have hRFr := fun wc (hb : Below w.heap.size w wc) => refFrame_all _ l0 wc (h0.below hb)
  have hFs := fun wc (hb : Below w.heap.size w wc) => frames_all _ l1 wc (h1.below hb) f1
  have hRFs := fun wc (hb : Below w.heap.size w wc) => refFrames_all _ l1 wc (h1.below hb) f1
  have q0 : decide ((300 : Int) < l0.length) = false := by simp; omega
  have q5 : decide ((3000 : Int) < l1.length) = true := by simp; omega
  have q6 : decide ((l1.length : Int) ≤ 200000) = false := by simp; omega
  have q7 : decide ((l1.length : Int) ≤ 3000) = false := by simp; omega
  clear c d
  generalize putR l0 = rP at *
  generalize frameR l0 = rF at *
  generalize framesR l1 = rS at *
  obtain ⟨bP, cP⟩ := rP
  obtain ⟨bF, cF⟩ := rF
  obtain ⟨bS, nS, cS⟩ := rS
  unfold BPost at hPut hRPut hFr hRFr
  unfold LPost at hFs hRFs
  simp only at hPut hRPut hFr hRFr hFs hRFs
  go_enter Try.func3, Try.ntmps3
  go_wp2_with (first | (go_at_call 20; refine (sameLists_eq p11' p12).mono ?_; rintro e w13 ⟨rfl, hx13⟩; have hb13 := bel_step hb12 hx13) | (go_at_call 19; refine (hRFs _ hb11).mono ?_; rintro e w12 ⟨v12, rfl, p12, hx12⟩; have hb12 := bel_step hb11 hx12; have p11' := Lists.below p11 hx12) | (go_at_call 18; refine (hFs _ hb7).mono ?_; rintro e w11 ⟨v11, rfl, p11, hx11⟩; have hb11 := bel_step hb7 hx11) | (go_at_call 12; refine (sameBytes_eq p5' p6).mono ?_; rintro e w7 ⟨rfl, hx7⟩; have hb7 := bel_step hb6 hx7) | (go_at_call 14; refine (hRFr _ hb5).mono ?_; rintro e w6 ⟨v6, rfl, p6, hx6⟩; have hb6 := bel_step hb5 hx6; have p5' := Bytes.below p5 hx6) | (go_at_call 13; refine (hFr _ hb4).mono ?_; rintro e w5 ⟨v5, rfl, p5, hx5⟩; have hb5 := bel_step hb4 hx5) | (go_at_call 12; refine (sameBytes_eq p2' p3).mono ?_; rintro e w4 ⟨rfl, hx4⟩; have hb4 := bel_step hb3 hx4) | (go_at_call 11; refine (hRPut _ hb2).mono ?_; rintro e w3 ⟨v3, rfl, p3, hx3⟩; have hb3 := bel_step hb2 hx3; have p2' := Bytes.below p2 hx3) | (go_at_call 10; refine (hPut _ hb1).mono ?_; rintro e w2 ⟨v2, rfl, p2, hx2⟩; have hb2 := bel_step hb1 hx2) | (go_at_call 9; refine (head_any _).mono ?_; rintro e w1 ⟨rfl, hx1⟩; have hb1 := bel_step (Below.refl _ _) hx1))
  go_ret
  exact Ret.mk rfl hb13

set_option maxRecDepth 100000 in
set_option maxHeartbeats 8000000 in
theorem mr_early3 (v0 : Value) (l0 : List Int) (v1 : Value) (l1 : List UInt8) (w : World) (h0 : Ints w v0 l0) (f0 : Fat v0) (h1 : Bytes w v1 l1) (f1 : Fat v1) (c : 4000 < l0.length) (d : 3000 < l1.length) (d2 : l1.length ≤ 200000) : Calls Try.prog 3 #[v0, v1] w (Ret (.bool true) w) := by
  obtain ⟨ad0, cap0, hv0⟩ := h0.1.shape
  rw [List.length_map] at hv0
  subst hv0
  have hs0 := h0.1.short
  rw [List.length_map] at hs0
  obtain ⟨ad1, cap1, hv1⟩ := h1.shape
  rw [List.length_map] at hv1
  subst hv1
  have hs1 := h1.short
  rw [List.length_map] at hs1
  have q0 : decide ((300 : Int) < l0.length) = true := by simp; omega
  have q1 : decide ((l0.length : Int) ≤ 4000) = false := by simp; omega
  have q5 : decide ((3000 : Int) < l1.length) = true := by simp; omega
  have q6 : decide ((l1.length : Int) ≤ 200000) = true := by simp; omega
  go_enter Try.func3, Try.ntmps3
  go_wp2_with (first | (go_at_call 9; refine (head_any _).mono ?_; rintro e w1 ⟨rfl, hx1⟩; have hb1 := bel_step (Below.refl _ _) hx1))
  go_ret
  exact Ret.mk rfl hb1

set_option maxRecDepth 100000 in
set_option maxHeartbeats 8000000 in
theorem mr_few3 (v0 : Value) (l0 : List Int) (v1 : Value) (l1 : List UInt8) (w : World) (h0 : Ints w v0 l0) (f0 : Fat v0) (h1 : Bytes w v1 l1) (f1 : Fat v1) (c : 4000 < l0.length) (d : l1.length ≤ 3000) : Calls Try.prog 3 #[v0, v1] w (Ret (.bool true) w) := by
  obtain ⟨ad0, cap0, hv0⟩ := h0.1.shape
  rw [List.length_map] at hv0
  subst hv0
  have hs0 := h0.1.short
  rw [List.length_map] at hs0
  obtain ⟨ad1, cap1, hv1⟩ := h1.shape
  rw [List.length_map] at hv1
  subst hv1
  have hs1 := h1.short
  rw [List.length_map] at hs1
  have B0 := Below.refl w.heap.size w
  have hPut := fun wc (hb : Below w.heap.size w wc) => put_all _ l0 wc (h0.below hb)
  have hRPut := fun wc (hb : Below w.heap.size w wc) => refPut_all _ l0 wc (h0.below hb)
  have hFr := fun wc (hb : Below w.heap.size w wc) => frame_all _ l0 wc (h0.below hb)
  have hRFr := fun wc (hb : Below w.heap.size w wc) => refFrame_all _ l0 wc (h0.below hb)
  have hFs := fun wc (hb : Below w.heap.size w wc) => frames_all _ l1 wc (h1.below hb) f1
  have hRFs := fun wc (hb : Below w.heap.size w wc) => refFrames_all _ l1 wc (h1.below hb) f1
  have hGet := fun wc (hb : Below w.heap.size w wc) => get_all _ l1 wc (h1.below hb) (by omega)
  have hRGet := fun wc (hb : Below w.heap.size w wc) => refGet_all _ l1 wc (h1.below hb) f1 (by omega)
  have q0 : decide ((300 : Int) < l0.length) = true := by simp; omega
  have q1 : decide ((l0.length : Int) ≤ 4000) = false := by simp; omega
  have q5 : decide ((3000 : Int) < l1.length) = false := by simp; omega
  have q7 : decide ((l1.length : Int) ≤ 3000) = true := by simp; omega
  clear c d
  generalize putR l0 = rP at *
  generalize frameR l0 = rF at *
  generalize framesR l1 = rS at *
  obtain ⟨bP, cP⟩ := rP
  obtain ⟨bF, cF⟩ := rF
  obtain ⟨bS, nS, cS⟩ := rS
  unfold BPost at hPut hRPut hFr hRFr
  unfold LPost at hFs hRFs
  simp only at hPut hRPut hFr hRFr hFs hRFs
  generalize getR l1 = rG at *
  obtain ⟨bG, cG⟩ := rG
  unfold IPost at hGet hRGet
  simp only at hGet hRGet
  go_enter Try.func3, Try.ntmps3
  go_wp2_with (first | (go_at_call 20; refine (sameLists_eq p11' p12).mono ?_; rintro e w13 ⟨rfl, hx13⟩; have hb13 := bel_step hb12 hx13) | (go_at_call 19; refine (hRFs _ hb11).mono ?_; rintro e w12 ⟨v12, rfl, p12, hx12⟩; have hb12 := bel_step hb11 hx12; have p11' := Lists.below p11 hx12) | (go_at_call 18; refine (hFs _ hb10).mono ?_; rintro e w11 ⟨v11, rfl, p11, hx11⟩; have hb11 := bel_step hb10 hx11) | (go_at_call 17; refine (sameInts_eq p8' p9).mono ?_; rintro e w10 ⟨rfl, hx10⟩; have hb10 := bel_step hb9 hx10) | (go_at_call 16; refine (hRGet _ hb8).mono ?_; rintro e w9 ⟨v9, rfl, p9, hx9⟩; have hb9 := bel_step hb8 hx9; have p8' := Ints.below p8 hx9) | (go_at_call 15; refine (hGet _ hb7).mono ?_; rintro e w8 ⟨v8, rfl, p8, hx8⟩; have hb8 := bel_step hb7 hx8) | (go_at_call 12; refine (sameBytes_eq p5' p6).mono ?_; rintro e w7 ⟨rfl, hx7⟩; have hb7 := bel_step hb6 hx7) | (go_at_call 14; refine (hRFr _ hb5).mono ?_; rintro e w6 ⟨v6, rfl, p6, hx6⟩; have hb6 := bel_step hb5 hx6; have p5' := Bytes.below p5 hx6) | (go_at_call 13; refine (hFr _ hb4).mono ?_; rintro e w5 ⟨v5, rfl, p5, hx5⟩; have hb5 := bel_step hb4 hx5) | (go_at_call 12; refine (sameBytes_eq p2' p3).mono ?_; rintro e w4 ⟨rfl, hx4⟩; have hb4 := bel_step hb3 hx4) | (go_at_call 11; refine (hRPut _ hb2).mono ?_; rintro e w3 ⟨v3, rfl, p3, hx3⟩; have hb3 := bel_step hb2 hx3; have p2' := Bytes.below p2 hx3) | (go_at_call 10; refine (hPut _ hb1).mono ?_; rintro e w2 ⟨v2, rfl, p2, hx2⟩; have hb2 := bel_step hb1 hx2) | (go_at_call 9; refine (head_any _).mono ?_; rintro e w1 ⟨rfl, hx1⟩; have hb1 := bel_step (Below.refl _ _) hx1))
  go_ret
  exact Ret.mk rfl hb13

set_option maxRecDepth 100000 in
set_option maxHeartbeats 8000000 in
theorem mr_many3 (v0 : Value) (l0 : List Int) (v1 : Value) (l1 : List UInt8) (w : World) (h0 : Ints w v0 l0) (f0 : Fat v0) (h1 : Bytes w v1 l1) (f1 : Fat v1) (c : 4000 < l0.length) (d : 200000 < l1.length) : Calls Try.prog 3 #[v0, v1] w (Ret (.bool true) w) := by
  obtain ⟨ad0, cap0, hv0⟩ := h0.1.shape
  rw [List.length_map] at hv0
  subst hv0
  have hs0 := h0.1.short
  rw [List.length_map] at hs0
  obtain ⟨ad1, cap1, hv1⟩ := h1.shape
  rw [List.length_map] at hv1
  subst hv1
  have hs1 := h1.short
  rw [List.length_map] at hs1
  have B0 := Below.refl w.heap.size w
  have hPut := fun wc (hb : Below w.heap.size w wc) => put_all _ l0 wc (h0.below hb)
  have hRPut := fun wc (hb : Below w.heap.size w wc) => refPut_all _ l0 wc (h0.below hb)
  have hFr := fun wc (hb : Below w.heap.size w wc) => frame_all _ l0 wc (h0.below hb)
  have hRFr := fun wc (hb : Below w.heap.size w wc) => refFrame_all _ l0 wc (h0.below hb)
  have hFs := fun wc (hb : Below w.heap.size w wc) => frames_all _ l1 wc (h1.below hb) f1
  have hRFs := fun wc (hb : Below w.heap.size w wc) => refFrames_all _ l1 wc (h1.below hb) f1
  have q0 : decide ((300 : Int) < l0.length) = true := by simp; omega
  have q1 : decide ((l0.length : Int) ≤ 4000) = false := by simp; omega
  have q5 : decide ((3000 : Int) < l1.length) = true := by simp; omega
  have q6 : decide ((l1.length : Int) ≤ 200000) = false := by simp; omega
  have q7 : decide ((l1.length : Int) ≤ 3000) = false := by simp; omega
  clear c d
  generalize putR l0 = rP at *
  generalize frameR l0 = rF at *
  generalize framesR l1 = rS at *
  obtain ⟨bP, cP⟩ := rP
  obtain ⟨bF, cF⟩ := rF
  obtain ⟨bS, nS, cS⟩ := rS
  unfold BPost at hPut hRPut hFr hRFr
  unfold LPost at hFs hRFs
  simp only at hPut hRPut hFr hRFr hFs hRFs
  go_enter Try.func3, Try.ntmps3
  go_wp2_with (first | (go_at_call 20; refine (sameLists_eq p11' p12).mono ?_; rintro e w13 ⟨rfl, hx13⟩; have hb13 := bel_step hb12 hx13) | (go_at_call 19; refine (hRFs _ hb11).mono ?_; rintro e w12 ⟨v12, rfl, p12, hx12⟩; have hb12 := bel_step hb11 hx12; have p11' := Lists.below p11 hx12) | (go_at_call 18; refine (hFs _ hb7).mono ?_; rintro e w11 ⟨v11, rfl, p11, hx11⟩; have hb11 := bel_step hb7 hx11) | (go_at_call 12; refine (sameBytes_eq p5' p6).mono ?_; rintro e w7 ⟨rfl, hx7⟩; have hb7 := bel_step hb6 hx7) | (go_at_call 14; refine (hRFr _ hb5).mono ?_; rintro e w6 ⟨v6, rfl, p6, hx6⟩; have hb6 := bel_step hb5 hx6; have p5' := Bytes.below p5 hx6) | (go_at_call 13; refine (hFr _ hb4).mono ?_; rintro e w5 ⟨v5, rfl, p5, hx5⟩; have hb5 := bel_step hb4 hx5) | (go_at_call 12; refine (sameBytes_eq p2' p3).mono ?_; rintro e w4 ⟨rfl, hx4⟩; have hb4 := bel_step hb3 hx4) | (go_at_call 11; refine (hRPut _ hb2).mono ?_; rintro e w3 ⟨v3, rfl, p3, hx3⟩; have hb3 := bel_step hb2 hx3; have p2' := Bytes.below p2 hx3) | (go_at_call 10; refine (hPut _ hb1).mono ?_; rintro e w2 ⟨v2, rfl, p2, hx2⟩; have hb2 := bel_step hb1 hx2) | (go_at_call 9; refine (head_any _).mono ?_; rintro e w1 ⟨rfl, hx1⟩; have hb1 := bel_step (Below.refl _ _) hx1))
  go_ret
  exact Ret.mk rfl hb13

theorem walkMatchesReference (v0 : Value) (l0 : List Int) (v1 : Value) (l1 : List UInt8) (w : World) (h0 : Ints w v0 l0) (f0 : Fat v0) (h1 : Bytes w v1 l1) (f1 : Fat v1) : Calls Try.prog 3 #[v0, v1] w (Ret (.bool true) w) := by
  by_cases c : 300 < l0.length
  · by_cases d : l0.length ≤ 4000
    · exact mr_early1 _ l0 _ l1 w h0 f0 h1 f1 c d
    · by_cases e : l1.length ≤ 3000
      · exact mr_few3 _ l0 _ l1 w h0 f0 h1 f1 (by omega) e
      · by_cases g : l1.length ≤ 200000
        · exact mr_early3 _ l0 _ l1 w h0 f0 h1 f1 (by omega) (by omega) g
        · exact mr_many3 _ l0 _ l1 w h0 f0 h1 f1 (by omega) (by omega)
  · by_cases e : l1.length ≤ 3000
    · exact mr_few2 _ l0 _ l1 w h0 f0 h1 f1 (by omega) e
    · by_cases g : l1.length ≤ 200000
      · exact mr_early2 _ l0 _ l1 w h0 f0 h1 f1 (by omega) (by omega) g
      · exact mr_many2 _ l0 _ l1 w h0 f0 h1 f1 (by omega) (by omega)
end Go.Proofs.Ytpgnlmhkigpjgaa
