/-
  CodecChanged: its walk.
-/
import Derived.Test.YtpgnlmhkigpjgaaLawCodKit2
namespace Go.Proofs.Ytpgnlmhkigpjgaa
open Go.RowKit
set_option linter.unusedVariables false

set_option maxRecDepth 100000 in
set_option maxHeartbeats 8000000 in
theorem cg_early1 (v0 : Value) (l0 : List (List Int)) (n1 : Int) (n2 : Int) (w : World) (h0 : Lists w v0 l0) (f0 : Fat v0) (w1 : (Lit.int .u16 n1).wf = true) (w2 : (Lit.int .u8 n2).wf = true) (hsm : smallF l0 = false) : Calls Try.prog 7 #[v0, .int .u16 n1, .int .u8 n2] w (Ret (.bool true) w) := by
  obtain ⟨ad0, cap0, hv0⟩ : ∃ ad cap, v0 = .slice ad l0.length cap := by obtain ⟨vs, hr, hl, _⟩ := h0; obtain ⟨ad, cap, e⟩ := hr.shape; rw [hl] at e; exact ⟨ad, cap, e⟩
  subst hv0
  have ⟨z1, y1⟩ : 0 ≤ n1 ∧ n1 ≤ 65535 := by simp only [Lit.wf, Bool.and_eq_true, decide_eq_true_eq] at w1; exact w1
  have ⟨z2, y2⟩ : 0 ≤ n2 ∧ n2 ≤ 255 := by simp only [Lit.wf, Bool.and_eq_true, decide_eq_true_eq] at w2; exact w2
  go_enter Try.func7, Try.ntmps7
  go_wp2_with (first | (go_at_call 21; refine (small_any _ l0 _ (h0.below hb1)).mono ?_; rw [hsm]; rintro e ws ⟨rfl, rfl⟩) | (go_at_call 9; refine (head_any _).mono ?_; rintro e w1 ⟨rfl, hx1⟩; have hb1 := bel_step (Below.refl _ _) hx1))
  go_ret
  exact Ret.mk rfl hb1

set_option maxRecDepth 100000 in
set_option maxHeartbeats 8000000 in
theorem cg_early2 (v0 : Value) (l0 : List (List Int)) (n1 : Int) (n2 : Int) (w : World) (h0 : Lists w v0 l0) (f0 : Fat v0) (w1 : (Lit.int .u16 n1).wf = true) (w2 : (Lit.int .u8 n2).wf = true) (hsm : smallF l0 = true) (c : l0.length = 0) : Calls Try.prog 7 #[v0, .int .u16 n1, .int .u8 n2] w (Ret (.bool true) w) := by
  obtain ⟨ad0, cap0, hv0⟩ : ∃ ad cap, v0 = .slice ad l0.length cap := by obtain ⟨vs, hr, hl, _⟩ := h0; obtain ⟨ad, cap, e⟩ := hr.shape; rw [hl] at e; exact ⟨ad, cap, e⟩
  subst hv0
  have ⟨z1, y1⟩ : 0 ≤ n1 ∧ n1 ≤ 65535 := by simp only [Lit.wf, Bool.and_eq_true, decide_eq_true_eq] at w1; exact w1
  have ⟨z2, y2⟩ : 0 ≤ n2 ∧ n2 ≤ 255 := by simp only [Lit.wf, Bool.and_eq_true, decide_eq_true_eq] at w2; exact w2
  have q0 : ((l0.length : Int) == 0) = true := by rw [beq_iff_eq]; omega
  clear c
  go_enter Try.func7, Try.ntmps7
  go_wp2_with (first | (go_at_call 21; refine (small_any _ l0 _ (h0.below hb1)).mono ?_; rw [hsm]; rintro e ws ⟨rfl, rfl⟩) | (go_at_call 9; refine (head_any _).mono ?_; rintro e w1 ⟨rfl, hx1⟩; have hb1 := bel_step (Below.refl _ _) hx1))
  go_ret
  exact Ret.mk rfl hb1

set_option maxRecDepth 100000 in
set_option maxHeartbeats 8000000 in
theorem cg_early3 (v0 : Value) (l0 : List (List Int)) (n1 : Int) (n2 : Int) (w : World) (h0 : Lists w v0 l0) (f0 : Fat v0) (w1 : (Lit.int .u16 n1).wf = true) (w2 : (Lit.int .u8 n2).wf = true) (hsm : smallF l0 = true) (c : 0 < l0.length) (d : n2 = 0) : Calls Try.prog 7 #[v0, .int .u16 n1, .int .u8 n2] w (Ret (.bool true) w) := by
  obtain ⟨ad0, cap0, hv0⟩ : ∃ ad cap, v0 = .slice ad l0.length cap := by obtain ⟨vs, hr, hl, _⟩ := h0; obtain ⟨ad, cap, e⟩ := hr.shape; rw [hl] at e; exact ⟨ad, cap, e⟩
  subst hv0
  have ⟨z1, y1⟩ : 0 ≤ n1 ∧ n1 ≤ 65535 := by simp only [Lit.wf, Bool.and_eq_true, decide_eq_true_eq] at w1; exact w1
  have ⟨z2, y2⟩ : 0 ≤ n2 ∧ n2 ≤ 255 := by simp only [Lit.wf, Bool.and_eq_true, decide_eq_true_eq] at w2; exact w2
  have q0 : ((l0.length : Int) == 0) = false := by rw [beq_eq_false_iff_ne]; omega
  clear c
  subst d
  go_enter Try.func7, Try.ntmps7
  go_wp2_with (first | (go_at_call 21; refine (small_any _ l0 _ (h0.below hb1)).mono ?_; rw [hsm]; rintro e ws ⟨rfl, rfl⟩) | (go_at_call 9; refine (head_any _).mono ?_; rintro e w1 ⟨rfl, hx1⟩; have hb1 := bel_step (Below.refl _ _) hx1))
  go_ret
  exact Ret.mk rfl hb1

set_option maxRecDepth 100000 in
set_option maxHeartbeats 8000000 in
theorem cg_one (v0 : Value) (l0 : List (List Int)) (n1 : Int) (n2 : Int) (w : World) (h0 : Lists w v0 l0) (f0 : Fat v0) (w1 : (Lit.int .u16 n1).wf = true) (w2 : (Lit.int .u8 n2).wf = true) (hN : l0.length = 1) (hsm : smallF l0 = true) (y : UInt8) (hy : n2 = (y.toNat : Int)) (hy0 : y ≠ 0) : Calls Try.prog 7 #[v0, .int .u16 n1, .int .u8 n2] w (Ret (.bool true) w) := by
  obtain ⟨ad0, cap0, hv0⟩ : ∃ ad cap, v0 = .slice ad l0.length cap := by obtain ⟨vs, hr, hl, _⟩ := h0; obtain ⟨ad, cap, e⟩ := hr.shape; rw [hl] at e; exact ⟨ad, cap, e⟩
  subst hv0
  have ⟨z1, y1⟩ : 0 ≤ n1 ∧ n1 ≤ 65535 := by simp only [Lit.wf, Bool.and_eq_true, decide_eq_true_eq] at w1; exact w1
  have ⟨z2, y2⟩ : 0 ≤ n2 ∧ n2 ≤ 255 := by simp only [Lit.wf, Bool.and_eq_true, decide_eq_true_eq] at w2; exact w2
  obtain ⟨hs10, hs30⟩ := small_out hsm
  have h64 := lists_i64 h0
  have hgood : ∀ l ∈ l0, Good l := fun l hl => ⟨by have := hs30 l hl; omega, h64 l hl⟩
  have hfs := flen_small (ls := l0) (fun l hl => ⟨hs30 l hl, h64 l hl⟩)
  have hfl := hfs l0.length (Nat.le_refl _)
  rw [flen_all] at hfl
  obtain ⟨fl, hfle⟩ : ∃ fl, fl = l0.flatMap lframe := ⟨_, rfl⟩
  rw [← hfle] at hfl
  have hFrm := fun wc (hb : Below w.heap.size w wc) => frames_open _ l0 wc (h0.below hb) hs10 hs30 h64 fl hfle (by omega)
  subst hy
  have qy : ((y.toNat : Int) == 0) = false := by rw [beq_eq_false_iff_ne]; intro e; exact hy0 (UInt8.toNat.inj (by simpa using e))
  have hfm := hfs (0) (by omega)
  have hsucc : flen l0 (1) = flen l0 (0) + _ := flen_succ (ls := l0) (m := 0) (by omega)
  have hall : flen l0 (1) = fl.length := by rw [hfle, ← flen_all, hN]
  have hlast : 12 ≤ (lframe (l0[0]'(by omega))).length := by rw [lframe_len]; unfold lput; rw [List.length_append]; have := leb_pos (num ((l0[0]'(by omega)).length : Int)); unfold enc; omega
  have hF12 : flen l0 (0) + 12 ≤ fl.length := by rw [← hall]; omega
  have hch : ∀ (i : Nat), 3 ≤ i → ∀ (I : Nat), I = flen l0 (0) + i → ∀ (hlt : I < fl.length) (v : UInt8), v ≠ fl[I] → lframes (fl.set I v) = (l0.take (0), flen l0 (0)) := fun i h3 I hI hlt v hv => by
    subst hI
    exact lframes_changed (ls := l0) hgood (M := 0) hN h3 hfle hlt hv
  replace hch := Lib.hid hch
  have hto := flen_all l0
  clear hsucc hlast hall hto hfle hgood
  have hf0 := f0 _ _ _ rfl
  simp only [hN] at h0 hFrm hf0 hfl ⊢
  have hF : 0 = flen l0 0 := rfl
  rw [← hF] at hF12 hfm
  replace hF := Lib.hid hF
  obtain ⟨j, hj⟩ : ∃ j : Nat, n1 % ((fl.length : Int) - 3) = (j : Int) := ⟨(n1 % ((fl.length : Int) - 3)).toNat, by have := Int.emod_nonneg n1 (b := (fl.length : Int) - 3) (by omega); omega⟩
  have hjl : 3 + j < fl.length := by have := Int.emod_lt_of_pos n1 (b := (fl.length : Int) - 3) (by omega); omega
  go_enter Try.func7, Try.ntmps7
  go_wp2_with (first | (go_at_call 22; refine (hFrm _ hb1).mono ?_; rintro e w2 ⟨ad2, cap2, ad3, cap3, rfl, p2, hcp2, p3, hx2⟩; have hb2 := bel_step hb1 hx2) | (go_at_call 21; refine (small_any _ l0 _ (h0.below hb1)).mono ?_; rw [hsm]; rintro e ws ⟨rfl, rfl⟩) | (go_at_call 9; refine (head_any _).mono ?_; rintro e w1 ⟨rfl, hx1⟩; have hb1 := bel_step (Below.refl _ _) hx1) | (at_builtin; refine Hid.out ?_))
  refine Lib.hid ?_
  go_wp2_with (at_builtin; go_loud (refine app_row _ rfl _ _ 23 rfl w2.heap.size 5 (.int .u8 0) 1 Try.underlying23 Try.infoU8 rfl (by decide) _ [] rfl (OwnRow.new w2 w2.heap.size (Nat.le_refl _) 5 [] (by simp)) _ (fl.map vB) rfl (Row.below p2 ((Below.refl _ w2).alloc (Nat.le_refl _) _)) byte_one (by simp; omega) (by simp) ?_; intro vb wb hownb hxb; refine Hid.out ?_))
  refine Lib.hid ?_
  rw [List.nil_append] at hownb
  have hWb := ((Below.refl _ w2).alloc (Nat.le_refl _) _).trans hxb
  have hbb := bel_step hb2 hWb
  have fb := fat_own hownb
  obtain ⟨gb, capb, e, hcb⟩ := own_some hownb (by rw [List.length_map]; omega)
  have hgB := (World.ownsRow.lt hownb gb (by rw [e]; rfl)).1
  rw [List.length_map] at e hcb
  subst e
  have pb := Row.of_own hownb (by rw [List.length_map]; omega)
  have hfro := own_fro hownb
  obtain ⟨aa, e, _, hca⟩ := pb.cells _ _ _ rfl (3 + j) (by rw [List.length_map]; exact hjl)
  cases e
  rw [List.getElem_map, add_zero0] at hca
  unfold vB at hca
  have hfr := hfro (3 + j) (by rw [List.length_map]; exact hjl)
  obtain ⟨vs', r', hl', hi'⟩ := h0
  have hl1 := lists_sub r' ⟨hl', hi'⟩ 0 (0) cap0 (by omega) (by omega) (by omega) (Nat.le_refl _)
  have hr2 : ∀ w, (Instr.sliceAt 32 (.slice ad0 (1) cap0) none (some (.int .i64 (0 : Int))) none).run Try.prog w = .ok (sliced ad0 0 (0) cap0 1) w := fun w => by
    have := run_uptoL ad0 (1) cap0 (0) (by omega) w
    rwa [show (((0 : Nat)) : Int) = (0 : Int) by first | rfl | (push_cast; rfl)] at this
  obtain ⟨U, hU⟩ : ∃ U, U = sliced ad0 0 (0) cap0 1 := ⟨_, rfl⟩
  rw [← hU] at hl1 hr2
  rw [List.drop_zero] at hl1
  have hne : fl[3 + j] ^^^ y ≠ fl[3 + j] := by
    intro e
    have e2 : fl[3 + j] ^^^ (fl[3 + j] ^^^ y) = fl[3 + j] ^^^ fl[3 + j] := by rw [e]
    apply hy0
    simpa [← UInt8.xor_assoc] using e2
  have hres := hch.out (3 + j) (by omega) (3 + j) (by rw [← hF.out]; omega) hjl _ hne
  rw [← hF.out] at hres
  have hxor := bits_xor_u8 fl[3 + j] y
  have pb2 := row_set pb (i := 3 + j) (by rw [List.length_map]; exact hjl) (vB (fl[3 + j] ^^^ y))
  rw [← List.map_set] at pb2
  have hb3 : Below w.heap.size w (wb.setCell ⟨gb, 3 + j, none⟩ (vB (fl[3 + j] ^^^ y))) := Below.setCell (p := ⟨gb, 3 + j, none⟩) hbb (by have := hb2.size; simp only; omega) _
  have hFs := frames_fat _ (fl.set (3 + j) (fl[3 + j] ^^^ y)) _ pb2 (fat_mk _ hcb) (by rw [List.length_set]; omega) _ _ hres (0) (by rw [List.length_take]; omega)
  replace hxor := Lib.hid hxor
  clear hch hU hres hne pb2 pb fb hownb hxb hWb
  unfold vB at hFs hb3
  generalize fl[3 + j] = x at *
  go_wp2_with (first | (go_at_call 20; refine (sameLists_eq p6 p0).mono ?_; rintro e w7 ⟨rfl, hx7⟩; have hb7 := bel_step hb6 hx7) | (go_at_call 18; rw [hxor.out]; refine hFs.mono ?_; rintro e w6 ⟨ad6, cap6, vs6, rfl, r6, k6, hc6, hx6⟩; have hb6 := bel_step hb3 hx6; have p6 : Lists w6 _ (l0.take (0)) := ⟨_, r6, k6.1, k6.2⟩; have p0 := Lists.below hl1 hb6))
  go_ret
  exact Ret.mk rfl hb7

set_option maxRecDepth 100000 in
set_option maxHeartbeats 8000000 in
theorem cg_many (v0 : Value) (l0 : List (List Int)) (n1 : Int) (n2 : Int) (w : World) (h0 : Lists w v0 l0) (f0 : Fat v0) (w1 : (Lit.int .u16 n1).wf = true) (w2 : (Lit.int .u8 n2).wf = true) (N : Nat) (hN : l0.length = N + 2) (hsm : smallF l0 = true) (y : UInt8) (hy : n2 = (y.toNat : Int)) (hy0 : y ≠ 0) : Calls Try.prog 7 #[v0, .int .u16 n1, .int .u8 n2] w (Ret (.bool true) w) := by
  obtain ⟨ad0, cap0, hv0⟩ : ∃ ad cap, v0 = .slice ad l0.length cap := by obtain ⟨vs, hr, hl, _⟩ := h0; obtain ⟨ad, cap, e⟩ := hr.shape; rw [hl] at e; exact ⟨ad, cap, e⟩
  subst hv0
  have ⟨z1, y1⟩ : 0 ≤ n1 ∧ n1 ≤ 65535 := by simp only [Lit.wf, Bool.and_eq_true, decide_eq_true_eq] at w1; exact w1
  have ⟨z2, y2⟩ : 0 ≤ n2 ∧ n2 ≤ 255 := by simp only [Lit.wf, Bool.and_eq_true, decide_eq_true_eq] at w2; exact w2
  obtain ⟨hs10, hs30⟩ := small_out hsm
  have h64 := lists_i64 h0
  have hgood : ∀ l ∈ l0, Good l := fun l hl => ⟨by have := hs30 l hl; omega, h64 l hl⟩
  have hfs := flen_small (ls := l0) (fun l hl => ⟨hs30 l hl, h64 l hl⟩)
  have hfl := hfs l0.length (Nat.le_refl _)
  rw [flen_all] at hfl
  obtain ⟨fl, hfle⟩ : ∃ fl, fl = l0.flatMap lframe := ⟨_, rfl⟩
  rw [← hfle] at hfl
  have hFrm := fun wc (hb : Below w.heap.size w wc) => frames_open _ l0 wc (h0.below hb) hs10 hs30 h64 fl hfle (by omega)
  subst hy
  have qy : ((y.toNat : Int) == 0) = false := by rw [beq_eq_false_iff_ne]; intro e; exact hy0 (UInt8.toNat.inj (by simpa using e))
  have hfm := hfs (N + 1) (by omega)
  have hsucc : flen l0 (N + 2) = flen l0 (N + 1) + _ := flen_succ (ls := l0) (m := N + 1) (by omega)
  have hall : flen l0 (N + 2) = fl.length := by rw [hfle, ← flen_all, hN]
  have hlast : 12 ≤ (lframe (l0[N + 1]'(by omega))).length := by rw [lframe_len]; unfold lput; rw [List.length_append]; have := leb_pos (num ((l0[N + 1]'(by omega)).length : Int)); unfold enc; omega
  have hF12 : flen l0 (N + 1) + 12 ≤ fl.length := by rw [← hall]; omega
  have hch : ∀ (i : Nat), 3 ≤ i → ∀ (I : Nat), I = flen l0 (N + 1) + i → ∀ (hlt : I < fl.length) (v : UInt8), v ≠ fl[I] → lframes (fl.set I v) = (l0.take (N + 1), flen l0 (N + 1)) := fun i h3 I hI hlt v hv => by
    subst hI
    exact lframes_changed (ls := l0) hgood (M := N + 1) hN h3 hfle hlt hv
  replace hch := Lib.hid hch
  have hto := flen_all l0
  clear hsucc hlast hall hto hfle hgood
  have hf0 := f0 _ _ _ rfl
  simp only [hN] at h0 hFrm hf0 hfl ⊢
  obtain ⟨F, hF⟩ : ∃ F, F = flen l0 (N + 1) := ⟨_, rfl⟩
  rw [← hF] at hF12 hfm
  replace hF := Lib.hid hF
  have q1 : decide ((1 : Int) < (N : Int) + 2) = true := by simp; omega
  obtain ⟨j, hj⟩ : ∃ j : Nat, n1 % ((fl.length : Int) - (F : Int) - 3) = (j : Int) := ⟨(n1 % ((fl.length : Int) - (F : Int) - 3)).toNat, by have := Int.emod_nonneg n1 (b := (fl.length : Int) - (F : Int) - 3) (by omega); omega⟩
  have hjl : F + 3 + j < fl.length := by have := Int.emod_lt_of_pos n1 (b := (fl.length : Int) - (F : Int) - 3) (by omega); omega
  go_enter Try.func7, Try.ntmps7
  go_wp2_with (first | (go_at_call 22; refine (hFrm _ hb1).mono ?_; rintro e w2 ⟨ad2, cap2, ad3, cap3, rfl, p2, hcp2, p3, hx2⟩; have hb2 := bel_step hb1 hx2; obtain ⟨pp, rfl, hc⟩ := ends_last p3; rw [← hF.out] at hc) | (go_at_call 21; refine (small_any _ l0 _ (h0.below hb1)).mono ?_; rw [hsm]; rintro e ws ⟨rfl, rfl⟩) | (go_at_call 9; refine (head_any _).mono ?_; rintro e w1 ⟨rfl, hx1⟩; have hb1 := bel_step (Below.refl _ _) hx1) | (at_builtin; refine Hid.out ?_))
  refine Lib.hid ?_
  go_wp2_with (at_builtin; go_loud (refine app_row _ rfl _ _ 23 rfl w2.heap.size 5 (.int .u8 0) 1 Try.underlying23 Try.infoU8 rfl (by decide) _ [] rfl (OwnRow.new w2 w2.heap.size (Nat.le_refl _) 5 [] (by simp)) _ (fl.map vB) rfl (Row.below p2 ((Below.refl _ w2).alloc (Nat.le_refl _) _)) byte_one (by simp; omega) (by simp) ?_; intro vb wb hownb hxb; refine Hid.out ?_))
  refine Lib.hid ?_
  rw [List.nil_append] at hownb
  have hWb := ((Below.refl _ w2).alloc (Nat.le_refl _) _).trans hxb
  have hbb := bel_step hb2 hWb
  have fb := fat_own hownb
  obtain ⟨gb, capb, e, hcb⟩ := own_some hownb (by rw [List.length_map]; omega)
  have hgB := (World.ownsRow.lt hownb gb (by rw [e]; rfl)).1
  rw [List.length_map] at e hcb
  subst e
  have pb := Row.of_own hownb (by rw [List.length_map]; omega)
  have hfro := own_fro hownb
  obtain ⟨aa, e, _, hca⟩ := pb.cells _ _ _ rfl (F + 3 + j) (by rw [List.length_map]; exact hjl)
  cases e
  rw [List.getElem_map, add_zero0] at hca
  unfold vB at hca
  have hfr := hfro (F + 3 + j) (by rw [List.length_map]; exact hjl)
  obtain ⟨vs', r', hl', hi'⟩ := h0
  have hl1 := lists_sub r' ⟨hl', hi'⟩ 0 (N + 1) cap0 (by omega) (by omega) (by omega) (Nat.le_refl _)
  have hU : sliced ad0 0 (N + 1) cap0 1 = .slice ad0 (N + 1) cap0 := by
    unfold sliced
    rw [if_neg (by omega)]
    cases ad0 <;> simp [Addr.add]
  rw [hU] at hl1
  rw [List.drop_zero] at hl1
  have hne : fl[F + 3 + j] ^^^ y ≠ fl[F + 3 + j] := by
    intro e
    have e2 : fl[F + 3 + j] ^^^ (fl[F + 3 + j] ^^^ y) = fl[F + 3 + j] ^^^ fl[F + 3 + j] := by rw [e]
    apply hy0
    simpa [← UInt8.xor_assoc] using e2
  have hres := hch.out (3 + j) (by omega) (F + 3 + j) (by rw [← hF.out]; omega) hjl _ hne
  rw [← hF.out] at hres
  have hxor := bits_xor_u8 fl[F + 3 + j] y
  have pb2 := row_set pb (i := F + 3 + j) (by rw [List.length_map]; exact hjl) (vB (fl[F + 3 + j] ^^^ y))
  rw [← List.map_set] at pb2
  have hb3 : Below w.heap.size w (wb.setCell ⟨gb, F + 3 + j, none⟩ (vB (fl[F + 3 + j] ^^^ y))) := Below.setCell (p := ⟨gb, F + 3 + j, none⟩) hbb (by have := hb2.size; simp only; omega) _
  have hFs := frames_fat _ (fl.set (F + 3 + j) (fl[F + 3 + j] ^^^ y)) _ pb2 (fat_mk _ hcb) (by rw [List.length_set]; omega) _ _ hres (N + 1) (by rw [List.length_take]; omega)
  replace hxor := Lib.hid hxor
  clear hch hU hres hne pb2 pb fb hownb hxb hWb
  unfold vB at hFs hb3
  generalize fl[F + 3 + j] = x at *
  go_wp2_with (first | (go_at_call 20; refine (sameLists_eq p6 p0).mono ?_; rintro e w7 ⟨rfl, hx7⟩; have hb7 := bel_step hb6 hx7) | (go_at_call 18; rw [hxor.out]; refine hFs.mono ?_; rintro e w6 ⟨ad6, cap6, vs6, rfl, r6, k6, hc6, hx6⟩; have hb6 := bel_step hb3 hx6; have p6 : Lists w6 _ (l0.take (N + 1)) := ⟨_, r6, k6.1, k6.2⟩; have p0 := Lists.below hl1 hb6))
  go_ret
  exact Ret.mk rfl hb7

theorem walkChanged (v0 : Value) (l0 : List (List Int)) (n1 n2 : Int) (w : World) (h0 : Lists w v0 l0) (f0 : Fat v0) (w1 : (Lit.int .u16 n1).wf = true) (w2 : (Lit.int .u8 n2).wf = true) : Calls Try.prog 7 #[v0, .int .u16 n1, .int .u8 n2] w (Ret (.bool true) w) := by
  cases hsm : smallF l0 with
  | false => exact cg_early1 _ l0 n1 n2 w h0 f0 w1 w2 hsm
  | true =>
    by_cases c : l0.length = 0
    · exact cg_early2 _ l0 n1 n2 w h0 f0 w1 w2 hsm c
    · by_cases d : n2 = 0
      · exact cg_early3 _ l0 n1 n2 w h0 f0 w1 w2 hsm (by omega) d
      · have hz : 0 ≤ n2 ∧ n2 ≤ 255 := by simp only [Lit.wf, Bool.and_eq_true, decide_eq_true_eq] at w2; exact w2
        have hy : n2 = ((UInt8.ofNat n2.toNat).toNat : Int) := by simp; omega
        have hy0 : UInt8.ofNat n2.toNat ≠ 0 := by intro e; rw [e] at hy; exact d (by simpa using hy)
        by_cases e : l0.length = 1
        · exact cg_one _ l0 n1 n2 w h0 f0 w1 w2 e hsm _ hy hy0
        · exact cg_many _ l0 n1 n2 w h0 f0 w1 w2 (l0.length - 2) (by omega) hsm _ hy hy0
end Go.Proofs.Ytpgnlmhkigpjgaa
