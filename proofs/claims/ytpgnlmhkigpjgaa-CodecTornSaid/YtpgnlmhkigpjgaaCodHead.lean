/-
  The examples of the chapter; what is small; the frames of lists.
-/
import Derived.Test.YtpgnlmhkigpjgaaCodRefW
import Derived.Test.YtpgnlmhkigpjgaaCodMath2
namespace Go.Proofs.Ytpgnlmhkigpjgaa
open Go.RowKit

theorem own_some {w : World} {base : Nat} {e : TypeId} {v : Value} {xs : List Value} (h : OwnRow w base e v xs) (hx : 0 < xs.length) : ∃ g cap, v = .slice (some ⟨g, 0, none⟩) xs.length cap ∧ xs.length ≤ cap := by
  obtain ⟨_, ⟨_, h0⟩ | ⟨g, cap', cur, e, _, _, hc, _⟩⟩ := h
  · omega
  · exact ⟨g, cap', e, hc⟩
theorem ex_put : lput [0, -1, 64] = [6, 0, 1, 128, 1] := by
  simp [lput, enc, num, leb_small, leb_big]
theorem ex_get : lget [2, 128, 0] = none := by
  have h1 : rdI [2, 128, 0] = some (1, 1) := by decide +kernel
  have h2 : rdI [128, 0] = none := by decide +kernel
  unfold lget
  rw [h1]
  simp [rdN, h2]
theorem ex_five : lput [5] = [2, 10] := by
  simp [lput, enc, num, leb_small]
theorem good_five : Good [5] := ⟨by simp, by decide⟩
theorem ex_frame : (lframe [5]).length = 13 ∧ (lframe [5]).take 5 = [0, 0, 2, 2, 10] := by
  refine ⟨by rw [lframe_len, ex_five]; rfl, ?_⟩
  unfold lframe said
  rw [ex_five]
  simp
theorem ex_frames : lframes (lframe [5] ++ [0, 0]) = ([[5]], 13) := by
  have h := lframes_flat [[5]] [0, 0] (fun l hl => by simp at hl; subst hl; exact good_five)
  have hn : lframes [0, 0] = ([], 0) := lframes_none (by unfold lfirst; rw [if_pos (by simp)])
  rw [hn] at h
  simpa [ex_frame.1] using h

theorem head_put (wc : World) : Calls Try.prog 10 #[.slice (some ⟨wc.heap.size, 0, none⟩) 3 3] (wc.alloc (.cells #[.int .i64 0, .int .i64 (-1), .int .i64 64] 3)) fun e w' => ∃ ad cap, e = .returned (.tuple #[.slice ad 5 cap, .int .i64 0]) ∧ Bytes w' (.slice ad 5 cap) [6, 0, 1, 128, 1] ∧ Below wc.heap.size wc w' := by
  have hb : Below wc.heap.size wc (wc.alloc (.cells #[.int .i64 0, .int .i64 (-1), .int .i64 64] 3)) := (Below.refl _ wc).alloc (Nat.le_refl _) _
  refine (Put_shape _ [0, -1, 64] _ ⟨row_mark wc [.int .i64 0, .int .i64 (-1), .int .i64 64] 3 (0, 0) (by simp), by decide⟩ (by simp)).mono ?_
  rw [ex_put]
  rintro e w' ⟨ad, cap, rfl, _, hr, hx⟩
  exact ⟨ad, cap, rfl, hr, hb.trans (hx.mono hb.size)⟩
theorem head_get (wc : World) : Calls Try.prog 15 #[.slice (some ⟨wc.heap.size, 0, none⟩) 3 3] (wc.alloc (.cells #[.int .u8 2, .int .u8 128, .int .u8 0] 5)) (Ret (.tuple #[.slice none 0 0, .int .i64 7]) wc) := by
  have hb : Below wc.heap.size wc (wc.alloc (.cells #[.int .u8 2, .int .u8 128, .int .u8 0] 5)) := (Below.refl _ wc).alloc (Nat.le_refl _) _
  refine (Get_none _ [2, 128, 0] _ (row_mark wc [.int .u8 2, .int .u8 128, .int .u8 0] 5 (0, 0) (by simp)) (by simp) ex_get).mono ?_
  rintro e w' ⟨rfl, hx⟩
  exact ⟨rfl, hb.trans (hx.mono hb.size)⟩
theorem head_frame (wc : World) : Calls Try.prog 13 #[.slice (some ⟨wc.heap.size, 0, none⟩) 1 1] (wc.alloc (.cells #[.int .i64 5] 3)) fun e w' => ∃ a cap, e = .returned (.tuple #[.slice (some a) 13 cap, .int .i64 0]) ∧ Bytes w' (.slice (some a) 13 cap) (lframe [5]) ∧ 13 ≤ cap ∧ Below wc.heap.size wc w' := by
  have hb : Below wc.heap.size wc (wc.alloc (.cells #[.int .i64 5] 3)) := (Below.refl _ wc).alloc (Nat.le_refl _) _
  refine (Frame_any _ [5] _ ⟨row_mark wc [.int .i64 5] 3 (0, 0) (by simp), by decide⟩ (by simp)).mono ?_
  rintro e w' ⟨v', rfl, hown, hx⟩
  obtain ⟨g, cap, e, hc⟩ := own_some hown (by rw [List.length_map, ex_frame.1]; omega)
  rw [List.length_map, ex_frame.1] at e hc
  subst e
  exact ⟨_, cap, rfl, bytes_of_own hown (by rw [ex_frame.1]; omega), hc, hb.trans (hx.mono hb.size)⟩
theorem head_lists (wc : World) : Lists ((wc.alloc (.cells #[.int .i64 5] 3)).alloc (.cells #[.slice (some ⟨wc.heap.size, 0, none⟩) 1 1] 22)) (.slice (some ⟨wc.heap.size + 1, 0, none⟩) 1 1) [[5]] := by
  have h1 : Ints (wc.alloc (.cells #[.int .i64 5] 3)) (.slice (some ⟨wc.heap.size, 0, none⟩) 1 1) [5] := ⟨row_mark wc [.int .i64 5] 3 (0, 0) (by simp), by decide⟩
  have h2 := row_mark (wc.alloc (.cells #[.int .i64 5] 3)) [.slice (some ⟨wc.heap.size, 0, none⟩) 1 1] 22 (0, 0) (by simp)
  rw [show (wc.alloc (.cells #[.int .i64 5] 3)).heap.size = wc.heap.size + 1 by simp] at h2
  have h3 := (Vs.one h1).below ((Below.refl _ _).alloc (Nat.le_refl _) (.cells #[.slice (some ⟨wc.heap.size, 0, none⟩) 1 1] 22))
  exact ⟨_, h2, h3.1, h3.2⟩

theorem head_same1 (wc : World) (ad : Option Addr) (cap : Nat) (h : Bytes wc (.slice ad 5 cap) [6, 0, 1, 128, 1]) : Calls Try.prog 12 #[(.slice ad 5 cap), .slice (some ⟨wc.heap.size, 0, none⟩) 5 5] (wc.alloc (.cells #[.int .u8 6, .int .u8 0, .int .u8 1, .int .u8 128, .int .u8 1] 5)) (Ret (.bool true) wc) := by
  have hb : Below wc.heap.size wc (wc.alloc (.cells #[.int .u8 6, .int .u8 0, .int .u8 1, .int .u8 128, .int .u8 1] 5)) := (Below.refl _ wc).alloc (Nat.le_refl _) _
  have hk : Bytes (wc.alloc (.cells #[.int .u8 6, .int .u8 0, .int .u8 1, .int .u8 128, .int .u8 1] 5)) (.slice (some ⟨wc.heap.size, 0, none⟩) 5 5) [6, 0, 1, 128, 1] := row_mark wc [.int .u8 6, .int .u8 0, .int .u8 1, .int .u8 128, .int .u8 1] 5 (0, 0) (by simp)
  refine (sameBytes_any _ _ _ _ _ (h.below hb) hk).mono ?_
  rintro e w' ⟨rfl, hx⟩
  exact ⟨by simp, hb.trans (hx.mono hb.size)⟩
theorem head_same2 (wc : World) (V : Value) (h : Bytes wc V [0, 0, 2, 2, 10]) : Calls Try.prog 12 #[V, .slice (some ⟨wc.heap.size, 0, none⟩) 5 5] (wc.alloc (.cells #[.int .u8 0, .int .u8 0, .int .u8 2, .int .u8 2, .int .u8 10] 5)) (Ret (.bool true) wc) := by
  have hb : Below wc.heap.size wc (wc.alloc (.cells #[.int .u8 0, .int .u8 0, .int .u8 2, .int .u8 2, .int .u8 10] 5)) := (Below.refl _ wc).alloc (Nat.le_refl _) _
  have hk : Bytes (wc.alloc (.cells #[.int .u8 0, .int .u8 0, .int .u8 2, .int .u8 2, .int .u8 10] 5)) (.slice (some ⟨wc.heap.size, 0, none⟩) 5 5) [0, 0, 2, 2, 10] := row_mark wc [.int .u8 0, .int .u8 0, .int .u8 2, .int .u8 2, .int .u8 10] 5 (0, 0) (by simp)
  refine (sameBytes_any _ _ _ _ _ (h.below hb) hk).mono ?_
  rintro e w' ⟨rfl, hx⟩
  exact ⟨by simp, hb.trans (hx.mono hb.size)⟩
theorem head_same3 (wc : World) (v : Value) (h : Lists wc v [[5]]) : Calls Try.prog 20 #[v, .slice (some ⟨wc.heap.size + 1, 0, none⟩) 1 1] ((wc.alloc (.cells #[.int .i64 5] 3)).alloc (.cells #[.slice (some ⟨wc.heap.size, 0, none⟩) 1 1] 22)) (Ret (.bool true) wc) := by
  have hb : Below wc.heap.size wc ((wc.alloc (.cells #[.int .i64 5] 3)).alloc (.cells #[.slice (some ⟨wc.heap.size, 0, none⟩) 1 1] 22)) := ((Below.refl _ wc).alloc (Nat.le_refl _) _).alloc (by simp) _
  refine (sameLists_any _ _ _ _ _ (h.below hb) (head_lists wc)).mono ?_
  rintro e w' ⟨rfl, hx⟩
  exact ⟨by simp, hb.trans (hx.mono hb.size)⟩
set_option maxRecDepth 100000 in
set_option maxHeartbeats 8000000 in
theorem head_any (w : World) : Calls Try.prog 9 #[] w (Ret (.bool true) w) := by
  go_enter Try.func9, Try.ntmps9
  go_wp2_with (first | (go_at_call 10; refine (head_put _).mono ?_; rintro e w1 ⟨ad1, cap1, rfl, h1, hx1⟩) | (go_at_call 15; refine (head_get _).mono ?_; rintro e w2 ⟨rfl, hx2⟩; have hx2' := hx2) | (go_at_call 13; refine (head_frame _).mono ?_; rintro e w3 ⟨a3, cap3, rfl, h3, hc3, hx3⟩; have h3' := h3) | (at_builtin; refine Hid.out ?_))
  have hb3 : Below w.heap.size w w3 := bel_step (bel_step hx1 hx2) hx3
  clear hx2 h3
  refine Lib.hid ?_
  go_wp2_with (at_builtin; go_loud (refine app_row _ rfl _ _ 23 rfl w3.heap.size 5 (.int .u8 0) 1 Try.underlying23 Try.infoU8 rfl (by decide) _ [] rfl (OwnRow.new w3 w3.heap.size (Nat.le_refl _) 5 [] (by simp)) _ ((lframe [5]).map vB) rfl (Row.below h3' ((Below.refl _ w3).alloc (Nat.le_refl _) _)) byte_one (by simp [ex_frame.1]) (by simp) ?_; intro v4 w4 hown4 hx4; refine Hid.out ?_))
  refine Lib.hid ?_
  rw [List.nil_append] at hown4
  have hx34 := ((Below.refl _ w3).alloc (Nat.le_refl _) _).trans hx4
  have hs34 := hx34.size
  go_wp2_with (at_builtin; go_loud (refine app_row _ rfl _ _ 23 rfl w3.heap.size 5 (.int .u8 0) 1 Try.underlying23 Try.infoU8 rfl (by decide) _ ((lframe [5]).map vB) rfl (own_below hown4 ((Below.refl _ w4).alloc (Nat.le_refl _) _)) _ [.int .u8 0, .int .u8 0] rfl (row_mark w4 [.int .u8 0, .int .u8 0] 5 (0, 0) (by simp)) (by decide) (by simp [ex_frame.1]) (by simp; omega) ?_; intro v5 w5 hown5 hx5; refine Hid.out ?_))
  refine Lib.hid ?_
  have hx35 := hx34.trans ((((Below.refl _ w4).alloc (Nat.le_refl _) (.cells #[.int .u8 0, .int .u8 0] 5)).mono hs34).trans (hx5.mono (by simp)))
  have hb5 : Below w.heap.size w w5 := bel_step hb3 hx35
  have hfr : Calls Try.prog 18 #[v5] w5 fun e w' => ∃ v', e = .returned (.tuple #[v', .int .i64 13, .int .i64 0]) ∧ Lists w' v' [[5]] ∧ Below w5.heap.size w5 w' := by
    have hl : (lframe [5] ++ [0, 0]).length = 15 := by rw [List.length_append, ex_frame.1]; rfl
    have hby : Bytes w5 v5 (lframe [5] ++ [0, 0]) := bytes_of_own (by rw [List.map_append]; exact hown5) (by rw [hl]; omega)
    refine (Frames_any v5 _ w5 hby (fat_own hown5) (by rw [hl]; omega)).mono ?_
    rw [ex_frames]
    rintro e w' ⟨v', vs, rfl, ho, hv, hx⟩
    exact ⟨v', rfl, lists_of_own ho (by simp) hv.plain, hx⟩
  have hc5 := row_sub h3' 0 5 cap3 (by omega) (by omega) (by omega) (by omega)
  have hs5 : ∀ w, (Instr.sliceAt 23 (.slice (some a3) 13 cap3) none (some (.int .i64 (5 : Int))) none).run Try.prog w = .ok (sliced (some a3) 0 5 cap3 1) w := run_upto8 (some a3) 13 cap3 5 (by omega)
  obtain ⟨V, hV⟩ : ∃ V, V = sliced (some a3) 0 5 cap3 1 := ⟨_, rfl⟩
  rw [← hV] at hc5 hs5
  clear hV
  have hcV : Bytes w3 V [0, 0, 2, 2, 10] := by
    have := hc5.1
    rw [← List.map_take, List.drop_zero, ex_frame.2] at this
    exact this
  have hb13 : Below w1.heap.size w1 w3 := hx2'.trans (hx3.mono hx2'.size)
  have hsa : ∀ wc, Below w3.heap.size w3 wc → _ := fun wc hb => head_same1 wc ad1 cap1 (h1.below (bel_step hb13 hb))
  have hsb : ∀ wc, Below w3.heap.size w3 wc → _ := fun wc hb => head_same2 wc V (hcV.below hb)
  go_wp2_with (first | (go_at_call 18; refine hfr.mono ?_; rintro e w6 ⟨v6, rfl, hl6, hx6⟩; have hx36 := bel_step hx35 hx6) | (go_at_call 12; refine (hsa _ hx36).mono ?_; rintro e w7 ⟨rfl, hx7⟩; have hx37 := bel_step hx36 hx7; have hl7 := hl6.below hx7) | (go_at_call 12; refine (hsb _ hx37).mono ?_; rintro e w8 ⟨rfl, hx8⟩; have hx38 := bel_step hx37 hx8; have hl8 := hl7.below hx8) | (go_at_call 20; refine (head_same3 _ _ hl8).mono ?_; rintro e w9 ⟨rfl, hx9⟩; have hx39 := bel_step hx38 hx9))
  go_ret
  exact Ret.mk rfl (bel_step hb3 hx39)
end Go.Proofs.Ytpgnlmhkigpjgaa
