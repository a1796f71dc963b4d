/-
  CodecTorn: its walk.
-/
import Derived.Test.YtpgnlmhkigpjgaaLawCodKit2
namespace Go.Proofs.Ytpgnlmhkigpjgaa
open Go.RowKit
set_option linter.unusedVariables false

set_option maxRecDepth 100000 in
set_option maxHeartbeats 8000000 in
theorem tn_early (v0 : Value) (l0 : List (List Int)) (n1 : Int) (w : World) (h0 : Lists w v0 l0) (f0 : Fat v0) (w1 : (Lit.int .u16 n1).wf = true) (hsm : smallF l0 = false) : Calls Try.prog 5 #[v0, .int .u16 n1] w (Ret (.bool true) w) := by
  obtain ⟨ad0, cap0, hv0⟩ : ∃ ad cap, v0 = .slice ad l0.length cap := by obtain ⟨vs, hr, hl, _⟩ := h0; obtain ⟨ad, cap, e⟩ := hr.shape; rw [hl] at e; exact ⟨ad, cap, e⟩
  subst hv0
  have ⟨z1, y1⟩ : 0 ≤ n1 ∧ n1 ≤ 65535 := by simp only [Lit.wf, Bool.and_eq_true, decide_eq_true_eq] at w1; exact w1
  go_enter Try.func5, Try.ntmps5
  go_wp2_with (first | (go_at_call 21; refine (small_any _ l0 _ (h0.below hb1)).mono ?_; rw [hsm]; rintro e ws ⟨rfl, rfl⟩) | (go_at_call 9; refine (head_any _).mono ?_; rintro e w1 ⟨rfl, hx1⟩; have hb1 := bel_step (Below.refl _ _) hx1))
  go_ret
  exact Ret.mk rfl hb1

set_option maxRecDepth 100000 in
set_option maxHeartbeats 8000000 in
theorem tn_main (v0 : Value) (l0 : List (List Int)) (n1 : Int) (w : World) (h0 : Lists w v0 l0) (f0 : Fat v0) (w1 : (Lit.int .u16 n1).wf = true) (hsm : smallF l0 = true) : Calls Try.prog 5 #[v0, .int .u16 n1] w (Ret (.bool true) w) := by
  obtain ⟨ad0, cap0, hv0⟩ : ∃ ad cap, v0 = .slice ad l0.length cap := by obtain ⟨vs, hr, hl, _⟩ := h0; obtain ⟨ad, cap, e⟩ := hr.shape; rw [hl] at e; exact ⟨ad, cap, e⟩
  subst hv0
  have ⟨z1, y1⟩ : 0 ≤ n1 ∧ n1 ≤ 65535 := by simp only [Lit.wf, Bool.and_eq_true, decide_eq_true_eq] at w1; exact w1
  obtain ⟨hs10, hs30⟩ := small_out hsm
  have h64 := lists_i64 h0
  have hgood : ∀ l ∈ l0, Good l := fun l hl => ⟨by have := hs30 l hl; omega, h64 l hl⟩
  have hfs := flen_small (ls := l0) (fun l hl => ⟨hs30 l hl, h64 l hl⟩)
  have hfl := hfs l0.length (Nat.le_refl _)
  rw [flen_all] at hfl
  obtain ⟨fl, hfle⟩ : ∃ fl, fl = l0.flatMap lframe := ⟨_, rfl⟩
  rw [← hfle] at hfl
  have hFrm := fun wc (hb : Below w.heap.size w wc) => frames_open _ l0 wc (h0.below hb) hs10 hs30 h64 fl hfle (by omega)
  obtain ⟨k, hk⟩ : ∃ k : Nat, n1 % ((fl.length : Int) + 1) = (k : Int) := ⟨(n1 % ((fl.length : Int) + 1)).toNat, by have := Int.emod_nonneg n1 (b := (fl.length : Int) + 1) (by omega); omega⟩
  have hkl : k ≤ fl.length := by have := Int.emod_lt_of_pos n1 (b := (fl.length : Int) + 1) (by omega); omega
  have hcut := fun m hm h1 h2 => lframes_cut (ls := l0) hgood (m := m) (k := k) hm h1 h2
  rw [← hfle] at hcut
  replace hcut := Lib.hid hcut
  have qz : ((fl.length : Int) + 1 == 0) = false := by rw [beq_eq_false_iff_ne]; omega
  clear hfle
  go_enter Try.func5, Try.ntmps5
  go_wp2_with (first | (go_at_call 22; refine (hFrm _ hb1).mono ?_; rintro e w2 ⟨ad2, cap2, ad3, cap3, rfl, p2, hcp2, p3, hx2⟩; have hb2 := bel_step hb1 hx2) | (go_at_call 21; refine (small_any _ l0 _ (h0.below hb1)).mono ?_; rw [hsm]; rintro e ws ⟨rfl, rfl⟩) | (go_at_call 9; refine (head_any _).mono ?_; rintro e w1 ⟨rfl, hx1⟩; have hb1 := bel_step (Below.refl _ _) hx1))
  rw [hk]
  clear hk
  have hcell := p3.cells _ _ _ rfl
  simp only [List.length_map, endsF_len] at hcell
  go_loopw [10, 11, 12] (fun a b i wr => ∃ (m n : Nat), a = .int .i64 (m : Int) ∧ b = .int .i64 ((flen l0 m : Nat) : Int) ∧ i = .int .i64 (n : Int) ∧ n ≤ l0.length ∧ m ≤ n ∧ flen l0 m ≤ k ∧ (m < n → k < flen l0 (m + 1)) ∧ Below w2.heap.size w2 wr)
    (fun _ _ i _ => l0.length - (intOf i).toNat)
  case atStart => exact ⟨0, 0, rfl, rfl, rfl, by omega, by omega, Nat.zero_le _, by omega, Below.refl _ _⟩
  case round =>
    obtain ⟨m, n, rfl, rfl, rfl, hn, hmn, hmk, hlt, hbr⟩ := hrel
    have hbs := hbr.size
    by_cases hnl : n < l0.length
    · have q1 : decide ((n : Int) < l0.length) = true := by simp; omega
      obtain ⟨p, rfl, hp0, hc⟩ := hcell n hnl
      have hm1 := hfs (n + 1) hnl
      rw [List.getElem_map, show (endsF l0 l0.length)[n]'(by rw [endsF_len]; exact hnl) = ((flen l0 (n + 1) : Nat) : Int) by simp [endsF]] at hc
      have hcr := (hbr.cell (p := p.add n) (by rw [blk_add]; exact hp0)).trans hc
      have u1 : ∀ g : Grow wr, (up wr g).cell? (p.add n) = some (.int .i64 ((flen l0 (n + 1) : Nat) : Int)) := fun g => ((hbr.trans ((up_below wr g).mono hbs)).cell (p := p.add n) (by rw [blk_add]; exact hp0)).trans hc
      by_cases hle : flen l0 (n + 1) ≤ k
      · have q2 : decide (((flen l0 (n + 1) : Nat) : Int) ≤ (k : Int)) = true := by simp; omega
        generalize flen l0 m = fm at *
        generalize hfn : flen l0 (n + 1) = fn at *
        replace hfn := Lib.hid hfn
        go_wp2_with fail
        refine wp_region_up (by kernel_rfl) (by kernel_rfl) ?_
        repeat (go_big_quiet_step (fail))
        refine wpQuiet_nil ?_
        rintro w9 ⟨g, rfl⟩
        have hxg := up_below wr g
        go_wp2_with fail
        go_roundw
        case rel => exact ⟨n + 1, n + 1, by go_num, by rw [hfn.out], by go_num, by omega, by omega, by rw [hfn.out]; exact hle, by omega, hbr.trans (hxg.mono hbs)⟩
        case measure => simp [intOf]; omega
      · have q2 : decide (((flen l0 (n + 1) : Nat) : Int) ≤ (k : Int)) = false := by simp; omega
        have hlt2 : m < n + 1 → k < flen l0 (m + 1) := fun h => by
          by_cases e : m = n
          · subst e; omega
          · exact hlt (by omega)
        replace hlt2 := Lib.hid hlt2
        generalize flen l0 (n + 1) = fn at *
        clear hlt
        go_wp2_with fail
        go_roundw
        case rel => exact ⟨m, n + 1, rfl, rfl, by go_num, by omega, by omega, hmk, hlt2.out, hbr⟩
        case measure => simp [intOf]; omega
    · have q1 : decide ((n : Int) < l0.length) = false := by simp; omega
      have e : n = l0.length := by omega
      subst e
      have hfm := hcut.out m hmn hmk hlt
      have hmf := hfs m hmn
      have hbw := hb2.trans (hbr.mono hb2.size)
      have hsub := row_sub p2 0 k cap2 (by omega) hkl (by omega) (by omega)
      have hr1 := run_upto8 ad2 fl.length cap2 k (by omega)
      obtain ⟨V, hV⟩ : ∃ V, V = sliced ad2 0 k cap2 1 := ⟨_, rfl⟩
      rw [← hV] at hsub hr1
      rw [← List.map_take, List.drop_zero] at hsub
      obtain ⟨ad', cap', vs', e', r', k'⟩ := lists_open h0
      cases e'
      have hl1 := lists_sub r' k' 0 m cap0 (by omega) hmn (by have := f0 _ _ _ rfl; omega) (Nat.le_refl _)
      have hr2 := run_uptoL ad0 l0.length cap0 m (by have := f0 _ _ _ rfl; omega)
      obtain ⟨U, hU⟩ : ∃ U, U = sliced ad0 0 m cap0 1 := ⟨_, rfl⟩
      rw [← hU] at hl1 hr2
      rw [List.drop_zero] at hl1
      have hF := frames_fat V _ wr (Row.below hsub.1 hbr) hsub.2 (by rw [List.length_take]; omega) _ _ hfm m (by rw [List.length_take]; omega)
      clear hV hU hfm hcut r' k' hlt
      generalize flen l0 m = fm at *
      go_wp2_with (first | (go_at_call 20; refine (sameLists_eq p6 p0).mono ?_; rintro e w7 ⟨rfl, hx7⟩; have hb7 := bel_step hb6 hx7) | (go_at_call 18; refine hF.mono ?_; rintro e w6 ⟨ad6, cap6, vs6, rfl, r6, k6, hc6, hx6⟩; have hb6 := bel_step hbw hx6; have p6 : Lists w6 _ (l0.take m) := ⟨_, r6, k6.1, k6.2⟩; have p0 := Lists.below hl1 hb6))
      go_ret
      exact Ret.mk rfl hb7

theorem walkTorn (v0 : Value) (l0 : List (List Int)) (n1 : Int) (w : World) (h0 : Lists w v0 l0) (f0 : Fat v0) (w1 : (Lit.int .u16 n1).wf = true) : Calls Try.prog 5 #[v0, .int .u16 n1] w (Ret (.bool true) w) := by
  cases hsm : smallF l0 with
  | false => exact tn_early _ l0 n1 w h0 f0 w1 hsm
  | true => exact tn_main _ l0 n1 w h0 f0 w1 hsm
end Go.Proofs.Ytpgnlmhkigpjgaa
