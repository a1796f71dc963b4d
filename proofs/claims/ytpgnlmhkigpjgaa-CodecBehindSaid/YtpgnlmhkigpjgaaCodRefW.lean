/-
  The reference: whole.
-/
import Derived.Test.YtpgnlmhkigpjgaaCodRefG
import Derived.Test.YtpgnlmhkigpjgaaCodSame
import Derived.Deep.RegionHeld3
import Derived.Deep.DeepCutAuto
namespace Go.Proofs.Ytpgnlmhkigpjgaa
open Go.RowKit

theorem bel_step {W w w' : World} (h : Below W.heap.size W w) (hx : Below w.heap.size w w') : Below W.heap.size W w' := h.trans (hx.mono h.size)
set_option maxRecDepth 100000 in
set_option maxHeartbeats 4000000 in
theorem whole_short (v : Value) (bs : List UInt8) (w : World) (h : Bytes w v bs) (hs : bs.length < 11) :
    Calls Try.prog 33 #[v] w (Ret (.tuple #[.slice none 0 0, .int .i64 0]) w) := by
  obtain ⟨ad, cap, hv⟩ := h.shape
  rw [List.length_map] at hv
  subst hv
  go_enter Try.func33, Try.ntmps33
  go_wp2_with fail
  go_ret2
  exact Ret.mk rfl (Below.refl _ _)
set_option maxRecDepth 100000 in
set_option maxHeartbeats 4000000 in
theorem whole_long (v : Value) (bs : List UInt8) (w : World) (h : Bytes w v bs) (hfat : Fat v) (hs : ¬ bs.length < 11) (hlen : bs.length ≤ 1000000) :
    Calls Try.prog 33 #[v] w (FirstPost w (lfirst bs)) := by
  obtain ⟨ad, cap, hv⟩ := h.shape
  rw [List.length_map] at hv
  subst hv
  have hcap := hfat _ _ _ rfl
  obtain ⟨a, rfl, ha0, hc0⟩ := h.cells _ _ _ rfl 0 (by simp; omega)
  obtain ⟨a1, ha1, _, hc1⟩ := h.cells _ _ _ rfl 1 (by simp; omega)
  cases ha1
  obtain ⟨a2, ha2, _, hc2⟩ := h.cells _ _ _ rfl 2 (by simp; omega)
  cases ha2
  simp only [List.getElem_map, vB] at hc0 hc1 hc2
  have hd : decide ((bs.length : Int) < 11) = false := by simp; omega
  have y0 := bs[0].toNat_lt
  have y1 := bs[1].toNat_lt
  have y2 := bs[2].toNat_lt
  have hle : lend bs = bs[0].toNat * 65536 + bs[1].toNat * 256 + bs[2].toNat + 3 := lend_at bs (by omega)
  obtain ⟨n, hn⟩ : ∃ n, n = bs[0].toNat * 65536 + bs[1].toNat * 256 + bs[2].toNat := ⟨_, rfl⟩
  rw [← hn] at hle
  rw [show a.add 0 = a by simp [Addr.add]] at hc0
  have hle2 := Lib.hid (show (bs[0].toNat : Int) * (65536 : Int) + (bs[1].toNat : Int) * (256 : Int) + (bs[2].toNat : Int) = (n : Int) by omega)
  have g0 : ∀ g : Grow w, (up w g).cell? a = some (.int .u8 bs[0].toNat) := fun g => ((up_below w g).cell ha0).trans hc0
  have g1 : ∀ g : Grow w, (up w g).cell? ⟨a.block, a.off + 1, none⟩ = some (.int .u8 bs[1].toNat) := fun g => by have := ((up_below w g).cell (p := a.add 1) (by rw [blk_add]; exact ha0)).trans hc1; simpa [Addr.add] using this
  have g2 : ∀ g : Grow w, (up w g).cell? ⟨a.block, a.off + 2, none⟩ = some (.int .u8 bs[2].toNat) := fun g => by have := ((up_below w g).cell (p := a.add 2) (by rw [blk_add]; exact ha0)).trans hc2; simpa [Addr.add] using this
  have hnb : n < 16777216 := by omega
  by_cases hc : bs.length < lend bs + 8
  · rw [show lfirst bs = none by unfold lfirst; rw [if_neg (by omega), if_pos hc]]
    rw [hle] at hc
    have hq : decide ((bs.length : Int) < (n : Int) + 11) = true := by simp; omega
    clear hle hn hc0 hc1 hc2
    generalize bs[0].toNat = x0 at *
    generalize bs[1].toNat = x1 at *
    generalize bs[2].toNat = x2 at *
    go_enter Try.func33, Try.ntmps33
    go_wp2_with fail
    refine wp_region_up (by kernel_rfl) (by kernel_rfl) ?_
    repeat (go_big_quiet_step (fail))
    refine wpQuiet_nil ?_
    rintro W ⟨g, rfl⟩
    rw [hle2.out]
    clear hle2
    go_wp2_with fail
    go_ret2
    exact ⟨up_below w g, rfl⟩
  · have hfst : lfirst bs = if (bs.drop (n + 3)).take 8 = bytes8 (fnv fnv0 (bs.take (n + 3))) then (lget ((bs.take (n + 3)).drop 3)).map fun l => (l, n + 11) else none := by
      unfold lfirst lmark
      rw [if_neg (by omega), if_neg hc, hle]
    rw [hle] at hc
    rw [hfst]
    have hq : decide ((bs.length : Int) < (n : Int) + 11) = false := by simp; omega
    have r1 := row_sub h (n + 3) (n + 11) cap (by omega) (by omega) (by omega) (by omega)
    have s1 := run_between8 (some a) bs.length cap (n + 3) (n + 11) (by omega) (by omega)
    have r2 := row_sub h 0 (n + 3) cap (by omega) (by omega) (by omega) (by omega)
    have s2 := run_upto8 (some a) bs.length cap (n + 3) (by omega)
    have r3 := row_sub h 3 (n + 3) cap (by omega) (by omega) (by omega) (by omega)
    have s3 := run_between8 (some a) bs.length cap 3 (n + 3) (by omega) (by omega)
    obtain ⟨V1, q1⟩ : ∃ V, V = sliced (some a) (n + 3) (n + 11) cap 1 := ⟨_, rfl⟩
    obtain ⟨V2, q2⟩ : ∃ V, V = sliced (some a) 0 (n + 3) cap 1 := ⟨_, rfl⟩
    obtain ⟨V3, q3⟩ : ∃ V, V = sliced (some a) 3 (n + 3) cap 1 := ⟨_, rfl⟩
    rw [← q1] at r1 s1
    rw [← q2] at r2 s2
    rw [← q3] at r3 s3
    simp only [← List.map_take, ← List.map_drop, List.drop_zero] at r1 r2 r3
    have hl3 : ((bs.take (n + 3)).drop 3).length ≤ 1000000 := by rw [List.length_drop, List.length_take]; omega
    have e18 : (bs.take (n + 11)).drop (n + 3) = (bs.drop (n + 3)).take 8 := by rw [List.drop_take, show n + 11 - (n + 3) = 8 by omega]
    rw [e18] at r1
    clear hle hn hc0 hc1 hc2 hfst q1 q2 q3 e18
    generalize bs[0].toNat = x0 at *
    generalize bs[1].toNat = x1 at *
    generalize bs[2].toNat = x2 at *
    obtain ⟨d, hd'⟩ : ∃ d, d = fnv fnv0 (bs.take (n + 3)) := ⟨_, rfl⟩
    obtain ⟨R, hR⟩ : ∃ R, R = decide ((bs.drop (n + 3)).take 8 = bytes8 d) := ⟨_, rfl⟩
    rw [← hd']
    have hif : (if (bs.drop (n + 3)).take 8 = bytes8 d then (lget ((bs.take (n + 3)).drop 3)).map fun l => (l, n + 11) else none) = if R = true then (lget ((bs.take (n + 3)).drop 3)).map fun l => (l, n + 11) else none := by
      subst hR
      simp
    rw [hif]
    replace hR := Lib.hid hR
    clear hif
    have c3 : ((3 : Int) + (n : Int)) = ((n + 3 : Nat) : Int) := by omega
    have c11 : ((11 : Int) + (n : Int)) = ((n + 11 : Nat) : Int) := by omega
    rw [← c3, ← c11] at s1
    rw [← c3] at s2 s3
    rw [show ((3 : Nat) : Int) = 3 from rfl] at s3
    clear c3 c11
    go_enter Try.func33, Try.ntmps33
    go_wp2_with fail
    refine wp_region_up (by kernel_rfl) (by kernel_rfl) ?_
    repeat (go_big_quiet_step (fail))
    refine wpQuiet_nil ?_
    rintro W ⟨g, rfl⟩
    have hbW := up_below w g
    clear g0 g1 g2
    generalize up w g = W at hbW ⊢
    rw [hle2.out]
    clear hle2
    go_wp2_with fail
    have b5 : IntKind.i64.wrap (3 + (n : Int)) = 3 + (n : Int) := by rw [IntKind.wrap_i64]; omega
    have b6 : IntKind.i64.wrap (11 + (n : Int)) = 11 + (n : Int) := by rw [IntKind.wrap_i64]; omega
    have hSum : ∀ wc, Below W.heap.size W wc → Calls Try.prog 27 #[V2] wc (Ret (.int .u64 (d.toNat : Int)) wc) := fun wc hb => by
      have := refSum_any V2 _ wc (r2.1.below (hbW.trans (hb.mono hbW.size)))
      rw [← hd'] at this
      exact this
    have hByt : ∀ wc, Calls Try.prog 26 #[.int .u64 (d.toNat : Int)] wc _ := fun wc => refBytes_any d wc
    have hSame : ∀ wc V4, Below W.heap.size W wc → Row wc V4 ((bytes8 d).map vB) → Calls Try.prog 12 #[V1, V4] wc (Ret (.bool R) wc) := fun wc V4 hb hr => by
      have := sameBytes_any V1 V4 _ _ wc (r1.1.below (hbW.trans (hb.mono hbW.size))) hr
      rw [hR.out]
      exact this
    clear hd'
    go_region_held3 (fun w' => Below W.heap.size W w') (first | exact Below.refl _ _ | assumption | exact Below.drew (by assumption) | exact Below.drew (Below.refl _ _))
      (first | (go_at_call 27; refine (hSum _ (by assumption)).mono ?_; rintro e wS ⟨rfl, hxS⟩; have hS1 := bel_step (by assumption) hxS) | (go_at_call 26; refine (hByt _).mono ?_; rintro e wB ⟨adB, capB, rfl, hownB, hrB, hxB⟩; have hB1 := bel_step (by assumption) hxB) | (go_at_call 12; refine (hSame _ _ (by assumption) (by assumption)).mono ?_; rintro e wE ⟨rfl, hxE⟩; have hE1 := bel_step (by assumption) hxE))
    have hbE := hbW.trans (hE1.mono hbW.size)
    clear hSum hByt hSame s1 s2 hd hq b6
    cases R with
    | false =>
      go_wp2_with fail
      go_ret2
      exact ⟨hbE, rfl⟩
    | true =>
      have hget := refGet_any V3 _ wE (r3.1.below hbE) r3.2 hl3
      cases hg : lget ((bs.take (n + 3)).drop 3) with
      | none =>
        rw [hg] at hget
        go_wp2_with (first | (go_at_call 16; refine hget.mono ?_; rintro e W3 ⟨hx, rfl⟩))
        go_ret2
        exact ⟨hbE.trans (hx.mono hbE.size), rfl⟩
      | some l =>
        rw [hg] at hget
        go_wp2_with (first | (go_at_call 16; refine hget.mono ?_; rintro e W3 ⟨hx, v3, rfl, hi⟩))
        go_ret2
        exact ⟨hbE.trans (hx.mono hbE.size), _, by first | rfl | (congr 3; push_cast; omega), hi⟩
theorem whole_any (v : Value) (bs : List UInt8) (w : World) (h : Bytes w v bs) (hfat : Fat v) (hlen : bs.length ≤ 1000000) :
    Calls Try.prog 33 #[v] w (FirstPost w (lfirst bs)) := by
  by_cases hs : bs.length < 11
  · rw [show lfirst bs = none by
      unfold lfirst
      by_cases h3 : bs.length < 3
      · rw [if_pos h3]
      · rw [if_neg h3, if_pos (by unfold lend; omega)]]
    exact (whole_short v bs w h hs).mono fun e w' ⟨h1, h2⟩ => ⟨h2, h1⟩
  · exact whole_long v bs w h hfat hs hlen

theorem refFrames_over (v : Value) (bs : List UInt8) (w : World) (h : Bytes w v bs) (hlen : 200000 < bs.length) :
    Calls Try.prog 19 #[v] w (Same (.tuple #[.slice none 0 0, .int .i64 0, .int .i64 2]) w) := by
  obtain ⟨ad, cap, hv⟩ := h.shape
  rw [List.length_map] at hv
  subst hv
  go_enter Try.func19, Try.ntmps19
  go_wp2_with fail
  go_ret3
  exact Same.mk rfl rfl
set_option maxRecDepth 100000 in
set_option maxHeartbeats 4000000 in
theorem refFrames_any (v : Value) (bs : List UInt8) (w : World) (h : Bytes w v bs) (hfat : Fat v) (hlen : bs.length ≤ 200000) :
    Calls Try.prog 19 #[v] w fun e w' => ∃ v' vs, e = .returned (.tuple #[v', .int .i64 ((lframes bs).2 : Int), .int .i64 0]) ∧ OwnRow w' w.heap.size 22 v' vs ∧ VsT w' vs (lframes bs).1 ∧ Below w.heap.size w w' := by
  obtain ⟨ad, cap, hv⟩ := h.shape
  rw [List.length_map] at hv
  subst hv
  have hcap := hfat _ _ _ rfl
  have hq : decide (200000 < (bs.length : Int)) = false := by simp; omega
  go_enter Try.func19, Try.ntmps19
  go_wp2_with fail
  go_loopw [5, 6] (fun v5 i wr => ∃ (N : Nat) (L : List (List Int)) (vs : List Value), i = .int .i64 (N : Int) ∧ N ≤ bs.length ∧ lframes bs = (L ++ (lframes (bs.drop N)).1, N + (lframes (bs.drop N)).2) ∧ L.length ≤ N ∧
      OwnRow wr w.heap.size 22 v5 vs ∧ VsT wr vs L ∧ Below w.heap.size w wr) (fun _ i _ => bs.length - (intOf i).toNat)
  case atStart => exact ⟨0, [], [], rfl, by omega, by simp, by simp, OwnRow.nil _ _ _, VsT.nil _, Below.refl _ _⟩
  case round =>
    obtain ⟨N, L, vs, rfl, hN, hfr, hL, hown, hvs, hb⟩ := hrel
    replace hfr := Lib.hid hfr
    have hrow := row_sub h N bs.length cap hN (Nat.le_refl _) hcap (Nat.le_refl _)
    have hsl := run_from8 ad bs.length cap N hN
    have hsh : ∃ ad' n' cap', sliced ad N bs.length cap 1 = .slice ad' n' cap' := ⟨_, _, _, rfl⟩
    obtain ⟨ad', n', cap', hs⟩ := hsh
    rw [hs] at hrow hsl
    clear hs
    rw [List.take_of_length_le (by simp), ← List.map_drop] at hrow
    have hft := whole_any _ (bs.drop N) wr (hrow.1.below hb) hrow.2 (by rw [List.length_drop]; omega)
    cases hf : lfirst (bs.drop N) with
    | none =>
      rw [hf] at hft
      go_wp2_with (go_at_call 33; refine hft.mono ?_; rintro e w2 ⟨hx2, rfl⟩)
      go_ret3
      have := hfr.out
      rw [lframes_none hf, List.append_nil, Nat.add_zero] at this
      rw [this]
      exact ⟨_, _, rfl, own_below hown hx2, hvs.below hx2, hb.trans (hx2.mono hb.size)⟩
    | some p =>
      rw [hf] at hft
      have hsz := lfirst_size hf
      rw [List.length_drop] at hsz
      obtain ⟨l, n⟩ := p
      simp only at hsz
      have hn0 : ((n : Int) == 0) = false := by simp; omega
      have hvl := hvs.1
      go_wp2_with (first | (go_at_call 33; refine hft.mono ?_; rintro e w2 ⟨hx2, v2, rfl, hi2⟩; obtain ⟨ad2, cap2, rfl⟩ := hi2.shape; have hown2 := own_below hown (hx2.trans ((Below.refl _ w2).alloc hx2.size (.cells #[.slice ad2 l.length cap2] 22))); have hs2 := hx2.size; have hbs := hb.size) | (at_builtin; go_loud (refine app_grown _ rfl _ _ 32 rfl w.heap.size 22 (.slice none 0 0) 24 Try.underlying32 Try.infoInts rfl (by decide) _ vs rfl hown2 _ _ _ [.slice ad2 l.length cap2] rfl (one_row (.slice ad2 l.length cap2) _) (by intro u hu; simp at hu; subst hu; rfl) (by simp; omega) (by simp; omega) ?_; intro v4 w4 hown4 hg4 hx4; refine Hid.out ?_)))
      refine Lib.hid ?_
      go_wp2_with fail
      go_roundw
      case rel =>
        have hal := (Below.refl w2.heap.size w2).alloc (Nat.le_refl _) (.cells #[.slice ad2 l.length cap2] 22)
        refine ⟨N + n, L ++ [l], _, by congr 1, by omega, ?_, by simp; omega, hown4, ((hvs.below (hx2.trans (hal.mono hx2.size))).grown hown2 hg4).snoc ((hi2.below hal).grown hown2 hg4), ?_⟩
        · rw [hfr.out, lframes_some hf]
          simp only [List.drop_drop, List.append_assoc, List.singleton_append, Nat.add_assoc]
        · exact (hb.trans ((hx2.trans (hal.mono hx2.size)).mono hb.size)).trans hx4
      case measure => simp [intOf]; omega
end Go.Proofs.Ytpgnlmhkigpjgaa
