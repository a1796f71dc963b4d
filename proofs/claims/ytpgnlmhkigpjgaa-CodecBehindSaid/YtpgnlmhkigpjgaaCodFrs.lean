/-
  The program: Frames.
-/
import Derived.Test.YtpgnlmhkigpjgaaCodFst
namespace Go.Proofs.Ytpgnlmhkigpjgaa
open Go.RowKit

section
variable {ops : Array Oper} {rest : List Oper} {o : Oper} {a : Act} {Q : Exit → Act → World → Prop}
theorem app_grown (w : World) (hgd : o.guard = none) (s x : Operand) (t : TypeId) (ho : o.op = .call { callee := .builtin .append, args := #[s, x], argTypes := #[t, t] })
    (base : Nat) (e : TypeId) (z : Value) (bytes : Nat) (ht : Try.prog.underlying t = some (.slice e)) (hi : (Try.prog.info? e).map (fun i => (i.zero, i.size, i.bytes)) = some (some z, 1, bytes)) (hz : z.cells.size = 1) (h24 : bytes ≤ 24)
    (v : Value) (xs : List Value) (hs : a.eval s = v) (hown : OwnRow w base e v xs) (ad : Addr) (n c : Nat) (ys : List Value) (hx : a.eval x = .slice (some ad) n c) (hr : Row w (.slice (some ad) n c) ys) (h1 : ∀ u ∈ ys, u.oneCell' = true)
    (hlim : xs.length + ys.length ≤ 1000000000) (hB : base ≤ w.heap.size)
    (h : ∀ v' w', OwnRow w' base e v' (xs ++ ys) → w.grownBy w' v.ownBlock → Below base w w' → wpList Try.prog ops Q rest (a.put o.dst v') w') : wpList Try.prog ops Q (o :: rest) a w := by
  obtain ⟨i, hi, hz0, hz1, hz2⟩ := info_parts hi
  have hn : n = ys.length := by obtain ⟨_, _, e⟩ := hr.shape; cases e; rfl
  refine wpList_append_own w hgd s x t ho base e i z 1 bytes ht hi hz0 hz1 hz2 hz (by decide) v xs.length xs hs hown ad ys.length c ys (by rw [hx, hn]) (by simp) ?_ h1 (by unfold maxLen; omega) (by have := Nat.mul_le_mul hlim h24; omega) hB ?_
  · intro j u hj
    obtain ⟨hl, rfl⟩ := List.getElem?_eq_some_iff.1 hj
    obtain ⟨a', e', _, hc⟩ := hr.cells _ _ _ rfl j hl
    cases e'; exact hc
  · intro v' w' hown' hg _
    exact h v' w' (by unfold OwnRow; rw [List.length_append]; exact hown') hg (grown_below hown hg hB)
end
theorem int_ne : 3 ≠ 22 := by decide
theorem IntsT.grown {w w' : World} {u v : Value} {l : List Int} {base : Nat} {xs : List Value} (h : IntsT w u l) (ho : OwnRow w base 22 v xs) (hg : w.grownBy w' v.ownBlock) : IntsT w' u l := by
  obtain ⟨⟨hr, hi⟩, ht⟩ := h
  rcases ht with rfl | ⟨B, n, c, rfl, hn, ht⟩
  · refine ⟨⟨⟨hr.shape, fun ad n cap e i h => ?_, hr.short, hr.bare⟩, hi⟩, .inl rfl⟩
    obtain ⟨a, ha, _⟩ := hr.cells ad n cap e i h
    cases e; cases ha
  · have hB : w'.heap[B]? = w.heap[B]? := by
      refine hg.block B ht.lt fun e => ?_
      obtain ⟨_, ⟨rfl, _⟩ | ⟨g, cap', cur, rfl, _, hh, _⟩⟩ := ho
      · cases e
      · cases e
        obtain ⟨cc, hc⟩ := ht
        rw [hc] at hh
        cases hh
    refine ⟨⟨⟨hr.shape, fun ad n cap e i h => ?_, hr.short, hr.bare⟩, hi⟩, .inr ⟨B, n, c, rfl, hn, ht.of hB⟩⟩
    obtain ⟨a, ha, hab, hc⟩ := hr.cells ad n cap e i h
    cases e; cases ha
    refine ⟨_, rfl, Nat.lt_of_lt_of_le hab hg.size, ?_⟩
    rw [World.cell?_of_block (w := w) (by rw [blk_add]; exact hB)]
    exact hc
def VsT (w : World) (vs : List Value) (l : List (List Int)) : Prop := vs.length = l.length ∧ ∀ i (h : i < vs.length) (h2 : i < l.length), IntsT w vs[i] l[i]
theorem VsT.nil (w : World) : VsT w [] [] := ⟨rfl, fun i h => by simp at h⟩
theorem VsT.below {w w1 : World} {vs : List Value} {l : List (List Int)} (h : VsT w vs l) (hb : Below w.heap.size w w1) : VsT w1 vs l := ⟨h.1, fun i h1 h2 => (h.2 i h1 h2).below hb⟩
theorem VsT.grown {w w' : World} {v : Value} {base : Nat} {xs : List Value} {vs : List Value} {l : List (List Int)} (h : VsT w vs l) (ho : OwnRow w base 22 v xs) (hg : w.grownBy w' v.ownBlock) : VsT w' vs l := ⟨h.1, fun i h1 h2 => (h.2 i h1 h2).grown ho hg⟩
theorem VsT.plain {w : World} {vs : List Value} {l : List (List Int)} (h : VsT w vs l) : Vs w vs l := ⟨h.1, fun i h1 h2 => (h.2 i h1 h2).1⟩
theorem VsT.snoc {w : World} {vs : List Value} {l : List (List Int)} {u : Value} {x : List Int} (h : VsT w vs l) (k : IntsT w u x) : VsT w (vs ++ [u]) (l ++ [x]) := by
  refine ⟨by simp [h.1], fun i h1 h2 => ?_⟩
  by_cases hi : i < vs.length
  · rw [List.getElem_append_left hi, List.getElem_append_left (by rw [← h.1]; exact hi)]
    exact h.2 i hi _
  · have e : i = vs.length := by simp at h1; omega
    subst e
    rw [List.getElem_append_right (Nat.le_refl _), List.getElem_append_right (by rw [h.1]; exact Nat.le_refl _)]
    simp only [h.1, Nat.sub_self, List.getElem_cons_zero]
    exact k
theorem IntsT.shape {w : World} {u : Value} {x : List Int} (h : IntsT w u x) : ∃ ad cap, u = .slice ad x.length cap := by
  obtain ⟨ad, cap, e⟩ := h.1.1.shape
  rw [List.length_map] at e
  exact ⟨ad, cap, e⟩
theorem IntsT.one {w : World} {u : Value} {x : List Int} (h : IntsT w u x) : u.oneCell' = true := by
  obtain ⟨ad, cap, e⟩ := h.1.1.shape
  rw [e]; rfl

theorem Frames_over (v : Value) (bs : List UInt8) (w : World) (h : Bytes w v bs) (hlen : 200000 < bs.length) :
    Calls Try.prog 18 #[v] w (Same (.tuple #[.slice none 0 0, .int .i64 0, .int .i64 2]) w) := by
  obtain ⟨ad, cap, hv⟩ := h.shape
  rw [List.length_map] at hv
  subst hv
  go_enter Try.func18, Try.ntmps18
  go_wp2_with fail
  go_ret3
  exact Same.mk rfl rfl
set_option maxRecDepth 100000 in
set_option maxHeartbeats 4000000 in
theorem Frames_any (v : Value) (bs : List UInt8) (w : World) (h : Bytes w v bs) (hfat : Fat v) (hlen : bs.length ≤ 200000) :
    Calls Try.prog 18 #[v] w fun e w' => ∃ v' vs, e = .returned (.tuple #[v', .int .i64 ((lframes bs).2 : Int), .int .i64 0]) ∧ OwnRow w' w.heap.size 22 v' vs ∧ VsT w' vs (lframes bs).1 ∧ Below w.heap.size w w' := by
  obtain ⟨ad, cap, hv⟩ := h.shape
  rw [List.length_map] at hv
  subst hv
  have hcap := hfat _ _ _ rfl
  have hq : decide (200000 < (bs.length : Int)) = false := by simp; omega
  go_enter Try.func18, Try.ntmps18
  go_wp2_with fail
  go_loopw [5, 6] (fun v5 i wr => ∃ (N : Nat) (L : List (List Int)) (vs : List Value), i = .int .i64 (N : Int) ∧ N ≤ bs.length ∧ lframes bs = (L ++ (lframes (bs.drop N)).1, N + (lframes (bs.drop N)).2) ∧ L.length ≤ N ∧
      OwnRow wr w.heap.size 22 v5 vs ∧ VsT wr vs L ∧ Below w.heap.size w wr) (fun _ i _ => bs.length - (intOf i).toNat)
  case atStart => exact ⟨0, [], [], rfl, by omega, by simp, by simp, OwnRow.nil _ _ _, VsT.nil _, Below.refl _ _⟩
  case round =>
    obtain ⟨N, L, vs, rfl, hN, hfr, hL, hown, hvs, hb⟩ := hrel
    replace hfr := Lib.hid hfr
    have hrow := row_sub h N bs.length cap hN (Nat.le_refl _) hcap (Nat.le_refl _)
    have hsl := run_from8 ad bs.length cap N hN
    have hsh : ∃ ad' n' cap', sliced ad N bs.length cap 1 = .slice ad' n' cap' := ⟨_, _, _, rfl⟩
    obtain ⟨ad', n', cap', hs⟩ := hsh
    rw [hs] at hrow hsl
    clear hs
    rw [List.take_of_length_le (by simp), ← List.map_drop] at hrow
    have hft := first_any _ (bs.drop N) wr (hrow.1.below hb) hrow.2 (by rw [List.length_drop]; omega)
    cases hf : lfirst (bs.drop N) with
    | none =>
      rw [hf] at hft
      go_wp2_with (go_at_call 32; refine hft.mono ?_; rintro e w2 ⟨hx2, rfl⟩)
      go_ret3
      have := hfr.out
      rw [lframes_none hf, List.append_nil, Nat.add_zero] at this
      rw [this]
      exact ⟨_, _, rfl, own_below hown hx2, hvs.below hx2, hb.trans (hx2.mono hb.size)⟩
    | some p =>
      rw [hf] at hft
      have hsz := lfirst_size hf
      rw [List.length_drop] at hsz
      obtain ⟨l, n⟩ := p
      simp only at hsz
      have hn0 : ((n : Int) == 0) = false := by simp; omega
      have hvl := hvs.1
      go_wp2_with (first | (go_at_call 32; refine hft.mono ?_; rintro e w2 ⟨hx2, v2, rfl, hi2⟩; obtain ⟨ad2, cap2, rfl⟩ := hi2.shape; have hown2 := own_below hown (hx2.trans ((Below.refl _ w2).alloc hx2.size (.cells #[.slice ad2 l.length cap2] 22))); have hs2 := hx2.size; have hbs := hb.size) | (at_builtin; go_loud (refine app_grown _ rfl _ _ 32 rfl w.heap.size 22 (.slice none 0 0) 24 Try.underlying32 Try.infoInts rfl (by decide) _ vs rfl hown2 _ _ _ [.slice ad2 l.length cap2] rfl (one_row (.slice ad2 l.length cap2) _) (by intro u hu; simp at hu; subst hu; rfl) (by simp; omega) (by simp; omega) ?_; intro v4 w4 hown4 hg4 hx4; refine Hid.out ?_)))
      refine Lib.hid ?_
      go_wp2_with fail
      go_roundw
      case rel =>
        have hal := (Below.refl w2.heap.size w2).alloc (Nat.le_refl _) (.cells #[.slice ad2 l.length cap2] 22)
        refine ⟨N + n, L ++ [l], _, by congr 1, by omega, ?_, by simp; omega, hown4, ((hvs.below (hx2.trans (hal.mono hx2.size))).grown hown2 hg4).snoc ((hi2.below hal).grown hown2 hg4), ?_⟩
        · rw [hfr.out, lframes_some hf]
          simp only [List.drop_drop, List.append_assoc, List.singleton_append, Nat.add_assoc]
        · exact (hb.trans ((hx2.trans (hal.mono hx2.size)).mono hb.size)).trans hx4
      case measure => simp [intOf]; omega
end Go.Proofs.Ytpgnlmhkigpjgaa
