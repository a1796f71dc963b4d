/-
  What is small; the frames of lists, one after the other.
-/
import Derived.Test.YtpgnlmhkigpjgaaCodHead
namespace Go.Proofs.Ytpgnlmhkigpjgaa
open Go.RowKit

def smallF (l : List (List Int)) : Bool := (l.take 20).all (fun x => decide (x.length ≤ 30)) && decide (l.length ≤ 10)
theorem small_out {l : List (List Int)} (h : smallF l = true) : l.length ≤ 10 ∧ ∀ x ∈ l, x.length ≤ 30 := by
  unfold smallF at h
  simp only [Bool.and_eq_true, decide_eq_true_eq, List.all_eq_true] at h
  obtain ⟨h1, h2⟩ := h
  rw [List.take_of_length_le (by omega)] at h1
  exact ⟨h2, h1⟩
theorem small_bad {l : List (List Int)} {n : Nat} (hn : n < l.length) (h20 : n < 20) (h : 30 < l[n].length) : smallF l = false := by
  unfold smallF
  have : (l.take 20).all (fun x => decide (x.length ≤ 30)) = false := by
    rw [List.all_eq_false]
    refine ⟨l[n], ?_, by simp; omega⟩
    rw [List.mem_take_iff_getElem]
    exact ⟨n, by omega, rfl⟩
  rw [this]
  rfl
theorem small_end {l : List (List Int)} {n : Nat} (hn : n = l.length ∨ n = 20) (hle : n ≤ l.length) (h : ∀ x ∈ l.take n, x.length ≤ 30) : smallF l = decide (l.length ≤ 10) := by
  unfold smallF
  have : (l.take 20).all (fun x => decide (x.length ≤ 30)) = true ∨ ¬ l.length ≤ 10 := by
    rcases hn with rfl | rfl
    · refine .inl ?_
      rw [List.all_eq_true]
      intro x hx
      rw [List.take_length] at h
      simpa using h x (List.mem_of_mem_take hx)
    · exact .inr (by omega)
  rcases this with h1 | h1
  · rw [h1]; simp
  · simp [h1]
set_option maxRecDepth 100000 in
theorem small_any (v : Value) (l : List (List Int)) (w : World) (h : Lists w v l) : Calls Try.prog 21 #[v] w (Same (.bool (smallF l)) w) := by
  obtain ⟨vs, hr, hvl, hvi⟩ := h
  have hla := hr.short
  obtain ⟨ad, cap, hv⟩ := hr.shape
  have hca := hr.cells _ _ _ hv
  rw [hvl] at hv hla
  subst hv
  go_enter Try.func21, Try.ntmps21
  go_wp2_with fail
  go_loopw [3] (fun i wr => ∃ n : Nat, n ≤ l.length ∧ n ≤ 20 ∧ i = .int .i64 (n : Int) ∧ wr = w ∧ ∀ x ∈ l.take n, x.length ≤ 30) (fun i _ => l.length - (intOf i).toNat)
  case atStart => exact ⟨0, by omega, by omega, rfl, rfl, by simp⟩
  case round =>
    obtain ⟨n, hn, hn20, rfl, rfl, hall⟩ := hrel
    by_cases hna : n < l.length
    · have q1 : decide ((n : Int) < l.length) = true := by simp; omega
      by_cases h20 : n < 20
      · have q2 : decide ((n : Int) < 20) = true := by simp; omega
        obtain ⟨p, rfl, hp0, hc⟩ := hca n (by omega)
        have i1 := hvi n (by omega) hna
        obtain ⟨ad3, cap3, e3⟩ := i1.1.shape
        simp only [e3, List.length_map] at hc
        by_cases h30 : 30 < l[n].length
        · have q3 : decide (30 < (l[n].length : Int)) = true := by simp; omega
          have hb := Lib.hid (small_bad hna h20 h30)
          clear e3 i1 h30
          generalize l[n].length = la at *
          go_wp2_with fail
          go_ret
          rw [hb.out]
          exact Same.mk rfl rfl
        · have q3 : decide (30 < (l[n].length : Int)) = false := by simp; omega
          have hnext : ∀ x ∈ l.take (n + 1), x.length ≤ 30 := by
            intro x hx
            rw [List.take_succ_eq_append_getElem hna] at hx
            rcases List.mem_append.1 hx with hx | hx
            · exact hall x hx
            · rw [List.mem_singleton] at hx; subst hx; omega
          clear e3 i1 h30
          generalize l[n].length = la at *
          go_wp2_with fail
          go_roundw
          case rel => exact ⟨n + 1, by omega, by omega, by go_num, trivial, hnext⟩
          case measure => simp [intOf]; omega
      · have q2 : decide ((n : Int) < 20) = false := by simp; omega
        have he := Lib.hid (small_end (.inr (by omega)) (by omega) hall)
        go_wp2_with fail
        go_ret
        rw [he.out]
        exact Same.mk (by simp; omega) rfl
    · have q1 : decide ((n : Int) < l.length) = false := by simp; omega
      have he := Lib.hid (small_end (.inl (by omega)) (by omega) hall)
      go_wp2_with fail
      go_ret
      rw [he.out]
      exact Same.mk (by simp; omega) rfl

theorem own_ne {w : World} {b1 b2 : Nat} {e1 e2 : TypeId} {v1 v2 : Value} {xs ys : List Value} (h1 : OwnRow w b1 e1 v1 xs) (h2 : OwnRow w b2 e2 v2 ys) (hne : e1 ≠ e2) : v1.ownBlock = none ∨ v1.ownBlock ≠ v2.ownBlock := by
  obtain ⟨_, ⟨rfl, _⟩ | ⟨g, cap, cur, rfl, _, hh, _⟩⟩ := h1
  · exact .inl rfl
  · refine .inr ?_
    obtain ⟨_, ⟨rfl, _⟩ | ⟨g2, cap2, cur2, rfl, _, hh2, _⟩⟩ := h2
    · intro e; cases e
    · intro e
      cases e
      rw [hh] at hh2
      cases hh2
      exact hne rfl
theorem own_kept {w w' : World} {b1 b2 : Nat} {e1 e2 : TypeId} {v1 v2 : Value} {xs ys : List Value} (h1 : OwnRow w b1 e1 v1 xs) (h2 : OwnRow w b2 e2 v2 ys) (hne : e1 ≠ e2) (hg : w.grownBy w' v2.ownBlock) : OwnRow w' b1 e1 v1 xs :=
  World.ownsRow.kept h1 hg (own_ne h1 h2 hne)
/-- where each frame ends -/
def endsF (ls : List (List Int)) (n : Nat) : List Int := (List.range n).map fun i => (flen ls (i + 1) : Int)
theorem endsF_succ (ls : List (List Int)) (n : Nat) : endsF ls (n + 1) = endsF ls n ++ [(flen ls (n + 1) : Int)] := by
  unfold endsF; rw [List.range_succ, List.map_append]; rfl
theorem endsF_len (ls : List (List Int)) (n : Nat) : (endsF ls n).length = n := by simp [endsF]
theorem lframe_small {l : List Int} (h : l.length ≤ 30) (hi : ∀ x ∈ l, I64 x) : (lframe l).length ≤ 400 := by
  rw [lframe_len]
  have h1 := flat_len l hi
  have h2 := enc_len (n := l.length) ⟨by omega, by omega⟩
  unfold lput
  rw [List.length_append]
  omega
theorem flen_small {ls : List (List Int)} (h : ∀ l ∈ ls, l.length ≤ 30 ∧ ∀ x ∈ l, I64 x) : ∀ n, n ≤ ls.length → flen ls n ≤ 400 * n
  | 0, _ => by simp [flen]
  | n + 1, hn => by
    rw [flen_succ (by omega)]
    have h1 := flen_small h n (by omega)
    have h2 := lframe_small (h ls[n] (List.getElem_mem _)).1 (h ls[n] (List.getElem_mem _)).2
    omega
set_option maxRecDepth 100000 in
set_option maxHeartbeats 4000000 in
theorem frames_any (v : Value) (ls : List (List Int)) (w : World) (h : Lists w v ls) (hn10 : ls.length ≤ 10) (h30 : ∀ x ∈ ls, x.length ≤ 30) (h64 : ∀ l ∈ ls, ∀ x ∈ l, I64 x) :
    Calls Try.prog 22 #[v] w fun e w' => ∃ v1 v2, e = .returned (.tuple #[v1, v2, .bool true]) ∧ OwnRow w' w.heap.size 5 v1 ((ls.flatMap lframe).map vB) ∧ OwnRow w' w.heap.size 3 v2 ((endsF ls ls.length).map (.int .i64)) ∧ Below w.heap.size w w' := by
  have hsm := flen_small (ls := ls) fun l hl => ⟨h30 l hl, h64 l hl⟩
  obtain ⟨vs, hr, hvl, hvi⟩ := h
  obtain ⟨ad, cap, hv⟩ := hr.shape
  have hca := hr.cells _ _ _ hv
  rw [hvl] at hv
  subst hv
  go_enter Try.func22, Try.ntmps22
  go_wp2_with fail
  go_loopw [5, 6, 7] (fun o e i wr => ∃ n : Nat, n ≤ ls.length ∧ i = .int .i64 (n : Int) ∧ OwnRow wr w.heap.size 5 o (((ls.take n).flatMap lframe).map vB) ∧ OwnRow wr w.heap.size 3 e ((endsF ls n).map (.int .i64)) ∧ Below w.heap.size w wr) (fun _ _ i _ => ls.length - (intOf i).toNat)
  case atStart => exact ⟨0, by omega, rfl, OwnRow.nil _ _ _, OwnRow.nil _ _ _, Below.refl _ _⟩
  case round =>
    obtain ⟨n, hn, rfl, ho, he, hb⟩ := hrel
    have hbs := hb.size
    by_cases hna : n < ls.length
    · have q1 : decide ((n : Int) < ls.length) = true := by simp; omega
      obtain ⟨p, rfl, hp0, hc⟩ := hca n (by omega)
      replace hc := (hb.cell (p := p.add n) (by rw [blk_add]; exact hp0)).trans hc
      have i1 := hvi n (by omega) hna
      have hm1 := hsm n (by omega)
      have hm2 := hsm (n + 1) hna
      have hfs := flen_succ hna
      have hes := endsF_succ ls n
      have hf := Frame_any _ _ wr (i1.below hb) (by have := h30 ls[n] (List.getElem_mem hna); omega)
      have hfl : 12 ≤ (lframe ls[n]).length := by rw [lframe_len]; unfold lput; rw [List.length_append]; have := leb_pos (num (ls[n].length : Int)); unfold enc; omega
      have hfm : (ls.take (n + 1)).flatMap lframe = (ls.take n).flatMap lframe ++ lframe ls[n] := by
        rw [List.take_succ_eq_append_getElem hna, List.flatMap_append]; simp
      have hacc : ((ls.take n).flatMap lframe).length = flen ls n := rfl
      have hel := endsF_len ls n
      generalize lframe ls[n] = fr at *
      generalize (ls.take n).flatMap lframe = acc at *
      generalize endsF ls n = en at *
      generalize flen ls n = fn at *
      replace hes := Lib.hid hes
      replace hfm := Lib.hid hfm
      have q9 : decide ((fr.length : Int) < 12) = false := by simp; omega
      go_wp2_with (first | (go_at_call 13; refine hf.mono ?_; rintro e w2 ⟨v2, rfl, hown2, hx2⟩; obtain ⟨g2, cap2, rfl, hcp2⟩ := own_some hown2 (by rw [List.length_map]; omega); have hr2 := Row.of_own hown2 (by rw [List.length_map]; omega)) | (at_builtin; refine Hid.out ?_))
      simp only [List.length_map] at hcp2 hr2 ⊢
      have ho2 := own_below ho hx2
      have he2 := own_below he hx2
      have hb2 := bel_step hb hx2
      have hs2 := hb2.size
      refine Lib.hid ?_
      go_wp2_with (at_builtin; go_loud (refine app_grown _ rfl _ _ 23 rfl w.heap.size 5 (.int .u8 0) 1 Try.underlying23 Try.infoU8 rfl (by decide) _ (acc.map vB) rfl ho2 _ _ _ (fr.map vB) rfl hr2 byte_one (by simp; omega) hs2 ?_; intro v3 w3 ho3 hg3 hx3; refine Hid.out ?_))
      refine Lib.hid ?_
      have he3 := own_kept he2 ho2 (by decide) hg3
      rw [← List.map_append] at ho3
      have ho3' := ho3
      obtain ⟨g3, cap3, e3, hcp3⟩ := own_some ho3 (by simp; omega)
      subst e3
      simp only [List.length_map] at ho3' hcp3 ⊢
      have hb3 := hb2.trans hx3
      have hs3 := hb3.size
      have hen : ((fn : Int) + (fr.length : Int)) = ((flen ls (n + 1) : Nat) : Int) := by omega
      replace hen := Lib.hid hen
      have hal := (Below.refl w3.heap.size w3).alloc (Nat.le_refl _) (.cells #[.int .i64 ((fn : Int) + (fr.length : Int))] 3)
      have he3' := own_below he3 hal
      have ho3'' := own_below ho3' hal
      clear hfs
      go_wp2_with (at_builtin; go_loud (refine app_grown _ rfl _ _ 22 rfl w.heap.size 3 (.int .i64 0) 8 Try.underlying22 Try.infoInt rfl (by decide) _ (en.map (.int .i64)) rfl he3' _ _ _ [.int .i64 ((fn : Int) + (fr.length : Int))] rfl (one_row _ _) (by intro u hu; simp at hu; subst hu; rfl) (by simp; omega) (by simp; omega) ?_; intro v4 w4 he4 hg4 hx4; refine Hid.out ?_))
      refine Lib.hid ?_
      have ho4 := own_kept ho3'' he3' (by decide) hg4
      rw [List.length_append, hacc] at ho4
      go_wp2_with fail
      go_roundw
      case rel => exact ⟨n + 1, by omega, by go_num, by rw [hfm.out]; exact ho4, by rw [hes.out, ← hen.out, List.map_append]; exact he4, (hb3.trans (hal.mono hs3)).trans hx4⟩
      case measure => simp [intOf]; omega
    · have q1 : decide ((n : Int) < ls.length) = false := by simp; omega
      have e : n = ls.length := by omega
      subst e
      rw [List.take_length] at ho
      go_wp2_with fail
      go_ret3
      exact ⟨_, _, rfl, ho, he, hb⟩
end Go.Proofs.Ytpgnlmhkigpjgaa
