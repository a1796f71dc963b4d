/-
  The reference's Has, Deep, Same; span.Count, Weekday; one.
-/
import Derived.Test.YtfhhkbijcleedaaSpanRef
namespace Go.Proofs.Ytfhhkbijcleedaa
open Go.RowKit

set_option maxHeartbeats 800000 in
theorem has_any (v : Value) (l : List Sp) (n : Int) (w : World) (h : Spans w v l) : Calls Try.prog 27 #[v, .int .i64 n] w (Ret (.bool (has l n)) w) := by
  obtain ⟨ad, cap, rfl, hc⟩ := h.open
  have hlen := h.short
  clear h
  go_enter Try.func27, Try.ntmps27
  go_wp2_with fail
  go_loopw [5] (fun i wr => ∃ k : Nat, k ≤ l.length ∧ i = .int .i64 k ∧ has l n = has (l.drop k) n ∧ Below w.heap.size w wr)
    (fun i _ => l.length - (intOf i).toNat)
  case atStart => exact ⟨0, by omega, rfl, rfl, Below.refl _ _⟩
  case round =>
    obtain ⟨k, hk, rfl, hv, hb⟩ := hrel
    by_cases hkl : k < l.length
    · obtain ⟨a, rfl, hab, hc0, hc1⟩ := hc k hkl
      have hr0 := (hb.cell (p := a.add (k * 2)) (by rw [blk_add]; exact hab)).trans hc0
      have hr1 := (hb.cell (p := a.add (k * 2 + 1)) (by rw [blk_add]; exact hab)).trans hc1
      rw [add_succ] at hr1
      rw [drop_cons hkl, has_cons] at hv
      generalize l[k] = s at hr0 hr1 hv
      cases hi : isIn n s with
      | true =>
        rw [hi, Bool.true_or] at hv
        simp [isIn] at hi
        obtain ⟨hi1, hi2⟩ := hi
        go_wp2_with fail
        go_ret
        exact Ret.mk (by rw [hv]; rfl) hb
      | false =>
        rw [hi, Bool.false_or] at hv
        have hi' : n < s.1 ∨ (s.1 ≤ n ∧ s.2 ≤ n) := by simp [isIn] at hi; omega
        rcases hi' with hi1 | ⟨hi1, hi2⟩
        · go_wp2_with fail
          go_roundw
          case rel => exact ⟨k + 1, by omega, by go_num, hv, hb⟩
          case measure => simp [intOf]; omega
        · go_wp2_with fail
          go_roundw
          case rel => exact ⟨k + 1, by omega, by go_num, hv, hb⟩
          case measure => simp [intOf]; omega
    · go_wp2_with fail
      go_ret
      refine Ret.mk ?_ hb
      rw [hv, List.drop_eq_nil_of_le (by omega)]; rfl

set_option maxHeartbeats 800000 in
theorem deep_any (v : Value) (l : List Sp) (n : Int) (w : World) (h : Spans w v l) : Calls Try.prog 28 #[v, .int .i64 n] w (Ret (.int .i64 (deep l n)) w) := by
  obtain ⟨ad, cap, rfl, hc⟩ := h.open
  have hlen := h.short
  clear h
  go_enter Try.func28, Try.ntmps28
  go_wp2_with fail
  go_loopw [5, 6] (fun m i wr => ∃ (k : Nat) (x : Int), k ≤ l.length ∧ i = .int .i64 k ∧ m = .int .i64 x ∧ 0 ≤ x ∧ x ≤ k ∧ deep l n = x + deep (l.drop k) n ∧ Below w.heap.size w wr)
    (fun _ i _ => l.length - (intOf i).toNat)
  case atStart => exact ⟨0, 0, by omega, rfl, rfl, by omega, by omega, by simp, Below.refl _ _⟩
  case round =>
    obtain ⟨k, x, hk, rfl, rfl, hx0, hx1, hv, hb⟩ := hrel
    by_cases hkl : k < l.length
    · obtain ⟨a, rfl, hab, hc0, hc1⟩ := hc k hkl
      have hr0 := (hb.cell (p := a.add (k * 2)) (by rw [blk_add]; exact hab)).trans hc0
      have hr1 := (hb.cell (p := a.add (k * 2 + 1)) (by rw [blk_add]; exact hab)).trans hc1
      rw [add_succ] at hr1
      rw [drop_cons hkl, deep] at hv
      generalize l[k] = s at hr0 hr1 hv
      cases hi : isIn n s with
      | true =>
        rw [hi] at hv
        simp [isIn] at hi
        obtain ⟨hi1, hi2⟩ := hi
        go_wp2_with fail
        go_roundw
        case rel => exact ⟨k + 1, x + 1, by omega, by go_num, by go_num, by omega, by omega, by rw [hv]; simp; omega, hb⟩
        case measure => simp [intOf]; omega
      | false =>
        rw [hi] at hv
        have hi' : n < s.1 ∨ (s.1 ≤ n ∧ s.2 ≤ n) := by simp [isIn] at hi; omega
        rcases hi' with hi1 | ⟨hi1, hi2⟩
        · go_wp2_with fail
          go_roundw
          case rel => exact ⟨k + 1, x, by omega, by go_num, by go_num, by omega, by omega, by rw [hv]; simp, hb⟩
          case measure => simp [intOf]; omega
        · go_wp2_with fail
          go_roundw
          case rel => exact ⟨k + 1, x, by omega, by go_num, by go_num, by omega, by omega, by rw [hv]; simp, hb⟩
          case measure => simp [intOf]; omega
    · go_wp2_with fail
      go_ret
      refine Ret.mk ?_ hb
      rw [hv, List.drop_eq_nil_of_le (by omega), deep]; simp

set_option maxHeartbeats 800000 in
theorem same_any (va vb : Value) (a b : List Sp) (w : World) (ha : Spans w va a) (hb0 : Spans w vb b) : Calls Try.prog 15 #[va, vb] w (Ret (.bool (decide (a = b))) w) := by
  obtain ⟨ada, capa, rfl, hca⟩ := ha.open
  obtain ⟨adb, capb, rfl, hcb⟩ := hb0.open
  have hla := ha.short
  have hlb := hb0.short
  clear ha hb0
  by_cases hl : a.length = b.length
  · have hcb' : ∀ (i : Nat) (_ : i < a.length), ∃ (h : i < b.length) (ad : Addr), adb = some ad ∧ ad.block < w.heap.size ∧ w.cell? (ad.add (i * 2)) = some (.int .i64 (b[i]).1) ∧ w.cell? (ad.add (i * 2 + 1)) = some (.int .i64 (b[i]).2) := fun i hi => ⟨by omega, hcb i (by omega)⟩
    clear hcb
    rw [← hl]
    go_enter Try.func15, Try.ntmps15
    go_wp2_with fail
    go_loopw [5] (fun i wr => ∃ k : Nat, k ≤ a.length ∧ i = .int .i64 k ∧ decide (a = b) = decide (a.drop k = b.drop k) ∧ Below w.heap.size w wr)
      (fun i _ => a.length - (intOf i).toNat)
    case atStart => exact ⟨0, by omega, rfl, rfl, Below.refl _ _⟩
    case round =>
      obtain ⟨k, hk, rfl, hv, hb⟩ := hrel
      by_cases hkl : k < a.length
      · obtain ⟨ad, rfl, hab, hc0, hc1⟩ := hca k hkl
        obtain ⟨hkb, bd, rfl, hbb, hd0, hd1⟩ := hcb' k hkl
        have hr0 := (hb.cell (p := ad.add (k * 2)) (by rw [blk_add]; exact hab)).trans hc0
        have hr1 := (hb.cell (p := ad.add (k * 2 + 1)) (by rw [blk_add]; exact hab)).trans hc1
        have hs0 := (hb.cell (p := bd.add (k * 2)) (by rw [blk_add]; exact hbb)).trans hd0
        have hs1 := (hb.cell (p := bd.add (k * 2 + 1)) (by rw [blk_add]; exact hbb)).trans hd1
        rw [add_succ] at hr1 hs1
        rw [drop_cons hkl, drop_cons hkb] at hv
        generalize a[k] = s at hr0 hr1 hv
        generalize b[k] = t at hs0 hs1 hv
        have hne := neq_span s.1 s.2 t.1 t.2
        by_cases hst : s = t
        · have hq : (s.1 == t.1 && s.2 == t.2) = true := by rw [hst]; simp
          rw [hq] at hne
          clear hq
          go_wp2_with fail
          go_quiet (fail)
          go_wp2_with fail
          go_roundw
          case rel => exact ⟨k + 1, by omega, by go_num, by rw [hv, hst]; simp, below_drewN hb nq⟩
          case measure => simp [intOf]; omega
        · have hq : (s.1 == t.1 && s.2 == t.2) = false := by
            rw [Bool.eq_false_iff]; intro h; simp at h; exact hst (Prod.ext h.1 h.2)
          rw [hq] at hne
          clear hq
          go_wp2_with fail
          go_quiet (fail)
          go_wp2_with fail
          go_ret
          exact Ret.mk (by rw [hv]; simp [hst]) (below_drewN hb nq)
      · go_wp2_with fail
        go_ret
        refine Ret.mk ?_ hb
        rw [hv, List.drop_eq_nil_of_le (by omega), List.drop_eq_nil_of_le (by omega)]; simp
  · have hne : ¬ a = b := fun h => hl (by rw [h])
    go_enter Try.func15, Try.ntmps15
    go_wp2_with fail
    go_ret
    exact Ret.mk (by simp [hne]) (by (repeat (first | exact Below.refl _ _ | assumption | refine Below.drew ?_ | refine below_drewN ?_ _ | refine Below.setCell ?_ (by first | omega | (simp <;> omega)) _ | refine Below.alloc ?_ (by first | omega | (simp <;> omega)) _)))

def wdF (n : Int) : Int × Int := if 0 ≤ n ∧ n ≤ 366 then ((n + 3).tmod 7, 0) else (0, 1)
theorem weekday_any (n : Int) (w : World) : Calls Try.prog 24 #[.int .i64 n] w (Ret (.tuple #[.int .i64 (wdF n).1, .int .i64 (wdF n).2]) w) := by
  by_cases h0 : 0 ≤ n
  · by_cases h1 : n ≤ 366
    · have hw : wdF n = ((n + 3).tmod 7, 0) := by simp [wdF, h0, h1]
      have h3 : (n + 3).tmod 7 = (n + 3) % 7 := Int.tmod_eq_emod_of_nonneg (by omega)
      rw [hw, h3]
      go_enter Try.func24, Try.ntmps24
      go_wp2_with fail
      exact bodyPost_ret (results_tmp2 rfl _ _ _) rfl (Ret.mk rfl (by (repeat (first | exact Below.refl _ _ | assumption | refine Below.drew ?_ | refine below_drewN ?_ _ | refine Below.setCell ?_ (by first | omega | (simp <;> omega)) _ | refine Below.alloc ?_ (by first | omega | (simp <;> omega)) _))))
    · have hw : wdF n = (0, 1) := by simp [wdF]; omega
      rw [hw]
      go_enter Try.func24, Try.ntmps24
      go_wp2_with fail
      exact bodyPost_ret (results_tmp2 rfl _ _ _) rfl (Ret.mk rfl (by (repeat (first | exact Below.refl _ _ | assumption | refine Below.drew ?_ | refine below_drewN ?_ _ | refine Below.setCell ?_ (by first | omega | (simp <;> omega)) _ | refine Below.alloc ?_ (by first | omega | (simp <;> omega)) _))))
  · have hw : wdF n = (0, 1) := by simp [wdF]; omega
    rw [hw]
    go_enter Try.func24, Try.ntmps24
    go_wp2_with fail
    exact bodyPost_ret (results_tmp2 rfl _ _ _) rfl (Ret.mk rfl (by (repeat (first | exact Below.refl _ _ | assumption | refine Below.drew ?_ | refine below_drewN ?_ _ | refine Below.setCell ?_ (by first | omega | (simp <;> omega)) _ | refine Below.alloc ?_ (by first | omega | (simp <;> omega)) _))))

theorem sum_bound : ∀ (l : List Sp), (∀ s ∈ l, 0 ≤ s.1 ∧ s.1 < s.2 ∧ s.2 ≤ 1000000000) → 0 ≤ cnt l ∧ cnt l ≤ l.length * 1000000000
  | [], _ => by simp [cnt]
  | s :: l, h => by
    have h1 := sum_bound l (fun t ht => h t (List.mem_cons_of_mem _ ht))
    have h2 := h s List.mem_cons_self
    simp only [cnt, List.length_cons]; omega
def cntF (l : List Sp) : Int × Int := if valid l then (cnt l, 0) else (0, 1)

set_option maxHeartbeats 1600000 in
theorem count_any (v : Value) (l : List Sp) (w : World) (h : Spans w v l) : Calls Try.prog 20 #[v] w (Ret (.tuple #[.int .i64 (cntF l).1, .int .i64 (cntF l).2]) w) := by
  have hval := valid_any v l w h
  obtain ⟨ad, cap, rfl, hc⟩ := h.open
  clear h
  cases hv : valid l with
  | false =>
    rw [hv] at hval
    have hw : cntF l = (0, 1) := by simp [cntF, hv]
    rw [hw]
    go_enter Try.func20, Try.ntmps20
    go_wp2_with (go_at_call 11; refine hval.mono ?_; rintro e w2 ⟨rfl, hx⟩)
    exact bodyPost_ret (results_tmp2 rfl _ _ _) rfl (Ret.mk rfl hx)
  | true =>
    rw [hv] at hval
    have hw : cntF l = (cnt l, 0) := by simp [cntF, hv]
    rw [hw]
    have hall := valid_all hv
    have hlen := valid_len hv
    clear hw hv
    go_enter Try.func20, Try.ntmps20
    go_wp2_with (go_at_call 11; refine hval.mono ?_; rintro e w2 ⟨rfl, hx⟩)
    clear hval
    go_loopw [4, 12] (fun m i wr => ∃ (k : Nat) (x : Int), k ≤ l.length ∧ i = .int .i64 k ∧ m = .int .i64 x ∧ 0 ≤ x ∧ x ≤ k * 1000000000 ∧ cnt l = x + cnt (l.drop k) ∧ Below w.heap.size w wr)
      (fun _ i _ => l.length - (intOf i).toNat)
    case atStart => exact ⟨0, 0, by omega, rfl, rfl, by omega, by omega, by simp, hx⟩
    case round =>
      obtain ⟨k, x, hk, rfl, rfl, hx0, hx1, hv, hb⟩ := hrel
      by_cases hkl : k < l.length
      · obtain ⟨a, rfl, hab, hc0, hc1⟩ := hc k hkl
        have hr0 := (hb.cell (p := a.add (k * 2)) (by rw [blk_add]; exact hab)).trans hc0
        have hr1 := (hb.cell (p := a.add (k * 2 + 1)) (by rw [blk_add]; exact hab)).trans hc1
        rw [add_succ] at hr1
        rw [drop_cons hkl, cnt] at hv
        have hs := hall _ (List.getElem_mem hkl)
        generalize l[k] = s at hr0 hr1 hv hs
        obtain ⟨hs1, hs2, hs3⟩ := hs
        clear hall
        have hb2 : Below w.heap.size w (wr.alloc (.cells #[.int .i64 s.1, .int .i64 s.2] 42)) := hb.alloc hb.size _
        go_wp2_with fail
        go_roundw
        case rel => exact ⟨k + 1, x + (s.2 - s.1), by omega, by go_num, by go_num, by omega, by omega, by rw [hv]; omega, hb2⟩
        case measure => simp [intOf]; omega
      · have hk2 : k = l.length := by omega
        subst hk2
        rw [List.drop_eq_nil_of_le (Nat.le_refl _), cnt] at hv
        go_wp2_with fail
        exact bodyPost_ret (results_tmp2 rfl _ _ _) rfl (Ret.mk (by rw [hv]; simp) hb)
end Go.Proofs.Ytfhhkbijcleedaa
