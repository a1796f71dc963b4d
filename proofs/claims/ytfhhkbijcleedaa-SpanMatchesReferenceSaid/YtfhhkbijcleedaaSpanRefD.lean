/-
  The reference's Union, Meet, Less, Count, Weekday, Most.
-/
import Derived.Test.YtfhhkbijcleedaaSpanRefC
namespace Go.Proofs.Ytfhhkbijcleedaa
open Go.RowKit Go.Shelf

section
variable (va vb : Value) (a b : List Sp) (w : World) (ha : Spans w va a) (hb : Spans w vb b)
include ha hb
theorem refUnion_any : Calls Try.prog 14 #[va, vb] w fun e w' => ∃ v', e = .returned (.tuple #[v', .int .i64 (comb (· || ·) a b).2]) ∧ Spans w' v' (comb (· || ·) a b).1 ∧ Below w.heap.size w w' := by
  have hcon := refCombU_any va vb a b w ha hb
  have hi := comb_ints (· || ·) a b ha.ints hb.ints
  have hl := comb_len (· || ·) a b
  generalize comb (· || ·) a b = r at hcon hi hl ⊢
  go_enter Try.func14, Try.ntmps14
  go_wp2_with (go_at_call 34; refine hcon.mono ?_; rintro e w' ⟨v', rfl, hown, hx⟩)
  exact bodyPost_ret (results_tmp2 rfl _ _ _) rfl ⟨_, rfl, Spans.of_own hown hi (by omega), hx⟩
theorem refMeet_any : Calls Try.prog 17 #[va, vb] w fun e w' => ∃ v', e = .returned (.tuple #[v', .int .i64 (comb (· && ·) a b).2]) ∧ Spans w' v' (comb (· && ·) a b).1 ∧ Below w.heap.size w w' := by
  have hcon := refCombM_any va vb a b w ha hb
  have hi := comb_ints (· && ·) a b ha.ints hb.ints
  have hl := comb_len (· && ·) a b
  generalize comb (· && ·) a b = r at hcon hi hl ⊢
  go_enter Try.func17, Try.ntmps17
  go_wp2_with (go_at_call 34; refine hcon.mono ?_; rintro e w' ⟨v', rfl, hown, hx⟩)
  exact bodyPost_ret (results_tmp2 rfl _ _ _) rfl ⟨_, rfl, Spans.of_own hown hi (by omega), hx⟩
theorem refLess_any : Calls Try.prog 19 #[va, vb] w fun e w' => ∃ v', e = .returned (.tuple #[v', .int .i64 (comb (fun x y => x && !y) a b).2]) ∧ Spans w' v' (comb (fun x y => x && !y) a b).1 ∧ Below w.heap.size w w' := by
  have hcon := refCombL_any va vb a b w ha hb
  have hi := comb_ints (fun x y => x && !y) a b ha.ints hb.ints
  have hl := comb_len (fun x y => x && !y) a b
  generalize comb (fun x y => x && !y) a b = r at hcon hi hl ⊢
  go_enter Try.func19, Try.ntmps19
  go_wp2_with (go_at_call 34; refine hcon.mono ?_; rintro e w' ⟨v', rfl, hown, hx⟩)
  exact bodyPost_ret (results_tmp2 rfl _ _ _) rfl ⟨_, rfl, Spans.of_own hown hi (by omega), hx⟩
end

theorem refWeekday_any (n : Int) (w : World) : Calls Try.prog 25 #[.int .i64 n] w (Ret (.tuple #[.int .i64 (wdF n).1, .int .i64 (wdF n).2]) w) := by
  by_cases h0 : 0 ≤ n
  · by_cases h1 : n ≤ 366
    · have hw : wdF n = ((n + 3).tmod 7, 0) := by simp [wdF, h0, h1]
      have h3 : (n + 3).tmod 7 = (n + 3) % 7 := Int.tmod_eq_emod_of_nonneg (by omega)
      rw [hw, h3]
      go_enter Try.func25, Try.ntmps25
      go_wp2_with fail
      exact bodyPost_ret (results_tmp2 rfl _ _ _) rfl (Ret.mk rfl (by (repeat (first | exact Below.refl _ _ | assumption | refine Below.drew ?_ | refine below_drewN ?_ _ | refine Below.setCell ?_ (by first | omega | (simp <;> omega)) _ | refine Below.alloc ?_ (by first | omega | (simp <;> omega)) _))))
    · have hw : wdF n = (0, 1) := by simp [wdF]; omega
      rw [hw]
      go_enter Try.func25, Try.ntmps25
      go_wp2_with fail
      exact bodyPost_ret (results_tmp2 rfl _ _ _) rfl (Ret.mk rfl (by (repeat (first | exact Below.refl _ _ | assumption | refine Below.drew ?_ | refine below_drewN ?_ _ | refine Below.setCell ?_ (by first | omega | (simp <;> omega)) _ | refine Below.alloc ?_ (by first | omega | (simp <;> omega)) _))))
  · have hw : wdF n = (0, 1) := by simp [wdF]; omega
    rw [hw]
    go_enter Try.func25, Try.ntmps25
    go_wp2_with fail
    exact bodyPost_ret (results_tmp2 rfl _ _ _) rfl (Ret.mk rfl (by (repeat (first | exact Below.refl _ _ | assumption | refine Below.drew ?_ | refine below_drewN ?_ _ | refine Below.setCell ?_ (by first | omega | (simp <;> omega)) _ | refine Below.alloc ?_ (by first | omega | (simp <;> omega)) _))))

set_option maxHeartbeats 1600000 in
theorem refCount_any (v : Value) (l : List Sp) (w : World) (h : Spans w v l) : Calls Try.prog 21 #[v] w (Ret (.tuple #[.int .i64 (cntF l).1, .int .i64 (cntF l).2]) w) := by
  have hval := refValid_any v l w h
  obtain ⟨ad, cap, rfl, hc⟩ := h.open
  clear h
  cases hv : valid l with
  | false =>
    rw [hv] at hval
    have hw : cntF l = (0, 1) := by simp [cntF, hv]
    rw [hw]
    go_enter Try.func21, Try.ntmps21
    go_wp2_with (go_at_call 12; refine hval.mono ?_; rintro e w2 ⟨rfl, hx⟩)
    exact bodyPost_ret (results_tmp2 rfl _ _ _) rfl (Ret.mk rfl hx)
  | true =>
    rw [hv] at hval
    have hw : cntF l = (cnt l, 0) := by simp [cntF, hv]
    rw [hw]
    have hall := valid_all hv
    have hlen := valid_len hv
    clear hw hv
    go_enter Try.func21, Try.ntmps21
    go_wp2_with (go_at_call 12; refine hval.mono ?_; rintro e w2 ⟨rfl, hx⟩)
    clear hval
    go_loopw [5, 6] (fun m i wr => ∃ (k : Nat) (x : Int), k ≤ l.length ∧ i = .int .i64 k ∧ m = .int .i64 x ∧ 0 ≤ x ∧ x ≤ k * 1000000000 ∧ cnt l = x + cnt (l.drop k) ∧ Below w.heap.size w wr)
      (fun _ i _ => l.length - (intOf i).toNat)
    case atStart => exact ⟨0, 0, by omega, rfl, rfl, by omega, by omega, by simp, hx⟩
    case round =>
      obtain ⟨k, x, hk, rfl, rfl, hx0, hx1, hv, hb⟩ := hrel
      by_cases hkl : k < l.length
      · obtain ⟨a, rfl, hab, hc0, hc1⟩ := hc k hkl
        have hr0 := (hb.cell (p := a.add (k * 2)) (by rw [blk_add]; exact hab)).trans hc0
        have hr1 := (hb.cell (p := a.add (k * 2 + 1)) (by rw [blk_add]; exact hab)).trans hc1
        rw [add_succ] at hr1
        rw [drop_cons hkl, cnt] at hv
        have hs := hall _ (List.getElem_mem hkl)
        generalize l[k] = s at hr0 hr1 hv hs
        obtain ⟨hs1, hs2, hs3⟩ := hs
        clear hall
        go_wp2_with fail
        go_quiet (fail)
        go_wp2_with fail
        go_roundw
        case rel => exact ⟨k + 1, x + s.2 - s.1, by omega, by go_num, by go_num, by omega, by omega, by rw [hv]; omega, below_drewN hb nq⟩
        case measure => simp [intOf]; omega
      · have hk2 : k = l.length := by omega
        subst hk2
        rw [List.drop_eq_nil_of_le (Nat.le_refl _), cnt] at hv
        go_wp2_with fail
        exact bodyPost_ret (results_tmp2 rfl _ _ _) rfl (Ret.mk (by rw [hv]; simp) hb)

set_option maxHeartbeats 4000000 in
theorem refMost_any (vl : Value) (l : List Sp) (w : World) (hl : Spans w vl l) :
    Calls Try.prog 23 #[vl] w fun e w' => e = .returned (.tuple #[.int .i64 (mostF l).1.1, .int .i64 (mostF l).1.2, .int .i64 (mostF l).2]) ∧ Below w.heap.size w w' := by
  have hsh := hl.short
  have hdeep := fun n w' (h : Below w.heap.size w w') => deep_any vl l n w' (hl.below h)
  obtain ⟨ad, cap, rfl, hc⟩ := hl.open
  clear hl
  have hb := Below.refl w.heap.size w
  by_cases hbig : 3000 < l.length
  · have hF : mostF l = ((0, 0), 1) := by unfold mostF; rw [if_neg (by omega)]
    rw [hF]
    go_enter Try.func23, Try.ntmps23
    go_wp2_with fail
    exact bodyPost_ret (results_tmp3 rfl _ _ _) rfl ⟨rfl, hb⟩
  · go_enter Try.func23, Try.ntmps23
    go_wp2_with fail
    go_loopw [7] (fun i wr => ∃ k : Nat, k ≤ l.length ∧ i = .int .i64 k ∧ l.all wf = (l.drop k).all wf ∧ Below w.heap.size w wr)
      (fun i _ => l.length - (intOf i).toNat)
    case atStart => exact ⟨0, by omega, rfl, rfl, hb⟩
    case round =>
      obtain ⟨k, hk, rfl, hv, hb⟩ := hrel
      by_cases hkl : k < l.length
      · obtain ⟨a, rfl, hab, hc0, hc1⟩ := hc k hkl
        have hr0 := (hb.cell (p := a.add (k * 2)) (by rw [blk_add]; exact hab)).trans hc0
        have hr1 := (hb.cell (p := a.add (k * 2 + 1)) (by rw [blk_add]; exact hab)).trans hc1
        rw [add_succ] at hr1
        rw [all_drop _ _ hkl] at hv
        generalize l[k] = s at hr0 hr1 hv
        have hw := refSpan_any s wr
        cases hws : wf s with
        | true =>
          rw [hws, Bool.true_and] at hv
          rw [hws] at hw
          go_wp2_with fail
          refine hw.mono ?_
          rintro e w2 ⟨rfl, hx⟩
          replace hb := hb.trans (hx.mono hb.size)
          go_wp2_with fail
          go_roundw
          case rel => exact ⟨k + 1, by omega, by go_num, hv, hb⟩
          case measure => simp [intOf]; omega
        | false =>
          rw [hws, Bool.false_and] at hv
          rw [hws] at hw
          have hF : mostF l = ((0, 0), 1) := by unfold mostF; rw [if_neg (by rw [hv]; simp)]
          go_wp2_with fail
          refine hw.mono ?_
          rintro e w2 ⟨rfl, hx⟩
          replace hb := hb.trans (hx.mono hb.size)
          go_wp2_with fail
          exact bodyPost_ret (results_tmp3 rfl _ _ _) rfl ⟨by rw [hF]; rfl, hb⟩
      · rw [List.drop_eq_nil_of_le (by omega)] at hv
        have hF : mostF l = (rmostL l, 0) := by unfold mostF; rw [if_pos ⟨by omega, hv⟩, rmost_eq l (wf_bd hv)]
        have hfold : ∀ k, ∀ h : k < l.length, (l.take (k + 1)).foldl (rm l) (0, 0) = rm l ((l.take k).foldl (rm l) (0, 0)) l[k] := fun k h => by
          rw [List.take_add_one, List.getElem?_eq_getElem h, List.foldl_append]; rfl
        have hH := Lib.hid hfold
        clear hfold
        go_wp2_with fail
        go_loopw [5, 6, 9] (fun x m i wr => ∃ (k : Nat) (acc : Int × Int), k ≤ l.length ∧ i = .int .i64 k ∧ x = .int .i64 acc.1 ∧ m = .int .i64 acc.2 ∧ acc = (l.take k).foldl (rm l) (0, 0) ∧ Below w.heap.size w wr)
          (fun _ _ i _ => l.length - (intOf i).toNat)
        case atStart => exact ⟨0, (0, 0), by omega, rfl, rfl, rfl, rfl, hb⟩
        case round =>
          obtain ⟨k, acc, hk, rfl, rfl, rfl, hacc, hb⟩ := hrel
          by_cases hkl : k < l.length
          · obtain ⟨a, rfl, hab, hc0, hc1⟩ := hc k hkl
            have hr0 := (hb.cell (p := a.add (k * 2)) (by rw [blk_add]; exact hab)).trans hc0
            have hnext := hH.out k hkl
            rw [← hacc] at hnext
            have hd := hdeep (l[k]).1 wr hb
            unfold rm at hnext
            clear hacc hdeep
            generalize l[k] = s at hr0 hnext hd
            generalize deep l s.1 = d at hnext hd
            obtain ⟨x, m⟩ := acc
            simp only at hnext ⊢
            have four : m < d ∨ (d = m ∧ s.1 < x) ∨ (d = m ∧ x ≤ s.1) ∨ (d < m) := by omega
            rcases four with h1 | ⟨rfl, h1⟩ | ⟨rfl, h1⟩ | h1
            · rw [if_pos (.inl h1)] at hnext
              go_wp2_with fail
              refine hd.mono ?_
              rintro e w2 ⟨rfl, hx⟩
              have hr2 := (hx.cell (p := a.add (k * 2)) (by rw [blk_add]; have := hb.size; omega)).trans hr0
              replace hb := hb.trans (hx.mono hb.size)
              clear hx hd
              go_wp2_with fail
              go_roundw
              case rel => exact ⟨k + 1, (s.1, d), by omega, by go_num, rfl, rfl, hnext.symm, hb⟩
              case measure => simp [intOf]; omega
            · rw [if_pos (.inr ⟨rfl, h1⟩)] at hnext
              go_wp2_with fail
              refine hd.mono ?_
              rintro e w2 ⟨rfl, hx⟩
              have hr2 := (hx.cell (p := a.add (k * 2)) (by rw [blk_add]; have := hb.size; omega)).trans hr0
              replace hb := hb.trans (hx.mono hb.size)
              clear hx hd
              go_wp2_with fail
              go_roundw
              case rel => exact ⟨k + 1, (s.1, d), by omega, by go_num, rfl, rfl, hnext.symm, hb⟩
              case measure => simp [intOf]; omega
            · rw [if_neg (by omega)] at hnext
              go_wp2_with fail
              refine hd.mono ?_
              rintro e w2 ⟨rfl, hx⟩
              have hr2 := (hx.cell (p := a.add (k * 2)) (by rw [blk_add]; have := hb.size; omega)).trans hr0
              replace hb := hb.trans (hx.mono hb.size)
              clear hx hd
              go_wp2_with fail
              go_roundw
              case rel => exact ⟨k + 1, (x, d), by omega, by go_num, rfl, rfl, hnext.symm, hb⟩
              case measure => simp [intOf]; omega
            · rw [if_neg (by omega)] at hnext
              go_wp2_with fail
              refine hd.mono ?_
              rintro e w2 ⟨rfl, hx⟩
              have hr2 := (hx.cell (p := a.add (k * 2)) (by rw [blk_add]; have := hb.size; omega)).trans hr0
              replace hb := hb.trans (hx.mono hb.size)
              clear hx hd
              go_wp2_with fail
              go_roundw
              case rel => exact ⟨k + 1, (x, m), by omega, by go_num, rfl, rfl, hnext.symm, hb⟩
              case measure => simp [intOf]; omega
          · have hk2 : k = l.length := by omega
            subst hk2
            rw [List.take_length] at hacc
            have hR : rmostL l = acc := by rw [hacc]; rfl
            go_wp2_with fail
            exact bodyPost_ret (results_tmp3 rfl _ _ _) rfl ⟨by rw [hF, hR]; rfl, hb⟩
end Go.Proofs.Ytfhhkbijcleedaa
