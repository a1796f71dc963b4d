/-
  The walk of Share.
-/
import Derived.Test.YtnjaedbekogeaaaDoorMonShare
namespace Go.Proofs.YtnjaedbekogeaaaDoor
open Go.RowKit Go.Shelf
set_option maxRecDepth 100000

theorem parts_get (c T : Int) : ∀ (l : List Int) (s : Int) (k : Nat) (h : k < (partsF c T s l).length), (partsF c T s l)[k] = c * (s + (l.take (k + 1)).sum) / T - c * (s + (l.take k).sum) / T
  | [], _, _, h => by simp [partsF] at h
  | x :: r, s, 0, h => by simp [partsF]
  | x :: r, s, k + 1, h => by
    have := parts_get c T r (s + x) k (by simpa [partsF] using h)
    simp only [partsF, List.getElem_cons_succ, this, List.take_succ_cons, List.sum_cons]
    rw [Int.add_assoc, Int.add_assoc]
theorem sum_take (l : List Int) (k : Nat) (hk : k < l.length) : (l.take (k + 1)).sum = (l.take k).sum + l[k] := by rw [List.take_succ_eq_append_getElem hk, List.sum_append, List.sum_singleton]
theorem sum_all_take (l : List Int) (h : l.all wOk = true) (k : Nat) : 0 ≤ (l.take k).sum ∧ (l.take k).sum ≤ l.sum := by
  have h1 := (sum_bd _ (all_take l k h)).1
  have h2 : 0 ≤ (l.drop k).sum := by
    refine (sum_bd _ ?_).1
    rw [List.all_eq_true] at *
    exact fun x hx => h x (List.mem_of_mem_drop hx)
  have h3 : l.sum = (l.take k).sum + (l.drop k).sum := by rw [← List.sum_append, List.take_append_drop]
  omega
theorem share_ok {c : Int} {l : List Int} (hc : wthB c 1000000000 = true) (hw : wts l = true) : (-1000000000 ≤ c ∧ c ≤ 1000000000) ∧ l.length ≤ 1000 ∧ l.all wOk = true ∧ 1 ≤ l.sum ∧ l.sum ≤ 1000000000 := by
  simp only [wts, Bool.and_eq_true, decide_eq_true_eq] at hw
  have := sum_bd l hw.1.2
  exact ⟨by simpa [wthB] using hc, hw.1.1, hw.1.2, by omega, by omega⟩
theorem quot_bd {c S T : Int} (hc : -1000000000 ≤ c ∧ c ≤ 1000000000) (hS : 0 ≤ S ∧ S ≤ 1000000000) (hT : 1 ≤ T) : -1000000000000000000 ≤ c * S / T ∧ c * S / T ≤ 1000000000000000000 := by
  obtain ⟨hm1, hm2⟩ := mul_bd (X := 1000000000) (Y := 1000000000) hc.1 hc.2 (show -1000000000 ≤ S by omega) hS.2
  exact div_le (c * S) T hT 1000000000000000000 (by omega) (by omega) (by omega)
theorem parts_int {c : Int} {l : List Int} (hc : wthB c 1000000000 = true) (hw : wts l = true) : ∀ y ∈ partsF c l.sum 0 l, I64 y := by
  obtain ⟨h1, h2, h3, h4, h5⟩ := share_ok hc hw
  intro y hy
  obtain ⟨k, hk, rfl⟩ := List.getElem_of_mem hy
  rw [parts_get]
  have a := sum_all_take l h3 k
  have b := sum_all_take l h3 (k + 1)
  have q1 := quot_bd (S := 0 + (l.take k).sum) h1 (by omega) h4
  have q2 := quot_bd (S := 0 + (l.take (k + 1)).sum) h1 (by omega) h4
  constructor <;> omega

theorem make_ints (n : Nat) (hn : n ≤ 1000) (w : World) : ∃ w', (Instr.makeSlice 25 (.int .i64 (n : Int)) (.int .i64 (n : Int))).run Tryd.prog w = .ok (.slice (some ⟨w.heap.size, 0, none⟩) n n) w' ∧
    Own w' w.heap.size (List.replicate n (.int .i64 0)) ∧ Below w.heap.size w w' := by
  obtain ⟨i, hi, hz0, hz1, hz2⟩ := info_parts Tryd.infoInt
  have hr := run_makeSlice w 25 3 i (.int .i64 0) Tryd.underlying25 hi hz0 .i64 .i64 n n (by omega) (Int.le_refl _) (by rw [hz1]; simp; omega) (by rw [hz2]; omega) (by omega)
  rw [Int.toNat_natCast, hz1, Nat.mul_one] at hr
  refine ⟨_, hr, ?_, (Below.refl _ _).alloc (Nat.le_refl _) _⟩
  have := Own.new w (madeCells (Value.int .i64 0).cells n) 3
  rw [show (Value.int .i64 0).cells = #[.int .i64 0] from rfl, mmade_list] at this
  exact this
theorem take_set (xs : List Value) (k : Nat) (v : Value) (h : k < xs.length) : (xs.set k v).take (k + 1) = xs.take k ++ [v] := by
  rw [List.take_succ_eq_append_getElem (by simpa using h), List.getElem_set_self, List.take_set_of_le (Nat.le_refl _)]

/-- what Share gives -/
def ShareP (c : Int) (l : List Int) (w : World) (e : Ending) (w' : World) : Prop := ∃ v, e = .returned (.tuple #[v, .int .i64 (shareF c l).2]) ∧ Ints w' v (shareF c l).1 ∧ Below w.heap.size w w'

theorem share_bad {c : Int} {l : List Int} (h : (wthB c 1000000000 && wts l) = false) : shareF c l = ([], 1) := by unfold shareF; rw [h]; rfl
theorem share_good {c : Int} {l : List Int} (hc : wthB c 1000000000 = true) (hw : wts l = true) : shareF c l = (partsF c l.sum 0 l, 0) := by unfold shareF; rw [hc, hw]; rfl
theorem sumF_bad {l : List Int} (hw : wts l = false) : (sumF l).2 = false := by
  unfold sumF
  split
  · next h => simp only [wts, h, Bool.true_and] at hw; exact hw
  · rfl
theorem sumF_good {l : List Int} (hw : wts l = true) : sumF l = (l.sum, true) := by
  simp only [wts, Bool.and_eq_true] at hw
  unfold sumF
  rw [if_pos (by rw [Bool.and_eq_true]; exact hw.1), hw.2]

set_option maxHeartbeats 2000000 in
theorem mshare_any (c : Int) (v : Value) (l : List Int) (w : World) (h : Ints w v l) : Calls Tryd.prog 14 #[.int .i64 c, v] w (ShareP c l w) := by
  obtain ⟨ad, cap, rfl, hlen, hcell⟩ := h.at
  have hsum := msum_any _ l w h
  cases hc : wthB c 1000000000 with
  | false =>
    have HF : Hid (shareF c l = ([], 1)) := Lib.hid (share_bad (by rw [hc]; rfl))
    have HC := Lib.hid hc
    generalize sumF l = p at *
    clear hc
    go_enter Tryd.func14, Tryd.ntmps14
    go_wp2_with (first | (go_at_call 25; refine (isAmount_at _ _ HC.out).mono ?_; rintro e w' ⟨rfl, rfl⟩) | (go_at_call 31; refine hsum.mono ?_; rintro e w' ⟨rfl, rfl⟩))
    go_ret2
    exact ⟨_, by rw [HF.out]; rfl, by rw [HF.out]; exact ⟨Row.nil _, fun x hx => by cases hx⟩, Below.refl _ _⟩
  | true =>
  cases hw : wts l with
  | false =>
    have HF : Hid (shareF c l = ([], 1)) := Lib.hid (share_bad (by rw [hc, hw]; rfl))
    have HC := Lib.hid hc
    have hf := sumF_bad hw
    generalize sumF l = p at *
    obtain ⟨p1, p2⟩ := p
    simp only at hf hsum
    subst hf
    clear hc hw
    go_enter Tryd.func14, Tryd.ntmps14
    go_wp2_with (first | (go_at_call 25; refine (isAmount_at _ _ HC.out).mono ?_; rintro e w' ⟨rfl, rfl⟩) | (go_at_call 31; refine hsum.mono ?_; rintro e w' ⟨rfl, rfl⟩))
    go_ret2
    exact ⟨_, by rw [HF.out]; rfl, by rw [HF.out]; exact ⟨Row.nil _, fun x hx => by cases hx⟩, Below.refl _ _⟩
  | true =>
    have HF : Hid (shareF c l = (partsF c l.sum 0 l, 0)) := Lib.hid (share_good hc hw)
    obtain ⟨hc1, hl1, hall, hT1, hT2⟩ := share_ok hc hw
    have hpi := parts_int hc hw
    have hpl := partsF_len c l.sum 0 l
    have hpg := fun k hk => parts_get c l.sum l 0 k hk
    have hst := sum_all_take l hall
    have htk := fun k hk => sum_take l k hk
    have HC := Lib.hid hc
    rw [sumF_good hw] at hsum
    generalize partsF c l.sum 0 l = P at *
    generalize l.sum = T at *
    have hall2 := hall
    clear hc hw hall
    replace hpg := fun k hk => Lib.hid (hpg k hk)
    go_enter Tryd.func14, Tryd.ntmps14
    go_wp2_with (first | (go_at_call 25; refine (isAmount_at _ _ HC.out).mono ?_; rintro e w' ⟨rfl, rfl⟩) | (go_at_call 31; refine hsum.mono ?_; rintro e w' ⟨rfl, rfl⟩))
    refine (divider_any c T w).mono ?_
    rintro e w1 ⟨rfl, hD, hb1, hsz1⟩
    unfold divV
    obtain ⟨w2, hmk, oP, hx2⟩ := make_ints l.length hl1 w1
    have hb2 := hb1.trans (hx2.mono hb1.size)
    replace hD := hD.below hx2
    rw [hsz1] at oP hmk
    clear hsum hx2 hb1
    generalize hB : w.heap.size = B at *
    go_wp2_with fail
    go_loopw [32] (fun i wr => ∃ (k : Nat) (G : Int) (xs : List Value), k ≤ l.length ∧ i = .int .i64 k ∧ Div wr B G (l.take k).sum c T ∧ Hid (G = c * (0 + (l.take k).sum) / T) ∧ Own wr (B + 4) xs ∧ xs.length = l.length ∧ xs.take k = (P.take k).map (.int .i64) ∧ Below B w wr)
      (fun i _ => l.length - (intOf i).toNat)
    case atStart => exact ⟨0, 0, _, by omega, rfl, hD, Lib.hid (by simp), oP, by simp, by simp, hb2⟩
    case round =>
      obtain ⟨k, G, xs, hk, rfl, hD, hG, oP, hxl, hxt, hb⟩ := hrel
      by_cases hkl : k < l.length
      · obtain ⟨a, rfl, hr⟩ := hcell k hkl
        replace hr := hr wr B hb (by omega)
        have q0 : decide ((k : Int) < l.length) = true := by rw [decide_eq_true_iff]; omega
        have s1 := hst k
        have s2 := hst (k + 1)
        rw [htk k hkl] at s2
        have hpk := hpg k (by omega)
        have hst' := Lib.hid (htk k hkl)
        have hgb := quot_bd (c := c) (S := 0 + (l.take k).sum) hc1 (by omega) hT1
        rw [← hG.out] at hgb
        have hPk : k < P.length := by omega
        have hPt : P.take (k + 1) = P.take k ++ [P[k]] := List.take_succ_eq_append_getElem hPk
        have hx0 : 0 ≤ l[k] := by have := hst'.out; have := hst k; have := (wOk_iff l[k]).1 (by rw [List.all_eq_true] at hall2; exact hall2 _ (List.getElem_mem hkl)); omega
        generalize hS : (l.take k).sum = S at *
        generalize l[k] = x at *
        have hn := mnext_at B G S c T x wr hD hc1 s1.1 hx0 (by omega) ⟨hT1, hT2⟩ hgb
        have hD2 := hD.set (c * (S + x) / T) (S + x)
        obtain ⟨oP2, hbb⟩ : Own ((wr.setCell ⟨B + 2, 0, none⟩ (.int .i64 (S + x))).setCell ⟨B + 3, 0, none⟩ (.int .i64 (c * (S + x) / T))) (B + 4) xs ∧ Below B w ((wr.setCell ⟨B + 2, 0, none⟩ (.int .i64 (S + x))).setCell ⟨B + 3, 0, none⟩ (.int .i64 (c * (S + x) / T))) :=
          ⟨(oP.setCell (p := ⟨B + 2, 0, none⟩) (by simp) _).setCell (p := ⟨B + 3, 0, none⟩) (by simp) _, (hb.setCell (p := ⟨B + 2, 0, none⟩) (by simp) _).setCell (p := ⟨B + 3, 0, none⟩) (by simp) _⟩
        generalize (wr.setCell ⟨B + 2, 0, none⟩ (.int .i64 (S + x))).setCell ⟨B + 3, 0, none⟩ (.int .i64 (c * (S + x) / T)) = w5 at *
        have y0 := oP2.cell k xs[k] (List.getElem?_eq_getElem (by omega))
        have y1 := oP2.fro k xs[k] (List.getElem?_eq_getElem (by omega))
        have y2 := oP2.lt
        have oP3 := mset_at oP2 (.int .i64 (c * (S + x) / T - G)) (i := k) (by omega)
        have hb6 := hbb.setCell (p := ⟨B + 4, k, none⟩) (by simp) (.int .i64 (c * (S + x) / T - G))
        have hD3 : Div (w5.setCell ⟨B + 4, k, none⟩ (.int .i64 (c * (S + x) / T - G))) B (c * (S + x) / T) (S + x) c T :=
          ⟨hD2.1.setCell (p := ⟨B + 4, k, none⟩) (by simp) _, hD2.2.setCell (p := ⟨B + 4, k, none⟩) (by simp) _, hD2.3.setCell (p := ⟨B + 4, k, none⟩) (by simp) _, hD2.4.setCell (p := ⟨B + 4, k, none⟩) (by simp) _⟩
        have hval : Hid (c * (S + x) / T - G = P[k]) := Lib.hid (by rw [hpk.out, hst'.out, hG.out, Int.zero_add, Int.zero_add])
        have hG2 : Hid (c * (S + x) / T = c * (0 + (l.take (k + 1)).sum) / T) := Lib.hid (by rw [hst'.out, Int.zero_add])
        replace hPt := Lib.hid hPt
        clear hD hD2 oP hb hpk hpg hst htk hS
        go_wp2_with (go_at_call 45; refine hn.mono ?_; rintro e w' ⟨rfl, rfl⟩)
        refine ⟨⟨k + 1, _, _, by omega, by go_num, by rw [hst'.out]; exact hD3, hG2, oP3, by simpa using hxl, ?_, hb6⟩, by simp [intOf]; omega⟩
        rw [take_set _ _ _ (by omega), hxt, hPt.out, List.map_append, hval.out]
        rfl
      · have e1 : k = l.length := by omega
        subst e1
        have q0 : decide ((l.length : Int) < l.length) = false := by simp
        have hxs : xs = P.map (.int .i64) := by
          rw [List.take_of_length_le (by omega), List.take_of_length_le (by omega)] at hxt
          exact hxt
        subst hxs
        have hrow : Ints wr (.slice (some ⟨B + 4, 0, none⟩) l.length l.length) P := ⟨by have := row_own oP (by simpa [hpl] using hl1) (cap := l.length); rwa [List.length_map, hpl] at this, hpi⟩
        clear hD hpg hst htk hG
        go_wp2_with fail
        go_ret2
        exact ⟨_, by rw [HF.out]; rfl, by rw [HF.out]; exact hrow, by rw [hB]; exact hb⟩
end Go.Proofs.YtnjaedbekogeaaaDoor
