/-
  The walk of the reference's Share.
-/
import Derived.Test.YtnjaedbekogeaaaDoorMonRWts
namespace Go.Proofs.YtnjaedbekogeaaaDoor
open Go.RowKit Go.Shelf
set_option maxRecDepth 100000

set_option maxHeartbeats 4000000 in
theorem rshare_any (c : Int) (v : Value) (l : List Int) (w : World) (h : Ints w v l) : Calls Tryd.prog 15 #[.int .i64 c, v] w (ShareP c l w) := by
  cases hc : wthB c 1000000000 with
  | false =>
    obtain ⟨ad, cap, rfl, hlen, hcell⟩ := h.at
    have HF : Hid (shareF c l = ([], 1)) := Lib.hid (share_bad (by rw [hc]; rfl))
    have HC := Lib.hid hc
    clear hc
    go_enter Tryd.func15, Tryd.ntmps15
    go_wp2_with (go_at_call 22; refine (rAmount_at _ _ HC.out).mono ?_; rintro e w' ⟨rfl, rfl⟩)
    go_ret2
    exact ⟨_, by rw [HF.out]; rfl, by rw [HF.out]; exact ⟨Row.nil _, fun x hx => by cases hx⟩, Below.refl _ _⟩
  | true =>
  cases hw : wts l with
  | false =>
    have hwt := rweights_at v l w h hw
    obtain ⟨ad, cap, rfl, hlen, hcell⟩ := h.at
    have HF : Hid (shareF c l = ([], 1)) := Lib.hid (share_bad (by rw [hc, hw]; rfl))
    have HC := Lib.hid hc
    clear hc hw
    go_enter Tryd.func15, Tryd.ntmps15
    go_wp2_with (first | (go_at_call 23; refine hwt.mono ?_; rintro e w' ⟨rfl, rfl⟩) | (go_at_call 22; refine (rAmount_at _ _ HC.out).mono ?_; rintro e w' ⟨rfl, rfl⟩))
    go_ret2
    exact ⟨_, by rw [HF.out]; rfl, by rw [HF.out]; exact ⟨Row.nil _, fun x hx => by cases hx⟩, Below.refl _ _⟩
  | true =>
    have hwt := rweights_at v l w h hw
    obtain ⟨ad, cap, rfl, hlen, hcell⟩ := h.at
    have HF : Hid (shareF c l = (partsF c l.sum 0 l, 0)) := Lib.hid (share_good hc hw)
    obtain ⟨hc1, hl1, hall, hT1, hT2⟩ := share_ok hc hw
    have hpi := parts_int hc hw
    have hpl := partsF_len c l.sum 0 l
    have hpg := fun k hk => Lib.hid (parts_get c l.sum l 0 k hk)
    have hst := sum_all_take l hall
    have htk := fun k hk => sum_take l k hk
    have hxw : ∀ k (hk : k < l.length), 0 ≤ l[k] := fun k hk => by
      have := (wOk_iff l[k]).1 (by rw [List.all_eq_true] at hall; exact hall _ (List.getElem_mem hk)); omega
    have HC := Lib.hid hc
    generalize hT : l.sum = T at *
    have hTl : (l.take l.length).sum = T := by rw [List.take_length]; exact hT
    generalize partsF c T 0 l = P at *
    clear hc hw hall hT
    go_enter Tryd.func15, Tryd.ntmps15
    go_wp2_with (first | (go_at_call 23; refine hwt.mono ?_; rintro e w' ⟨rfl, rfl⟩) | (go_at_call 22; refine (rAmount_at _ _ HC.out).mono ?_; rintro e w' ⟨rfl, rfl⟩))
    go_loopw [6, 7] (fun s i wr => ∃ k : Nat, k ≤ l.length ∧ i = .int .i64 k ∧ s = .int .i64 (l.take k).sum ∧ wr = w) (fun _ i _ => l.length - (intOf i).toNat)
    case atStart => exact ⟨0, by omega, rfl, rfl, rfl⟩
    case round =>
      obtain ⟨k, hk, rfl, rfl, rfl⟩ := hrel
      by_cases hkl : k < l.length
      · obtain ⟨a, rfl, hr⟩ := hcell k hkl
        replace hr := hr wr _ (Below.refl _ _) (Nat.le_refl _)
        have q0 : decide ((k : Int) < l.length) = true := by rw [decide_eq_true_iff]; omega
        have s1 := hst k
        have s2 := hst (k + 1)
        have hx0 := hxw k hkl
        rw [htk k hkl] at s2
        have hst' := Lib.hid (htk k hkl)
        generalize (l.take k).sum = S at *
        generalize l[k] = x at *
        clear hst htk hpg
        go_wp2_with fail
        go_roundw
        case rel => exact ⟨k + 1, by omega, by go_num, by rw [hst'.out], (by first | rfl | trivial)⟩
        case measure => simp [intOf]; omega
      · have e1 : k = l.length := by omega
        subst e1
        have q0 : decide ((l.length : Int) < l.length) = false := by simp
        rw [hTl]
        clear hTl
        obtain ⟨w0, hw0⟩ : ∃ w0, w0 = wr := ⟨_, rfl⟩
        subst hw0
        go_wp2_with fail
        go_loopw [8, 9, 10] (fun o s i w2 => ∃ k : Nat, k ≤ l.length ∧ i = .int .i64 k ∧ s = .int .i64 (l.take k).sum ∧ OwnRow w2 w0.heap.size 3 o ((P.take k).map (.int .i64)) ∧ Below w0.heap.size w0 w2) (fun _ _ i _ => l.length - (intOf i).toNat)
        case atStart => exact ⟨0, by omega, rfl, rfl, OwnRow.nil _ _ _, Below.refl _ _⟩
        case round =>
          obtain ⟨k, hk, rfl, rfl, hown, hb⟩ := hrel
          by_cases hkl : k < l.length
          · obtain ⟨a, rfl, hr⟩ := hcell k hkl
            replace hr := hr wr _ hb (Nat.le_refl _)
            have q0 : decide ((k : Int) < l.length) = true := by rw [decide_eq_true_iff]; omega
            have s1 := hst k
            have s2 := hst (k + 1)
            have hx0 := hxw k hkl
            rw [htk k hkl] at s2
            have hst' := Lib.hid (htk k hkl)
            have hPk : k < P.length := by omega
            have hPt : P.take (k + 1) = P.take k ++ [P[k]] := List.take_succ_eq_append_getElem hPk
            have hval := hpg k hPk
            have hlenP : ((P.take k).map (Value.int .i64)).length ≤ 1000 := by rw [List.length_map, List.length_take]; omega
            generalize (l.take k).sum = S at *
            generalize l[k] = x at *
            obtain ⟨m1, m2⟩ := mul_bd (X := 1000000000) (Y := 1000000000) hc1.1 hc1.2 (show -1000000000 ≤ S by omega) (by omega)
            obtain ⟨m3, m4⟩ := mul_bd (X := 1000000000) (Y := 1000000000) hc1.1 hc1.2 (show -1000000000 ≤ S + x by omega) (by omega)
            have g1 := quot_bd (c := c) (S := S) hc1 (by omega) hT1
            have g2 := quot_bd (c := c) (S := S + x) hc1 (by omega) hT1
            have f1 := rfloor_any (c * S) T wr (by omega) (by omega) hT1 (by omega)
            have f2 := rfloor_any (c * (S + x)) T wr (by omega) (by omega) hT1 (by omega)
            replace hval : Hid (c * (S + x) / T - c * S / T = P[k]) := Lib.hid (by rw [hval.out, hst'.out, Int.zero_add, Int.zero_add])
            generalize c * (S + x) / T = y2 at *
            generalize c * S / T = y1 at *
            replace hPt := Lib.hid hPt
            clear hst htk hpg hpi hcell hxw
            go_wp2_with (first
              | (at_builtin; refine app_row _ rfl _ _ 25 rfl w0.heap.size 3 (.int .i64 0) 8 Tryd.underlying25 Tryd.infoInt rfl (by decide) _ ((P.take k).map (.int .i64)) rfl (own_below hown ((Below.refl _ wr).alloc (Nat.le_refl _) _)) _ [.int .i64 (y2 - y1)] rfl (byte_row (Own.new _ #[.int .i64 (y2 - y1)] _)) (by intro u hu; simp at hu; subst hu; rfl) (by simp only [List.length_cons, List.length_nil]; omega) (by have := hb.size; simp; omega) ?_; intro v3 w3 hown3 hx3; refine Hid.out ?_)
              | (go_at_call 33; refine f1.mono ?_; rintro e w' ⟨rfl, rfl⟩; clear f1)
              | (go_at_call 33; refine f2.mono ?_; rintro e w' ⟨rfl, rfl⟩))
            have hb3 : Below w0.heap.size w0 w3 := hb.trans ((((Below.refl _ wr).alloc (Nat.le_refl _) _).mono hb.size).trans hx3)
            refine Lib.hid ?_
            go_wp2_with fail
            go_roundw
            case rel => exact ⟨k + 1, by omega, by go_num, by rw [hst'.out], by rw [hPt.out, List.map_append, ← hval.out]; exact hown3, hb3⟩
            case measure => simp [intOf]; omega
          · have e1 : k = l.length := by omega
            subst e1
            have q0 : decide ((l.length : Int) < l.length) = false := by simp
            rw [List.take_of_length_le (by omega)] at hown
            go_wp2_with fail
            go_ret2
            exact ⟨_, by rw [HF.out]; rfl, by rw [HF.out]; exact ⟨Row.of_own hown (by simp; omega), hpi⟩, hb⟩
end Go.Proofs.YtnjaedbekogeaaaDoor
