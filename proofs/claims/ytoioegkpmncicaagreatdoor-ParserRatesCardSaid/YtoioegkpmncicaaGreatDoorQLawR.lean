/-
  The walk of ParserRates.
-/
import Derived.Test.YtoioegkpmncicaaGreatDoorQt
import Derived.Test.YtoioegkpmncicaaGreatDoorQf
import Derived.Test.YtoioegkpmncicaaGreatDoorQv
import Derived.Test.YtoioegkpmncicaaGreatDoorQn
import Derived.Shelf.Strings.Count
namespace Go.Proofs
open Go.Shelf
def Tryz.laysCount_ren : Go.Shelf.Ren := ⟨fun | 138 => 20 | 195 => 44 | 218 => 45 | 143 => 46 | 219 => 71 | 217 => 101 | 225 => 102 | 224 => 103 | 267 => 104 | 266 => 125 | 314 => 126 | n => n, fun | 9 => 9 | 3 => 3 | 4 => 4 | 5 => 5 | 0 => 0 | 46 => 94 | 146 => 125 | 51 => 55 | n => n, fun | 1 => 0 | n => n⟩
theorem Tryz.laysCount : Go.Proofs.Lays.n138 Tryz.prog Tryz.laysCount_ren := {
  mixed := by kernel_rfl
  f138 := Tryz.func20.trans (congrArg some (by kernel_rfl))
  f143 := Tryz.func46.trans (congrArg some (by kernel_rfl))
  f195 := Tryz.func44.trans (congrArg some (by kernel_rfl))
  f217 := Tryz.func101.trans (congrArg some (by kernel_rfl))
  f218 := Tryz.func45.trans (congrArg some (by kernel_rfl))
  f219 := Tryz.func71.trans (congrArg some (by kernel_rfl))
  f224 := Tryz.func103.trans (congrArg some (by kernel_rfl))
  f225 := Tryz.func102.trans (congrArg some (by kernel_rfl))
  f266 := Tryz.func125.trans (congrArg some (by kernel_rfl))
  f267 := Tryz.func104.trans (congrArg some (by kernel_rfl))
  f314 := Tryz.func126.trans (congrArg some (by kernel_rfl))
  t0 := Tryz.underlying0
  a0 := Tryz.isAgg0
  z0 := Tryz.sizeOf0
  v0 := Tryz.zeroValue0
  t3 := Tryz.underlying3
  a3 := Tryz.isAgg3
  z3 := Tryz.sizeOf3
  v3 := Tryz.zeroValue3
  t4 := Tryz.underlying4
  a4 := Tryz.isAgg4
  z4 := Tryz.sizeOf4
  v4 := Tryz.zeroValue4
  t5 := Tryz.underlying5
  a5 := Tryz.isAgg5
  z5 := Tryz.sizeOf5
  v5 := Tryz.zeroValue5
  t9 := Tryz.underlying9
  a9 := Tryz.isAgg9
  z9 := Tryz.sizeOf9
  v9 := Tryz.zeroValue9
  t46 := Tryz.underlying94
  a46 := Tryz.isAgg94
  z46 := Tryz.sizeOf94
  v46 := Tryz.zeroValue94
  t51 := Tryz.underlying55
  a51 := Tryz.isAgg55
  z51 := Tryz.sizeOf55
  v51 := Tryz.zeroValue55
  t146 := Tryz.underlying125
  a146 := Tryz.isAgg125
  z146 := Tryz.sizeOf125
  v146 := Tryz.zeroValue125
  g1 := by kernel_rfl }
end Go.Proofs
namespace Go.Proofs.YtoioegkpmncicaaGreatDoor
open Go.RowKit Go.Shelf
set_option maxRecDepth 100000

theorem nlCount_any (s : List UInt8) (w : World) : Calls Tryz.prog 20 #[.string ⟨s.toArray⟩, .string ⟨#[10]⟩] w (Ret (.int .i64 (nl s : Nat)) w) := by
  refine (Any.strings_Count_one Tryz.laysCount ⟨s.toArray⟩ 10 w).mono ?_
  rintro e w' ⟨rfl, rfl⟩
  exact ⟨by simp [Lib.countByte, nl, List.count], Below.refl _ _⟩
theorem long_zero {s : List UInt8} {a : List (List Xp)} {e n : Nat} (hl : 20000 < s.length) (h : RP s a e n) : n = 0 := by
  have ht : tokP s = ([], 2, 0) := by unfold tokP; rw [if_pos hl]
  cases h with
  | lex _ => rw [ht]
  | ok _ _ => rfl
  | err h0 _ => rw [ht] at h0; cases h0
theorem cw_take {L : List Tok} {k : Nat} (hk : k < L.length) : cw (L.take (k + 1)) = cw (L.take k) + if (L[k]).t = wRate then 1 else 0 := by
  rw [List.take_succ_eq_append_getElem hk]
  unfold cw
  rw [List.countP_append]
  by_cases h : (L[k]).t = wRate <;> simp [h]
set_option maxHeartbeats 1600000 in
theorem lawR_mid (hHd : ∀ w, Lay w → Calls Tryz.prog 10 #[] w (Ret (.bool true) w)) (s : List UInt8) (w : World) (hL : Lay w) (hl : 1500 < s.length) (h2 : s.length ≤ 20000) : Calls Tryz.prog 4 #[.string ⟨s.toArray⟩] w (Ret (.bool true) w) := by
  have hsz := bsz8 s
  have q0 : decide (1500 < (s.length : Int)) = true := by rw [decide_eq_true_iff]; omega
  have q1 : decide (1500 < s.length) = true := by rw [decide_eq_true_iff]; exact hl
  have q2 : decide ((s.length : Int) ≤ 20000) = true := by rw [decide_eq_true_iff]; omega
  have q3 : decide (s.length ≤ 20000) = true := by rw [decide_eq_true_iff]; exact h2
  go_enter Tryz.func4, Tryz.ntmps4
  go_wp2_with fail
  refine (hHd w hL).mono ?_
  rintro e w1 ⟨rfl, hb⟩
  go_wp2_with fail
  go_ret
  exact Ret.mk rfl hb
set_option maxHeartbeats 6400000 in
theorem lawR_any (hHd : ∀ w, Lay w → Calls Tryz.prog 10 #[] w (Ret (.bool true) w)) (s : List UInt8) (w : World) (hL : Lay w) : Calls Tryz.prog 4 #[.string ⟨s.toArray⟩] w (Ret (.bool true) w) := by
  by_cases hl : 1500 < s.length ∧ s.length ≤ 20000
  · exact lawR_mid hHd s w hL hl.1 hl.2
  have hsz := bsz8 s
  have HL := Lib.hid hl
  have hq : (decide (1500 < (s.length : Int)) = false ∧ decide (1500 < s.length) = false) ∨ (decide (1500 < (s.length : Int)) = true ∧ decide (1500 < s.length) = true ∧ decide ((s.length : Int) ≤ 20000) = false ∧ decide (s.length ≤ 20000) = false) := by
    by_cases h1 : 1500 < s.length
    · right; exact ⟨by rw [decide_eq_true_iff]; omega, by rw [decide_eq_true_iff]; exact h1, by rw [decide_eq_false_iff_not]; omega, by rw [decide_eq_false_iff_not]; omega⟩
    · left; exact ⟨by rw [decide_eq_false_iff_not]; omega, by rw [decide_eq_false_iff_not]; exact h1⟩
  have hR1 := fun w1 h => rates_law s w1 (hL.below (w1 := w1) h)
  have hT1 := fun w1 => rtok_any s w1
  have hC := fun w1 => nlCount_any s w1
  have hH := hHd w hL
  clear hl hHd
  have hgo : ∀ w1, Below w.heap.size w w1 → Calls Tryz.prog 17 #[.string ⟨s.toArray⟩] w1 (RL s w1) := hR1
  generalize hS : (⟨s.toArray⟩ : ByteArray) = S at *
  clear hR1
  rcases hq with ⟨q0, q1⟩ | ⟨q0, q1, q2, q3⟩
  all_goals (
    go_enter Tryz.func4, Tryz.ntmps4
    go_wp2_with fail
    refine hH.mono ?_
    rintro e w1 ⟨rfl, hb⟩
    go_wp2_with fail
    refine (hgo _ hb).mono ?_
    rintro e w2 ⟨rs, ec, n, v2, p1, rfl, hl1, r1, hx⟩
    replace hb := hb.trans (hx.mono hb.size)
    clear hx hH hgo
    obtain ⟨ad, cap, rfl⟩ := r1.shape
    by_cases h0 : ec = 0
    · subst h0
      obtain ⟨hz, -, rfl⟩ := p1.zero
      obtain ⟨hw1, hw2⟩ := rates_words p1
      have hn5 := tok_count s
      have hval : ∀ (k : Nat) (hk : k < rs.length), validF rs[k].when = true ∧ validF rs[k].price = true := fun k hk => by
        have := hw2 _ (List.mem_map_of_mem (f := Rt.list) (List.getElem_mem hk))
        have e : validR rs[k].list = (validF rs[k].when && validF rs[k].price) := rfl
        rw [e, Bool.and_eq_true] at this
        exact this
      go_wp2_with fail
      refine (hT1 _).mono ?_
      rintro e w3 ⟨v3, rfl, tk, -, hx⟩
      replace r1 := r1.below hx
      replace hb := hb.trans (hx.mono hb.size)
      clear hx hT1 hC p1 hw2
      rw [hz]
      rw [List.length_map] at hw1
      generalize (tokP s).1 = L at *
      generalize (tokP s).2.2 = ln at *
      clear hz
      obtain ⟨td, tcap, htv⟩ := tk.open
      rw [List.length_map] at htv
      subst htv
      go_wp2_with fail
      go_loopw [10, 11] (fun x i wr => ∃ k : Nat, i = .int .i64 k ∧ k ≤ L.length ∧ x = .int .i64 (cw (L.take k) : Nat) ∧ w3 = wr) (fun _ i _ => L.length - (intOf i).toNat)
      case atStart => exact ⟨0, rfl, Nat.zero_le _, rfl, rfl⟩
      case round =>
        obtain ⟨k, rfl, hk, rfl, rfl⟩ := hrel
        have hcl : cw (L.take k) ≤ L.length := Nat.le_trans List.countP_le_length (by rw [List.length_take]; omega)
        by_cases hkl : k < L.length
        · obtain ⟨a, rfl, d0, d1, d2, hab⟩ := (show Toks w3 (.slice td (L.map Tok.rt).length tcap) (L.map Tok.rt) by rw [List.length_map]; exact tk).reads (Below.refl _ _) (Nat.le_refl _) k (by rw [List.length_map]; exact hkl)
          have hcw := cw_take hkl
          simp only [List.getElem_map] at d0 d1 d2
          have hwk : IntKind.i64.wrap ((k : Int) + 1) = (k : Int) + 1 := IntWalk.i64_in _ (by omega)
          by_cases ht : (L[k]).t = wRate
          · rw [if_pos ht] at hcw
            have e2 : (L[k]).rt.t = [114, 97, 116, 101] := ht
            rw [e2] at d2
            generalize cw (L.take k) = c at *
            have hwc : IntKind.i64.wrap ((c : Int) + 1) = (c : Int) + 1 := IntWalk.i64_in _ (by omega)
            have HC := Lib.hid hcw
            clear hcw ht e2 d0 d1
            go_wp2_with fail
            go_roundw
            case rel => exact ⟨k + 1, by go_num, by omega, by rw [HC.out]; go_num, trivial⟩
            case measure => simp [intOf]; omega
          · rw [if_neg ht] at hcw
            have e2 : ((L[k]).rt.t == [114, 97, 116, 101]) = false := by rw [beq_eq_false_iff_ne]; exact ht
            generalize (L[k]).rt.t = xt at *
            generalize cw (L.take k) = c at *
            have HC := Lib.hid hcw
            clear hcw ht d0 d1
            go_wp2_with fail
            go_roundw
            case rel => exact ⟨k + 1, by go_num, by omega, by rw [HC.out]; rfl, trivial⟩
            case measure => simp [intOf]; omega
        · have hkE : k = L.length := by omega
          subst hkE
          rw [List.take_length, hw1]
          have r3 := Lib.hid r1
          clear hkl hk hcl
          go_wp2_with fail
          go_loopw [3, 12] (fun x i wr => ∃ k : Nat, i = .int .i64 k ∧ k ≤ rs.length ∧ x = .bool true ∧ Below w3.heap.size w3 wr) (fun _ i _ => rs.length - (intOf i).toNat)
          case atStart => exact ⟨0, rfl, Nat.zero_le _, rfl, Below.refl _ _⟩
          case round =>
            obtain ⟨k, rfl, hk, rfl, q9⟩ := hrel
            by_cases hkl : k < rs.length
            · obtain ⟨a, ad1, cap1, ad2, cap2, rfl, hab, ⟨ad1', cap1', ad2', cap2', hee, t1, t2⟩, m0, m1, m2, m3, m4, m5, m6, m7, m8, m9, m10, m11, m12, m13, m14, m15⟩ := (r3.out.below q9).reads k hkl
              have hwk : IntKind.i64.wrap ((k : Int) + 1) = (k : Int) + 1 := IntWalk.i64_in _ (by omega)
              obtain ⟨g1, g2⟩ := hval k hkl
              simp only [rateC, List.cons.injEq, Value.slice.injEq, true_and, and_true] at hee
              obtain ⟨⟨e1, e2⟩, e3, e4⟩ := hee
              subst e1 e2 e3 e4
              have hv1 := pvalid_any _ _ _ t1
              have hv2 := fun w5 h => pvalid_any _ _ w5 (t2.below (w' := w5) h)
              rw [g1] at hv1
              rw [g2] at hv2
              generalize rs[k] = x at *
              clear g1 g2 t1 t2 m0 m1 m2 m3 m4 m5 m6 m7 m8 m9
              go_wp2_with fail
              refine hv1.mono ?_
              rintro e w5 ⟨rfl, hx⟩
              have n13 := (hx.cell (p := { block := (a.add (k * 16)).block, off := (a.add (k * 16)).off + 13 }) hab).trans m13
              have n14 := (hx.cell (p := { block := (a.add (k * 16)).block, off := (a.add (k * 16)).off + 14 }) hab).trans m14
              have n15 := (hx.cell (p := { block := (a.add (k * 16)).block, off := (a.add (k * 16)).off + 15 }) hab).trans m15
              replace q9 := q9.trans (hx.mono q9.size)
              have hv3 := hv2 _ hx
              clear hv1 hv2 hx m10 m11 m12 m13 m14 m15
              go_wp2_with fail
              refine hv3.mono ?_
              rintro e w6 ⟨rfl, hx⟩
              replace q9 := q9.trans (hx.mono q9.size)
              clear hv3 n13 n14 n15
              go_wp2_with fail
              go_roundw
              case rel => exact ⟨k + 1, by go_num, by omega, rfl, q9⟩
              case measure => simp [intOf]; omega
            · have hbf := hb.trans (q9.mono hb.size)
              clear hval
              go_wp2_with fail
              go_ret
              exact Ret.mk rfl hbf
    · have h1 : ((ec : Int) != 0) = true := by rw [bne_iff_ne]; omega
      have h2 : (ec != 0) = true := by rw [bne_iff_ne]; exact h0
      obtain ⟨he, hn⟩ := rates_line p1 h0
      have he2 : rs = [] := by simpa using he
      subst he2
      have hnl := nl_len s
      have hlong : 1 ≤ n → s.length ≤ 20000 := fun h => by
        apply Classical.byContradiction
        intro hc
        have := long_zero (by omega) p1
        omega
      clear p1 h0 he hT1
      rcases hn with ⟨n1, n2⟩ | ⟨rfl, n2⟩
      · have g1 : decide ((n : Int) ≥ 1) = true := by rw [decide_eq_true_iff]; omega
        have g2 : decide (1 ≤ n) = true := by rw [decide_eq_true_iff]; omega
        have g3 : decide ((n : Int) ≤ 1 + (nl s : Int)) = true := by rw [decide_eq_true_iff]; omega
        have g4 : decide (n ≤ 1 + nl s) = true := by rw [decide_eq_true_iff]; exact n2
        have hwa : IntKind.i64.wrap (1 + (nl s : Int)) = 1 + (nl s : Int) := IntWalk.i64_in _ (by have := hlong n1; omega)
        clear n1 n2 hlong
        go_wp2_with fail
        refine (hC _).mono ?_
        rintro e w3 ⟨rfl, hx⟩
        go_wp2_with fail
        go_ret
        exact Ret.mk rfl (hb.trans (hx.mono hb.size))
      · have g1 : decide (20000 < (s.length : Int)) = true := by rw [decide_eq_true_iff]; omega
        have g2 : decide (20000 < s.length) = true := by rw [decide_eq_true_iff]; exact n2
        go_wp2_with fail
        go_ret
        exact Ret.mk rfl hb)
end Go.Proofs.YtoioegkpmncicaaGreatDoor
