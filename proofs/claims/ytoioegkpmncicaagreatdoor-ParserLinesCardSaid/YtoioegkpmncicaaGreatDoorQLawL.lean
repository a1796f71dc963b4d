/-
  The walk of ParserLines.
-/
import Derived.Test.YtoioegkpmncicaaGreatDoorQt
import Derived.Test.YtoioegkpmncicaaGreatDoorQf
import Derived.Test.YtoioegkpmncicaaGreatDoorQv
namespace Go.Proofs.YtoioegkpmncicaaGreatDoor
open Go.RowKit Go.Shelf
set_option maxRecDepth 100000

set_option maxHeartbeats 1600000 in
theorem lawL_long (hHd : ∀ w, Lay w → Calls Tryz.prog 10 #[] w (Ret (.bool true) w)) (s : List UInt8) (m : Nat) (w : World) (hL : Lay w) (hl : 1500 < s.length) : Calls Tryz.prog 9 #[.string ⟨s.toArray⟩, .int .u8 (m : Nat)] w (Ret (.bool true) w) := by
  have hsz := bsz8 s
  have q0 : decide (1500 < (s.length : Int)) = true := by rw [decide_eq_true_iff]; omega
  have q1 : decide (1500 < s.length) = true := by rw [decide_eq_true_iff]; exact hl
  go_enter Tryz.func9, Tryz.ntmps9
  go_wp2_with fail
  refine (hHd w hL).mono ?_
  rintro e w1 ⟨rfl, hb⟩
  go_wp2_with fail
  go_ret
  exact Ret.mk rfl hb
set_option maxHeartbeats 3200000 in
theorem lawL_any (hHd : ∀ w, Lay w → Calls Tryz.prog 10 #[] w (Ret (.bool true) w)) (s : List UInt8) (m : Nat) (hm : m ≤ 255) (w : World) (hL : Lay w) : Calls Tryz.prog 9 #[.string ⟨s.toArray⟩, .int .u8 (m : Nat)] w (Ret (.bool true) w) := by
  by_cases hl : 1500 < s.length
  · exact lawL_long hHd s m w hL hl
  have hsz := bsz8 s
  have q0 : decide (1500 < (s.length : Int)) = false := by rw [decide_eq_false_iff_not]; omega
  have q1 : decide (1500 < s.length) = false := by rw [decide_eq_false_iff_not]; exact hl
  have hcv : IntKind.i64.wrap (m : Int) = (m : Int) := IntWalk.i64_in _ (by omega)
  have hpl : ∀ {a : List (List Xp)} {e n : Nat}, RP s a e n → RP (List.replicate m 10 ++ s) a e (if e = 0 then 0 else n + m) := fun h => rates_lines (by omega) (by omega) h
  have HP : Hid (∀ (a : List (List Xp)) (e n : Nat), RP s a e n → RP (List.replicate m 10 ++ s) a e (if e = 0 then 0 else n + m)) := Lib.hid fun _ _ _ h => hpl h
  have hR1 := fun w1 h => rates_law s w1 (hL.below (w1 := w1) h)
  have hR2 := fun w1 h => rates_law (List.replicate m 10 ++ s) w1 (hL.below (w1 := w1) h)
  simp only [← bapp] at hR2
  have hrz : (⟨(List.replicate m 10).toArray⟩ : ByteArray).size = m := by rw [bsz8]; simp
  have ha1 : (m : Int) + (s.length : Int) ≤ 9223372036854775807 := by omega
  have ha2 : ¬ (9223372036854775807 < (m : Int) + (s.length : Int)) := by omega
  have ha3 : ¬ (9223372036854775807 < m + s.length) := by omega
  have hrp := fun w1 => repeat_any m (by omega) w1
  have hH := hHd w hL
  have HL := Lib.hid hl
  clear hpl hl hHd
  generalize (⟨s.toArray⟩ : ByteArray) = S at *
  generalize (⟨(List.replicate m 10).toArray⟩ : ByteArray) = R at *
  go_enter Tryz.func9, Tryz.ntmps9
  go_wp2_with fail
  refine hH.mono ?_
  rintro e w1 ⟨rfl, hb⟩
  go_wp2_with fail
  refine (hR1 _ hb).mono ?_
  rintro e w2 ⟨rs, ec, n, v2, p1, rfl, hl1, r1, hx⟩
  replace hb := hb.trans (hx.mono hb.size)
  clear hx
  go_wp2_with fail
  refine (hrp _).mono ?_
  rintro e w3 ⟨rfl, hx⟩
  replace r1 := r1.below hx
  replace hb := hb.trans (hx.mono hb.size)
  clear hx
  go_wp2_with fail
  refine (hR2 _ hb).mono ?_
  rintro e w4 ⟨ss, ec2, n2, v4, p2, rfl, hl2, r2, hx⟩
  replace r1 := r1.below hx
  replace hb := hb.trans (hx.mono hb.size)
  clear hx
  obtain ⟨e1, rfl, hn⟩ := p2.det (HP.out _ _ _ p1)
  have e2 := tl_inj e1
  subst e2
  have hS := sameRates_any _ _ _ w4 r1 r2
  have HN : Hid (ec2 ≠ 0 → n ≤ 20001) := Lib.hid fun h => by
    have h3 := (rates_line p1 h).2
    have := nl_len s
    have := HL.out
    omega
  clear p1 p2 e1 HP hR1 hR2 hrp hH
  by_cases h0 : ec2 = 0
  · subst h0
    rw [if_pos rfl] at hn
    subst hn
    go_wp2_with fail
    refine hS.mono ?_
    rintro e w5 ⟨rfl, hx⟩
    go_wp2_with fail
    go_ret
    exact Ret.mk rfl (hb.trans (hx.mono hb.size))
  · rw [if_neg h0] at hn
    subst hn
    have h1 : ((ec2 : Int) != 0) = true := by rw [bne_iff_ne]; omega
    have h2 : (ec2 != 0) = true := by rw [bne_iff_ne]; exact h0
    have hwn : IntKind.i64.wrap ((n : Int) + (m : Int)) = (n : Int) + (m : Int) := IntWalk.i64_in _ (by have := HN.out h0; omega)
    clear h0
    go_wp2_with fail
    refine hS.mono ?_
    rintro e w5 ⟨rfl, hx⟩
    go_wp2_with fail
    go_ret
    exact Ret.mk rfl (hb.trans (hx.mono hb.size))
end Go.Proofs.YtoioegkpmncicaaGreatDoor
