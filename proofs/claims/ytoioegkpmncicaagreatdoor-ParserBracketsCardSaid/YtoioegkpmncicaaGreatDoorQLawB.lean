/-
  The walk of ParserBrackets.
-/
import Derived.Test.YtoioegkpmncicaaGreatDoorQShw
import Derived.Test.YtoioegkpmncicaaGreatDoorQv
import Derived.Test.YtoioegkpmncicaaGreatDoorQu
namespace Go.Proofs.YtoioegkpmncicaaGreatDoor
open Go.RowKit Go.Shelf
set_option maxRecDepth 100000

set_option maxHeartbeats 6400000 in
theorem lawB_any (hHd : ∀ w, Lay w → Calls Tryz.prog 10 #[] w (Ret (.bool true) w)) (x : Xp) (v : Value) (s : List UInt8) (w : World) (hL : Lay w) (ht : Tree (fun _ => False) w x v) : Calls Tryz.prog 6 #[v, .string ⟨s.toArray⟩] w (Ret (.bool true) w) := by
  obtain ⟨ad0, cap0, rfl, -, -⟩ := ht.shape
  have hsz := bsz8 s
  have o0 := Own.new w #[.int .i64 x.o, .int .i64 x.n, .slice ad0 x.ks.length cap0] 24
  have hb : Below w.heap.size w (w.alloc (.cells #[.int .i64 x.o, .int .i64 x.n, .slice ad0 x.ks.length cap0] 24)) := alB w _
  have hH := hHd _ (hL.below hb)
  clear hHd
  by_cases hl : 1500 < s.length
  · have q0 : decide (1500 < (s.length : Int)) = true := by rw [decide_eq_true_iff]; omega
    have q1 : decide (1500 < s.length) = true := by rw [decide_eq_true_iff]; exact hl
    go_enter Tryz.func6, Tryz.ntmps6
    go_wp2_with fail
    refine hH.mono ?_
    rintro e w1 ⟨rfl, hx⟩
    replace hb := hb.trans (hx.mono hb.size)
    go_wp2_with fail
    go_ret
    exact Ret.mk rfl hb
  have hsl : s.length ≤ 1500 := by omega
  have q0 : decide (1500 < (s.length : Int)) = false := by rw [decide_eq_false_iff_not]; omega
  have q1 : decide (1500 < s.length) = false := by rw [decide_eq_false_iff_not]; omega
  have n1 : ¬ (9223372036854775807 < 2 + s.length) := by omega
  have m1 : ¬ (9223372036854775807 < (2 : Int) + (s.length : Int)) := by omega
  have n2 : ¬ (9223372036854775807 < 2 + s.length + 2) := by omega
  have m2 : ¬ (9223372036854775807 < (2 : Int) + (s.length : Int) + 2) := by omega
  have hX := fun t w1 (h : Below w.heap.size w w1) => pexpr_any t w1 (hL.below h)
  have hX2 := fun w1 (h : Below w.heap.size w w1) => hX (40 :: 32 :: (s ++ [10, 41])) w1 h
  have hS2 : (⟨(40 :: 32 :: (s ++ [10, 41])).toArray⟩ : ByteArray) = (⟨#[40, 32]⟩ : ByteArray) ++ ⟨s.toArray⟩ ++ ⟨#[10, 41]⟩ := by apply ByteArray.ext; simp [ByteArray.data_append]
  rw [hS2] at hX2
  clear hS2 hl
  have hVd := fun w1 h => rvalid8_any x _ w1 (Tree.below ht (w' := w1) h)
  cases hV : validF x with
  | false =>
    rw [hV] at hVd
    go_enter Tryz.func6, Tryz.ntmps6
    go_wp2_with fail
    refine hH.mono ?_
    rintro e w1 ⟨rfl, hx⟩
    replace o0 := o0.below hx
    replace hb := hb.trans (hx.mono hb.size)
    clear hx hH
    obtain ⟨u0, u1, u2, -, -, -, uz⟩ := o0.three
    go_wp2_with fail
    refine (hVd _ hb).mono ?_
    rintro e w2 ⟨rfl, hx⟩
    replace hb := hb.trans (hx.mono hb.size)
    clear hx hVd o0 u0 u1 u2 uz ht hV
    go_wp2_with fail
    refine (hX s _ hb).mono ?_
    rintro e wB ⟨xb, kb, tb, pb, rfl, Tb, hx⟩
    replace hb := hb.trans (hx.mono hb.size)
    clear hx
    obtain ⟨adb, capb, rfl, -, -⟩ := Tb.shape
    have ob := Own.new wB #[.int .i64 xb.o, .int .i64 xb.n, .slice adb xb.ks.length capb] 24
    have hbB := balloc hb (.cells #[.int .i64 xb.o, .int .i64 xb.n, .slice adb xb.ks.length capb] 24)
    have Tb2 := Tb.alloc (.cells #[.int .i64 xb.o, .int .i64 xb.n, .slice adb xb.ks.length capb] 24)
    go_wp2_with fail
    refine (hX2 _ hbB).mono ?_
    rintro e wC ⟨xc, kc, tc, pc, rfl, Tc, hx⟩
    replace ob := ob.below hx
    replace Tb2 := Tb2.below hx
    replace hb := hbB.trans (hx.mono hbB.size)
    clear hx hbB Tb
    obtain ⟨adc, capc, rfl, -, -⟩ := Tc.shape
    by_cases hk : kb = 0
    · subst hk
      obtain ⟨e1, e2⟩ := pc.det (expr_around hsl pb)
      subst e1 e2
      have oc := Own.new wC #[.int .i64 xc.o, .int .i64 xc.n, .slice adc xc.ks.length capc] 24
      replace ob := ob.below (alB wC (.cells #[.int .i64 xc.o, .int .i64 xc.n, .slice adc xc.ks.length capc] 24))
      have Tb3 := Tb2.alloc (.cells #[.int .i64 xc.o, .int .i64 xc.n, .slice adc xc.ks.length capc] 24)
      have Tc3 := Tc.alloc (.cells #[.int .i64 xc.o, .int .i64 xc.n, .slice adc xc.ks.length capc] 24)
      replace hb := balloc hb (.cells #[.int .i64 xc.o, .int .i64 xc.n, .slice adc xc.ks.length capc] 24)
      obtain ⟨y0, y1, y2, -, -, -, yz⟩ := ob.three
      obtain ⟨c0, c1, c2, -, -, -, cz⟩ := oc.three
      clear Tb2 Tc pb pc hX hX2
      go_wp2_with fail
      refine (same_self Tb3 Tc3).mono ?_
      rintro e wD ⟨rfl, hx⟩
      replace hb := hb.trans (hx.mono hb.size)
      clear hx
      go_wp2_with fail
      go_ret
      exact Ret.mk rfl hb
    · have g1 : ((kb : Int) != 0) = true := by rw [bne_iff_ne]; omega
      have g2 : (kb != 0) = true := by rw [bne_iff_ne]; exact hk
      replace hb := balloc hb (.cells #[.int .i64 xc.o, .int .i64 xc.n, .slice adc xc.ks.length capc] 24)
      clear Tb2 Tc pb pc hX hX2 hk
      go_wp2_with fail
      go_ret
      exact Ret.mk rfl hb
  | true =>
    rw [hV] at hVd
    obtain ⟨hok, hcn⟩ : okE x = true ∧ cntE x ≤ 200 := by
      have := hV
      unfold validF at this
      simp only [Bool.and_eq_true, decide_eq_true_eq] at this
      exact ⟨this.1.1, this.1.2⟩
    go_enter Tryz.func6, Tryz.ntmps6
    go_wp2_with fail
    refine hH.mono ?_
    rintro e w1 ⟨rfl, hx⟩
    replace o0 := o0.below hx
    replace hb := hb.trans (hx.mono hb.size)
    clear hx hH
    obtain ⟨u0, u1, u2, -, -, -, uz⟩ := o0.three
    go_wp2_with fail
    refine (hVd _ hb).mono ?_
    rintro e w2 ⟨rfl, hx⟩
    replace o0 := o0.below hx
    replace hb := hb.trans (hx.mono hb.size)
    clear hx hVd u0 u1 u2 uz
    obtain ⟨u0, u1, u2, -, -, -, uz⟩ := o0.three
    go_wp2_with fail
    refine (show_any _ x _ _ hok hcn (ht.below hb)).mono ?_
    rintro e w3 ⟨ss, q, hS, rfl, hx⟩
    replace o0 := o0.below hx
    replace hb := hb.trans (hx.mono hb.size)
    clear hx u0 u1 u2 uz
    go_wp2_with fail
    refine (hX ss _ hb).mono ?_
    rintro e w4 ⟨x4, k4, t4, p4, rfl, T4, hx⟩
    obtain ⟨e1, e2⟩ := p4.det (src_show hS hV)
    subst e1 e2
    replace o0 := o0.below hx
    replace hb := hb.trans (hx.mono hb.size)
    clear hx p4 hS
    obtain ⟨ad4, cap4, rfl, -, -⟩ := T4.shape
    have o4 := Own.new w4 #[.int .i64 x4.o, .int .i64 x4.n, .slice ad4 x4.ks.length cap4] 24
    replace o0 := o0.below (alB w4 (.cells #[.int .i64 x4.o, .int .i64 x4.n, .slice ad4 x4.ks.length cap4] 24))
    have T5 := T4.alloc (.cells #[.int .i64 x4.o, .int .i64 x4.n, .slice ad4 x4.ks.length cap4] 24)
    replace hb := balloc hb (.cells #[.int .i64 x4.o, .int .i64 x4.n, .slice ad4 x4.ks.length cap4] 24)
    obtain ⟨u0, u1, u2, -, -, -, uz⟩ := o0.three
    obtain ⟨y0, y1, y2, -, -, -, yz⟩ := o4.three
    have T0 := ht.below hb
    clear T4 hok hcn hV
    go_wp2_with fail
    refine (same_self T5 T0).mono ?_
    rintro e w5 ⟨rfl, hx⟩
    replace hb := hb.trans (hx.mono hb.size)
    clear hx T5 T0 o0 o4 u0 u1 u2 uz y0 y1 y2 yz ht
    go_wp2_with fail
    refine (hX s _ hb).mono ?_
    rintro e wB ⟨xb, kb, tb, pb, rfl, Tb, hx⟩
    replace hb := hb.trans (hx.mono hb.size)
    clear hx
    obtain ⟨adb, capb, rfl, -, -⟩ := Tb.shape
    have ob := Own.new wB #[.int .i64 xb.o, .int .i64 xb.n, .slice adb xb.ks.length capb] 24
    have hbB := balloc hb (.cells #[.int .i64 xb.o, .int .i64 xb.n, .slice adb xb.ks.length capb] 24)
    have Tb2 := Tb.alloc (.cells #[.int .i64 xb.o, .int .i64 xb.n, .slice adb xb.ks.length capb] 24)
    go_wp2_with fail
    refine (hX2 _ hbB).mono ?_
    rintro e wC ⟨xc, kc, tc, pc, rfl, Tc, hx⟩
    replace ob := ob.below hx
    replace Tb2 := Tb2.below hx
    replace hb := hbB.trans (hx.mono hbB.size)
    clear hx hbB Tb
    obtain ⟨adc, capc, rfl, -, -⟩ := Tc.shape
    by_cases hk : kb = 0
    · subst hk
      obtain ⟨e1, e2⟩ := pc.det (expr_around hsl pb)
      subst e1 e2
      have oc := Own.new wC #[.int .i64 xc.o, .int .i64 xc.n, .slice adc xc.ks.length capc] 24
      replace ob := ob.below (alB wC (.cells #[.int .i64 xc.o, .int .i64 xc.n, .slice adc xc.ks.length capc] 24))
      have Tb3 := Tb2.alloc (.cells #[.int .i64 xc.o, .int .i64 xc.n, .slice adc xc.ks.length capc] 24)
      have Tc3 := Tc.alloc (.cells #[.int .i64 xc.o, .int .i64 xc.n, .slice adc xc.ks.length capc] 24)
      replace hb := balloc hb (.cells #[.int .i64 xc.o, .int .i64 xc.n, .slice adc xc.ks.length capc] 24)
      obtain ⟨y0, y1, y2, -, -, -, yz⟩ := ob.three
      obtain ⟨c0, c1, c2, -, -, -, cz⟩ := oc.three
      clear Tb2 Tc pb pc hX hX2
      go_wp2_with fail
      refine (same_self Tb3 Tc3).mono ?_
      rintro e wD ⟨rfl, hx⟩
      replace hb := hb.trans (hx.mono hb.size)
      clear hx
      go_wp2_with fail
      go_ret
      exact Ret.mk rfl hb
    · have g1 : ((kb : Int) != 0) = true := by rw [bne_iff_ne]; omega
      have g2 : (kb != 0) = true := by rw [bne_iff_ne]; exact hk
      replace hb := balloc hb (.cells #[.int .i64 xc.o, .int .i64 xc.n, .slice adc xc.ks.length capc] 24)
      clear Tb2 Tc pb pc hX hX2 hk
      go_wp2_with fail
      go_ret
      exact Ret.mk rfl hb
end Go.Proofs.YtoioegkpmncicaaGreatDoor
