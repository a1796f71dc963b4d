/-
  SpanMatchesReference: all functions return what the reference implementation returns. No conditions: for every input.
-/
import Derived.Test.YtfhhkbijcleedaaSpanHead
import Derived.Test.YtfhhkbijcleedaaSpanArg
import Derived.Test.YtfhhkbijcleedaaSpanRefD
import Derived.SizedLaws
import Derived.Test.YtfhhkbijcleedaaRows
import Derived.WalkKit
import Derived.ProofKit
import Derived.OpenShut
import Derived.ChangeOld
import Derived.Below
import Derived.Lib.SmallJoins
namespace Go.Proofs.Ytfhhkbijcleedaa
open Go.ChangeShapes Go.WideShapes Go.ChangeAt Go.RowKit Go.Joins
set_option linter.unusedVariables false

set_option maxRecDepth 100000 in
set_option maxHeartbeats 16000000 in
theorem walkMatches (va : Value) (a : List Sp) (vb : Value) (b : List Sp) (n : Int) (w : World) (ha : Spans w va a) (hb0 : Spans w vb b) (_ : (Lit.int .i64 n).wf = true) : Calls Try.prog 3 #[va, vb, .int .i64 n] w (Ret (.bool true) w) := by
  have hb := Below.refl w.heap.size w
  have hla := ha.short
  have hlb := hb0.short
  obtain ⟨ad_a, cap_a, rfl⟩ := ha.shape
  obtain ⟨ad_b, cap_b, rfl⟩ := hb0.shape
  have hcase : (60 < a.length ∧ a.length ≤ 1000) ∨ (a.length ≤ 60 ∧ 60 < b.length) ∨ (1000 < a.length ∧ 60 < b.length) ∨ (b.length ≤ 60 ∧ 1200 < a.length ∧ a.length ≤ 3000) ∨ (a.length ≤ 60 ∧ b.length ≤ 60) ∨ (b.length ≤ 60 ∧ 1000 < a.length ∧ a.length ≤ 1200) ∨ (b.length ≤ 60 ∧ 3000 < a.length) := by omega
  rcases hcase with ⟨h1, h2⟩ | ⟨h1, h2⟩ | ⟨h1, h2⟩ | ⟨h1, h2, h3⟩ | ⟨h1, h2⟩ | ⟨h1, h2, h3⟩ | ⟨h1, h2⟩
  · go_enter Try.func3, Try.ntmps3
    go_wp2_with fail
    refine (head_any w).mono ?_
    rintro e w1 ⟨rfl, hx⟩
    replace ha := ha.below hx
    replace hb0 := hb0.below hx
    replace hb : Below w.heap.size w w1 := hb.trans (hx.mono hb.size)
    clear hx
    go_wp2_with fail
    go_ret
    exact Ret.mk rfl hb
  · go_enter Try.func3, Try.ntmps3
    go_wp2_with fail
    refine (head_any w).mono ?_
    rintro e w1 ⟨rfl, hx⟩
    replace ha := ha.below hx
    replace hb0 := hb0.below hx
    replace hb : Below w.heap.size w w1 := hb.trans (hx.mono hb.size)
    clear hx
    go_wp2_with fail
    go_ret
    exact Ret.mk rfl hb
  · go_enter Try.func3, Try.ntmps3
    go_wp2_with fail
    refine (head_any w).mono ?_
    rintro e w1 ⟨rfl, hx⟩
    replace ha := ha.below hx
    replace hb0 := hb0.below hx
    replace hb : Below w.heap.size w w1 := hb.trans (hx.mono hb.size)
    clear hx
    go_wp2_with fail
    go_ret
    exact Ret.mk rfl hb
  · go_enter Try.func3, Try.ntmps3
    go_wp2_with fail
    refine (head_any w).mono ?_
    rintro e w1 ⟨rfl, hx⟩
    replace ha := ha.below hx
    replace hb0 := hb0.below hx
    replace hb : Below w.heap.size w w1 := hb.trans (hx.mono hb.size)
    clear hx
    go_wp2_with fail
    go_ret
    exact Ret.mk rfl hb
  · go_enter Try.func3, Try.ntmps3
    go_wp2_with fail
    refine (head_any w).mono ?_
    rintro e w1 ⟨rfl, hx⟩
    replace ha := ha.below hx
    replace hb0 := hb0.below hx
    replace hb : Below w.heap.size w w1 := hb.trans (hx.mono hb.size)
    clear hx
    go_wp2_with fail
    refine (valid_any _ a w1 ha).mono ?_
    rintro e w2 ⟨rfl, hx⟩
    replace ha := ha.below hx
    replace hb0 := hb0.below hx
    replace hb : Below w.heap.size w w2 := hb.trans (hx.mono hb.size)
    clear hx
    go_wp2_with fail
    refine (refValid_any _ a w2 ha).mono ?_
    rintro e w3 ⟨rfl, hx⟩
    replace ha := ha.below hx
    replace hb0 := hb0.below hx
    replace hb : Below w.heap.size w w3 := hb.trans (hx.mono hb.size)
    clear hx
    go_wp2_with fail
    refine (union_any _ _ a b w3 ha hb0).mono ?_
    rintro e w4 ⟨v_xunion, rfl, xunion, hx⟩
    replace ha := ha.below hx
    replace hb0 := hb0.below hx
    replace hb : Below w.heap.size w w4 := hb.trans (hx.mono hb.size)
    clear hx
    go_wp2_with fail
    refine (refUnion_any _ _ a b w4 ha hb0).mono ?_
    rintro e w5 ⟨v_yunion, rfl, yunion, hx⟩
    replace ha := ha.below hx
    replace hb0 := hb0.below hx
    replace xunion := xunion.below hx
    replace hb : Below w.heap.size w w5 := hb.trans (hx.mono hb.size)
    clear hx
    go_wp2_with fail
    refine (hd_same _ _ w5 _ xunion yunion).mono ?_
    rintro e w6 ⟨rfl, hx⟩
    replace ha := ha.below hx
    replace hb0 := hb0.below hx
    replace xunion := xunion.below hx
    replace yunion := yunion.below hx
    replace hb : Below w.heap.size w w6 := hb.trans (hx.mono hb.size)
    clear hx
    go_wp2_with fail
    refine (meet_any _ _ a b w6 ha hb0).mono ?_
    rintro e w7 ⟨v_xmeet, rfl, xmeet, hx⟩
    replace ha := ha.below hx
    replace hb0 := hb0.below hx
    replace xunion := xunion.below hx
    replace yunion := yunion.below hx
    replace hb : Below w.heap.size w w7 := hb.trans (hx.mono hb.size)
    clear hx
    go_wp2_with fail
    refine (refMeet_any _ _ a b w7 ha hb0).mono ?_
    rintro e w8 ⟨v_ymeet, rfl, ymeet, hx⟩
    replace ha := ha.below hx
    replace hb0 := hb0.below hx
    replace xunion := xunion.below hx
    replace yunion := yunion.below hx
    replace xmeet := xmeet.below hx
    replace hb : Below w.heap.size w w8 := hb.trans (hx.mono hb.size)
    clear hx
    go_wp2_with fail
    refine (hd_same _ _ w8 _ xmeet ymeet).mono ?_
    rintro e w9 ⟨rfl, hx⟩
    replace ha := ha.below hx
    replace hb0 := hb0.below hx
    replace xunion := xunion.below hx
    replace yunion := yunion.below hx
    replace xmeet := xmeet.below hx
    replace ymeet := ymeet.below hx
    replace hb : Below w.heap.size w w9 := hb.trans (hx.mono hb.size)
    clear hx
    go_wp2_with fail
    refine (less_any _ _ a b w9 ha hb0).mono ?_
    rintro e w10 ⟨v_xless, rfl, xless, hx⟩
    replace ha := ha.below hx
    replace hb0 := hb0.below hx
    replace xunion := xunion.below hx
    replace yunion := yunion.below hx
    replace xmeet := xmeet.below hx
    replace ymeet := ymeet.below hx
    replace hb : Below w.heap.size w w10 := hb.trans (hx.mono hb.size)
    clear hx
    go_wp2_with fail
    refine (refLess_any _ _ a b w10 ha hb0).mono ?_
    rintro e w11 ⟨v_yless, rfl, yless, hx⟩
    replace ha := ha.below hx
    replace hb0 := hb0.below hx
    replace xunion := xunion.below hx
    replace yunion := yunion.below hx
    replace xmeet := xmeet.below hx
    replace ymeet := ymeet.below hx
    replace xless := xless.below hx
    replace hb : Below w.heap.size w w11 := hb.trans (hx.mono hb.size)
    clear hx
    go_wp2_with fail
    refine (hd_same _ _ w11 _ xless yless).mono ?_
    rintro e w12 ⟨rfl, hx⟩
    replace ha := ha.below hx
    replace hb0 := hb0.below hx
    replace xunion := xunion.below hx
    replace yunion := yunion.below hx
    replace xmeet := xmeet.below hx
    replace ymeet := ymeet.below hx
    replace xless := xless.below hx
    replace yless := yless.below hx
    replace hb : Below w.heap.size w w12 := hb.trans (hx.mono hb.size)
    clear hx
    go_wp2_with fail
    refine (count_any _ a w12 ha).mono ?_
    rintro e w13 ⟨rfl, hx⟩
    replace ha := ha.below hx
    replace hb0 := hb0.below hx
    replace xunion := xunion.below hx
    replace yunion := yunion.below hx
    replace xmeet := xmeet.below hx
    replace ymeet := ymeet.below hx
    replace xless := xless.below hx
    replace yless := yless.below hx
    replace hb : Below w.heap.size w w13 := hb.trans (hx.mono hb.size)
    clear hx
    go_wp2_with fail
    refine (refCount_any _ a w13 ha).mono ?_
    rintro e w14 ⟨rfl, hx⟩
    replace ha := ha.below hx
    replace hb0 := hb0.below hx
    replace xunion := xunion.below hx
    replace yunion := yunion.below hx
    replace xmeet := xmeet.below hx
    replace ymeet := ymeet.below hx
    replace xless := xless.below hx
    replace yless := yless.below hx
    replace hb : Below w.heap.size w w14 := hb.trans (hx.mono hb.size)
    clear hx
    go_wp2_with fail
    refine (most_any _ a w14 ha).mono ?_
    rintro e w15 ⟨rfl, hx⟩
    replace ha := ha.below hx
    replace hb0 := hb0.below hx
    replace xunion := xunion.below hx
    replace yunion := yunion.below hx
    replace xmeet := xmeet.below hx
    replace ymeet := ymeet.below hx
    replace xless := xless.below hx
    replace yless := yless.below hx
    replace hb : Below w.heap.size w w15 := hb.trans (hx.mono hb.size)
    clear hx
    go_wp2_with fail
    refine (refMost_any _ a w15 ha).mono ?_
    rintro e w16 ⟨rfl, hx⟩
    replace ha := ha.below hx
    replace hb0 := hb0.below hx
    replace xunion := xunion.below hx
    replace yunion := yunion.below hx
    replace xmeet := xmeet.below hx
    replace ymeet := ymeet.below hx
    replace xless := xless.below hx
    replace yless := yless.below hx
    replace hb : Below w.heap.size w w16 := hb.trans (hx.mono hb.size)
    clear hx
    go_wp2_with fail
    refine (weekday_any n w16).mono ?_
    rintro e w17 ⟨rfl, hx⟩
    replace ha := ha.below hx
    replace hb0 := hb0.below hx
    replace xunion := xunion.below hx
    replace yunion := yunion.below hx
    replace xmeet := xmeet.below hx
    replace ymeet := ymeet.below hx
    replace xless := xless.below hx
    replace yless := yless.below hx
    replace hb : Below w.heap.size w w17 := hb.trans (hx.mono hb.size)
    clear hx
    go_wp2_with fail
    refine (refWeekday_any n w17).mono ?_
    rintro e w18 ⟨rfl, hx⟩
    replace ha := ha.below hx
    replace hb0 := hb0.below hx
    replace xunion := xunion.below hx
    replace yunion := yunion.below hx
    replace xmeet := xmeet.below hx
    replace ymeet := ymeet.below hx
    replace xless := xless.below hx
    replace yless := yless.below hx
    replace hb : Below w.heap.size w w18 := hb.trans (hx.mono hb.size)
    clear hx
    go_wp2_with fail
    go_ret
    exact Ret.mk rfl hb
  · go_enter Try.func3, Try.ntmps3
    go_wp2_with fail
    refine (head_any w).mono ?_
    rintro e w1 ⟨rfl, hx⟩
    replace ha := ha.below hx
    replace hb0 := hb0.below hx
    replace hb : Below w.heap.size w w1 := hb.trans (hx.mono hb.size)
    clear hx
    go_wp2_with fail
    refine (valid_any _ a w1 ha).mono ?_
    rintro e w2 ⟨rfl, hx⟩
    replace ha := ha.below hx
    replace hb0 := hb0.below hx
    replace hb : Below w.heap.size w w2 := hb.trans (hx.mono hb.size)
    clear hx
    go_wp2_with fail
    refine (refValid_any _ a w2 ha).mono ?_
    rintro e w3 ⟨rfl, hx⟩
    replace ha := ha.below hx
    replace hb0 := hb0.below hx
    replace hb : Below w.heap.size w w3 := hb.trans (hx.mono hb.size)
    clear hx
    go_wp2_with fail
    refine (union_any _ _ a b w3 ha hb0).mono ?_
    rintro e w4 ⟨v_xunion, rfl, xunion, hx⟩
    replace ha := ha.below hx
    replace hb0 := hb0.below hx
    replace hb : Below w.heap.size w w4 := hb.trans (hx.mono hb.size)
    clear hx
    go_wp2_with fail
    refine (refUnion_any _ _ a b w4 ha hb0).mono ?_
    rintro e w5 ⟨v_yunion, rfl, yunion, hx⟩
    replace ha := ha.below hx
    replace hb0 := hb0.below hx
    replace xunion := xunion.below hx
    replace hb : Below w.heap.size w w5 := hb.trans (hx.mono hb.size)
    clear hx
    go_wp2_with fail
    refine (hd_same _ _ w5 _ xunion yunion).mono ?_
    rintro e w6 ⟨rfl, hx⟩
    replace ha := ha.below hx
    replace hb0 := hb0.below hx
    replace xunion := xunion.below hx
    replace yunion := yunion.below hx
    replace hb : Below w.heap.size w w6 := hb.trans (hx.mono hb.size)
    clear hx
    go_wp2_with fail
    refine (meet_any _ _ a b w6 ha hb0).mono ?_
    rintro e w7 ⟨v_xmeet, rfl, xmeet, hx⟩
    replace ha := ha.below hx
    replace hb0 := hb0.below hx
    replace xunion := xunion.below hx
    replace yunion := yunion.below hx
    replace hb : Below w.heap.size w w7 := hb.trans (hx.mono hb.size)
    clear hx
    go_wp2_with fail
    refine (refMeet_any _ _ a b w7 ha hb0).mono ?_
    rintro e w8 ⟨v_ymeet, rfl, ymeet, hx⟩
    replace ha := ha.below hx
    replace hb0 := hb0.below hx
    replace xunion := xunion.below hx
    replace yunion := yunion.below hx
    replace xmeet := xmeet.below hx
    replace hb : Below w.heap.size w w8 := hb.trans (hx.mono hb.size)
    clear hx
    go_wp2_with fail
    refine (hd_same _ _ w8 _ xmeet ymeet).mono ?_
    rintro e w9 ⟨rfl, hx⟩
    replace ha := ha.below hx
    replace hb0 := hb0.below hx
    replace xunion := xunion.below hx
    replace yunion := yunion.below hx
    replace xmeet := xmeet.below hx
    replace ymeet := ymeet.below hx
    replace hb : Below w.heap.size w w9 := hb.trans (hx.mono hb.size)
    clear hx
    go_wp2_with fail
    refine (less_any _ _ a b w9 ha hb0).mono ?_
    rintro e w10 ⟨v_xless, rfl, xless, hx⟩
    replace ha := ha.below hx
    replace hb0 := hb0.below hx
    replace xunion := xunion.below hx
    replace yunion := yunion.below hx
    replace xmeet := xmeet.below hx
    replace ymeet := ymeet.below hx
    replace hb : Below w.heap.size w w10 := hb.trans (hx.mono hb.size)
    clear hx
    go_wp2_with fail
    refine (refLess_any _ _ a b w10 ha hb0).mono ?_
    rintro e w11 ⟨v_yless, rfl, yless, hx⟩
    replace ha := ha.below hx
    replace hb0 := hb0.below hx
    replace xunion := xunion.below hx
    replace yunion := yunion.below hx
    replace xmeet := xmeet.below hx
    replace ymeet := ymeet.below hx
    replace xless := xless.below hx
    replace hb : Below w.heap.size w w11 := hb.trans (hx.mono hb.size)
    clear hx
    go_wp2_with fail
    refine (hd_same _ _ w11 _ xless yless).mono ?_
    rintro e w12 ⟨rfl, hx⟩
    replace ha := ha.below hx
    replace hb0 := hb0.below hx
    replace xunion := xunion.below hx
    replace yunion := yunion.below hx
    replace xmeet := xmeet.below hx
    replace ymeet := ymeet.below hx
    replace xless := xless.below hx
    replace yless := yless.below hx
    replace hb : Below w.heap.size w w12 := hb.trans (hx.mono hb.size)
    clear hx
    go_wp2_with fail
    refine (count_any _ a w12 ha).mono ?_
    rintro e w13 ⟨rfl, hx⟩
    replace ha := ha.below hx
    replace hb0 := hb0.below hx
    replace xunion := xunion.below hx
    replace yunion := yunion.below hx
    replace xmeet := xmeet.below hx
    replace ymeet := ymeet.below hx
    replace xless := xless.below hx
    replace yless := yless.below hx
    replace hb : Below w.heap.size w w13 := hb.trans (hx.mono hb.size)
    clear hx
    go_wp2_with fail
    refine (refCount_any _ a w13 ha).mono ?_
    rintro e w14 ⟨rfl, hx⟩
    replace ha := ha.below hx
    replace hb0 := hb0.below hx
    replace xunion := xunion.below hx
    replace yunion := yunion.below hx
    replace xmeet := xmeet.below hx
    replace ymeet := ymeet.below hx
    replace xless := xless.below hx
    replace yless := yless.below hx
    replace hb : Below w.heap.size w w14 := hb.trans (hx.mono hb.size)
    clear hx
    go_wp2_with fail
    refine (most_any _ a w14 ha).mono ?_
    rintro e w15 ⟨rfl, hx⟩
    replace ha := ha.below hx
    replace hb0 := hb0.below hx
    replace xunion := xunion.below hx
    replace yunion := yunion.below hx
    replace xmeet := xmeet.below hx
    replace ymeet := ymeet.below hx
    replace xless := xless.below hx
    replace yless := yless.below hx
    replace hb : Below w.heap.size w w15 := hb.trans (hx.mono hb.size)
    clear hx
    go_wp2_with fail
    refine (refMost_any _ a w15 ha).mono ?_
    rintro e w16 ⟨rfl, hx⟩
    replace ha := ha.below hx
    replace hb0 := hb0.below hx
    replace xunion := xunion.below hx
    replace yunion := yunion.below hx
    replace xmeet := xmeet.below hx
    replace ymeet := ymeet.below hx
    replace xless := xless.below hx
    replace yless := yless.below hx
    replace hb : Below w.heap.size w w16 := hb.trans (hx.mono hb.size)
    clear hx
    go_wp2_with fail
    refine (weekday_any n w16).mono ?_
    rintro e w17 ⟨rfl, hx⟩
    replace ha := ha.below hx
    replace hb0 := hb0.below hx
    replace xunion := xunion.below hx
    replace yunion := yunion.below hx
    replace xmeet := xmeet.below hx
    replace ymeet := ymeet.below hx
    replace xless := xless.below hx
    replace yless := yless.below hx
    replace hb : Below w.heap.size w w17 := hb.trans (hx.mono hb.size)
    clear hx
    go_wp2_with fail
    refine (refWeekday_any n w17).mono ?_
    rintro e w18 ⟨rfl, hx⟩
    replace ha := ha.below hx
    replace hb0 := hb0.below hx
    replace xunion := xunion.below hx
    replace yunion := yunion.below hx
    replace xmeet := xmeet.below hx
    replace ymeet := ymeet.below hx
    replace xless := xless.below hx
    replace yless := yless.below hx
    replace hb : Below w.heap.size w w18 := hb.trans (hx.mono hb.size)
    clear hx
    go_wp2_with fail
    go_ret
    exact Ret.mk rfl hb
  · go_enter Try.func3, Try.ntmps3
    go_wp2_with fail
    refine (head_any w).mono ?_
    rintro e w1 ⟨rfl, hx⟩
    replace ha := ha.below hx
    replace hb0 := hb0.below hx
    replace hb : Below w.heap.size w w1 := hb.trans (hx.mono hb.size)
    clear hx
    go_wp2_with fail
    refine (valid_any _ a w1 ha).mono ?_
    rintro e w2 ⟨rfl, hx⟩
    replace ha := ha.below hx
    replace hb0 := hb0.below hx
    replace hb : Below w.heap.size w w2 := hb.trans (hx.mono hb.size)
    clear hx
    go_wp2_with fail
    refine (refValid_any _ a w2 ha).mono ?_
    rintro e w3 ⟨rfl, hx⟩
    replace ha := ha.below hx
    replace hb0 := hb0.below hx
    replace hb : Below w.heap.size w w3 := hb.trans (hx.mono hb.size)
    clear hx
    go_wp2_with fail
    refine (union_any _ _ a b w3 ha hb0).mono ?_
    rintro e w4 ⟨v_xunion, rfl, xunion, hx⟩
    replace ha := ha.below hx
    replace hb0 := hb0.below hx
    replace hb : Below w.heap.size w w4 := hb.trans (hx.mono hb.size)
    clear hx
    go_wp2_with fail
    refine (refUnion_any _ _ a b w4 ha hb0).mono ?_
    rintro e w5 ⟨v_yunion, rfl, yunion, hx⟩
    replace ha := ha.below hx
    replace hb0 := hb0.below hx
    replace xunion := xunion.below hx
    replace hb : Below w.heap.size w w5 := hb.trans (hx.mono hb.size)
    clear hx
    go_wp2_with fail
    refine (hd_same _ _ w5 _ xunion yunion).mono ?_
    rintro e w6 ⟨rfl, hx⟩
    replace ha := ha.below hx
    replace hb0 := hb0.below hx
    replace xunion := xunion.below hx
    replace yunion := yunion.below hx
    replace hb : Below w.heap.size w w6 := hb.trans (hx.mono hb.size)
    clear hx
    go_wp2_with fail
    refine (meet_any _ _ a b w6 ha hb0).mono ?_
    rintro e w7 ⟨v_xmeet, rfl, xmeet, hx⟩
    replace ha := ha.below hx
    replace hb0 := hb0.below hx
    replace xunion := xunion.below hx
    replace yunion := yunion.below hx
    replace hb : Below w.heap.size w w7 := hb.trans (hx.mono hb.size)
    clear hx
    go_wp2_with fail
    refine (refMeet_any _ _ a b w7 ha hb0).mono ?_
    rintro e w8 ⟨v_ymeet, rfl, ymeet, hx⟩
    replace ha := ha.below hx
    replace hb0 := hb0.below hx
    replace xunion := xunion.below hx
    replace yunion := yunion.below hx
    replace xmeet := xmeet.below hx
    replace hb : Below w.heap.size w w8 := hb.trans (hx.mono hb.size)
    clear hx
    go_wp2_with fail
    refine (hd_same _ _ w8 _ xmeet ymeet).mono ?_
    rintro e w9 ⟨rfl, hx⟩
    replace ha := ha.below hx
    replace hb0 := hb0.below hx
    replace xunion := xunion.below hx
    replace yunion := yunion.below hx
    replace xmeet := xmeet.below hx
    replace ymeet := ymeet.below hx
    replace hb : Below w.heap.size w w9 := hb.trans (hx.mono hb.size)
    clear hx
    go_wp2_with fail
    refine (less_any _ _ a b w9 ha hb0).mono ?_
    rintro e w10 ⟨v_xless, rfl, xless, hx⟩
    replace ha := ha.below hx
    replace hb0 := hb0.below hx
    replace xunion := xunion.below hx
    replace yunion := yunion.below hx
    replace xmeet := xmeet.below hx
    replace ymeet := ymeet.below hx
    replace hb : Below w.heap.size w w10 := hb.trans (hx.mono hb.size)
    clear hx
    go_wp2_with fail
    refine (refLess_any _ _ a b w10 ha hb0).mono ?_
    rintro e w11 ⟨v_yless, rfl, yless, hx⟩
    replace ha := ha.below hx
    replace hb0 := hb0.below hx
    replace xunion := xunion.below hx
    replace yunion := yunion.below hx
    replace xmeet := xmeet.below hx
    replace ymeet := ymeet.below hx
    replace xless := xless.below hx
    replace hb : Below w.heap.size w w11 := hb.trans (hx.mono hb.size)
    clear hx
    go_wp2_with fail
    refine (hd_same _ _ w11 _ xless yless).mono ?_
    rintro e w12 ⟨rfl, hx⟩
    replace ha := ha.below hx
    replace hb0 := hb0.below hx
    replace xunion := xunion.below hx
    replace yunion := yunion.below hx
    replace xmeet := xmeet.below hx
    replace ymeet := ymeet.below hx
    replace xless := xless.below hx
    replace yless := yless.below hx
    replace hb : Below w.heap.size w w12 := hb.trans (hx.mono hb.size)
    clear hx
    go_wp2_with fail
    refine (count_any _ a w12 ha).mono ?_
    rintro e w13 ⟨rfl, hx⟩
    replace ha := ha.below hx
    replace hb0 := hb0.below hx
    replace xunion := xunion.below hx
    replace yunion := yunion.below hx
    replace xmeet := xmeet.below hx
    replace ymeet := ymeet.below hx
    replace xless := xless.below hx
    replace yless := yless.below hx
    replace hb : Below w.heap.size w w13 := hb.trans (hx.mono hb.size)
    clear hx
    go_wp2_with fail
    refine (refCount_any _ a w13 ha).mono ?_
    rintro e w14 ⟨rfl, hx⟩
    replace ha := ha.below hx
    replace hb0 := hb0.below hx
    replace xunion := xunion.below hx
    replace yunion := yunion.below hx
    replace xmeet := xmeet.below hx
    replace ymeet := ymeet.below hx
    replace xless := xless.below hx
    replace yless := yless.below hx
    replace hb : Below w.heap.size w w14 := hb.trans (hx.mono hb.size)
    clear hx
    go_wp2_with fail
    refine (most_any _ a w14 ha).mono ?_
    rintro e w15 ⟨rfl, hx⟩
    replace ha := ha.below hx
    replace hb0 := hb0.below hx
    replace xunion := xunion.below hx
    replace yunion := yunion.below hx
    replace xmeet := xmeet.below hx
    replace ymeet := ymeet.below hx
    replace xless := xless.below hx
    replace yless := yless.below hx
    replace hb : Below w.heap.size w w15 := hb.trans (hx.mono hb.size)
    clear hx
    go_wp2_with fail
    refine (refMost_any _ a w15 ha).mono ?_
    rintro e w16 ⟨rfl, hx⟩
    replace ha := ha.below hx
    replace hb0 := hb0.below hx
    replace xunion := xunion.below hx
    replace yunion := yunion.below hx
    replace xmeet := xmeet.below hx
    replace ymeet := ymeet.below hx
    replace xless := xless.below hx
    replace yless := yless.below hx
    replace hb : Below w.heap.size w w16 := hb.trans (hx.mono hb.size)
    clear hx
    go_wp2_with fail
    refine (weekday_any n w16).mono ?_
    rintro e w17 ⟨rfl, hx⟩
    replace ha := ha.below hx
    replace hb0 := hb0.below hx
    replace xunion := xunion.below hx
    replace yunion := yunion.below hx
    replace xmeet := xmeet.below hx
    replace ymeet := ymeet.below hx
    replace xless := xless.below hx
    replace yless := yless.below hx
    replace hb : Below w.heap.size w w17 := hb.trans (hx.mono hb.size)
    clear hx
    go_wp2_with fail
    refine (refWeekday_any n w17).mono ?_
    rintro e w18 ⟨rfl, hx⟩
    replace ha := ha.below hx
    replace hb0 := hb0.below hx
    replace xunion := xunion.below hx
    replace yunion := yunion.below hx
    replace xmeet := xmeet.below hx
    replace ymeet := ymeet.below hx
    replace xless := xless.below hx
    replace yless := yless.below hx
    replace hb : Below w.heap.size w w18 := hb.trans (hx.mono hb.size)
    clear hx
    go_wp2_with fail
    go_ret
    exact Ret.mk rfl hb
theorem own_spanMatchesReference : ownKnob Try.prog.godebug = none := by kernel_rfl
theorem laid_spanMatchesReference : laidOutB Try.prog = true := by kernel_rfl

set_option maxRecDepth 100000 in
theorem lifted_spanMatchesReference (os : Os) (started : os.Started) (H : Type) (enc : TypeId × Value → H) :
    ReturnsInHanded {} Try.checked os 3 .any (Rows.spanMatchesReferenceSpec.pre6 enc Try.prog Try.f3 Rows.spanMatchesReferenceRow.domain false) (Rows.spanMatchesReferenceSpec.post enc Try.prog Try.f3 false true false false) := by
  refine returnsInHanded_of_change_sized (C := Try.checked) own_spanMatchesReference started (by kernel_rfl) Try.func3
    (ChangeSpec.witness6 (enc := enc) (C := Try.checked) false ⟨#[], #[.slice none 0 0, .slice none 0 0, .int .i64 0], []⟩ 8 (by kernel_rfl) (by kernel_rfl) (by kernel_rfl) (by kernel_rfl)) ?_
  intro W base args ds gs before hval0 hW hcnd hsz0 _
  have hval : ∀ (j : Nat) t v, Try.f3.params[j]? = some t → args[j]? = some v → Value.okWide Try.prog W .any base t v := hval0
  have hW' := hW
  obtain ⟨p, q, hA0, hV, rfl, hfz, hnd⟩ := hW
  have hA : DataW.TrodAll enc Try.prog W 0 (fun _ => true) true Try.f3.params.toList args.toList ds p := hA0
  rw [Try.params3] at hA hval
  obtain ⟨v0, vs0, d0, ds0, p0, q0, hargs, rfl, rfl, h0, r0⟩ := trodAll_cons hA
  obtain ⟨v1, vs1, d1, ds1, p1, q1, rfl, rfl, rfl, h1, r1⟩ := trodAll_cons r0
  obtain ⟨v2, vs2, d2, ds2, p2, q2, rfl, rfl, rfl, h2, r2⟩ := trodAll_cons r1
  obtain ⟨rfl, rfl, rfl⟩ := trodAll_nil r2
  obtain rfl : args = #[v0, v1, v2] := by cases args; simp_all
  obtain ⟨rfl, rfl⟩ := trodVars_none hV
  have hsz : (DataW.weightsEach Try.prog [22, 22, 3] [d0, d1, d2]).all (fun x => decide (x ≤ reachBytes)) = true := hsz0
  have k0 := h0
  have lt0 : ∀ x ∈ p0, x.block < W.heap.size := by obtain ⟨m, hm⟩ := k0; exact DataW.trod_lt m _ _ _ hm
  obtain ⟨s0p, s0n, s0c, rfl⟩ := okWide_slice Try.underlying22 (hval 0 22 v0 rfl rfl)
  obtain ⟨l0, w0⟩ := spans_of_trod h0 (fun el sp e => by have := sized_slice hsz (j := 0) (t := 22) (e := 42) (elems := el) (spare := sp) rfl (by rw [← e]; rfl) Try.underlying22; exact this)
  have k1 := h1
  have lt1 : ∀ x ∈ p1, x.block < W.heap.size := by obtain ⟨m, hm⟩ := k1; exact DataW.trod_lt m _ _ _ hm
  obtain ⟨s1p, s1n, s1c, rfl⟩ := okWide_slice Try.underlying22 (hval 1 22 v1 rfl rfl)
  obtain ⟨l1, w1⟩ := spans_of_trod h1 (fun el sp e => by have := sized_slice hsz (j := 1) (t := 22) (e := 42) (elems := el) (spare := sp) rfl (by rw [← e]; rfl) Try.underlying22; exact this)
  have k2 := h2
  have lt2 : ∀ x ∈ p2, x.block < W.heap.size := by obtain ⟨m, hm⟩ := k2; exact DataW.trod_lt m _ _ _ hm
  obtain ⟨a2, rfl, _, _, w2⟩ := open_int Try.underlying3 (hval 2 3 v2 rfl rfl) h2
  clear hA0 hval0
  refine (walkMatches _ l0 _ l1 a2 W w0 w1 w2).mono fun e W' ⟨he, bel⟩ => ?_
  subst he
  exact ⟨_, rfl, _, _, _, [], _, [], hW', trodAll_mk1 (shut_bool Try.underlying4 _), (trodAll_cons_mk (Below.trod laid_spanMatchesReference (by kernel_rfl) (of_decide_eq_true (by kernel_rfl)) k0 bel lt0) (trodAll_cons_mk (Below.trod laid_spanMatchesReference (by kernel_rfl) (of_decide_eq_true (by kernel_rfl)) k1 bel lt1) (trodAll_cons_mk (Below.trod laid_spanMatchesReference (by kernel_rfl) (of_decide_eq_true (by kernel_rfl)) k2 bel lt2) trodAll_mk0))), rfl, bel.frame _, fun h => by cases h⟩

/-- The given statement. -/
theorem spanMatchesReference_holds : Rows.SpanMatchesReferenceSaid :=
  OpenClaim.holds_of_wide 3 Try.f3 rfl rfl rfl rfl rfl rfl rfl ⟨rfl, rfl, rfl, rfl, rfl⟩ rfl rfl rfl rfl rfl (by kernel_rfl) Try.func3 (by kernel_rfl)
    (of_decide_eq_true (by kernel_rfl)) (by unfold Func.isWrapper; first | (rw [if_pos (by decide +kernel)]; kernel_rfl) | (rw [if_neg (by decide +kernel)]; exact ⟨rfl, rfl⟩))
    (fun os started H enc _ => lifted_spanMatchesReference os started H enc)
end Go.Proofs.Ytfhhkbijcleedaa
