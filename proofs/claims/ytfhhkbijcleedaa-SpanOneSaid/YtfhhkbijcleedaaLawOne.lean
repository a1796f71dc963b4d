/-
  SpanOne: two sets of which nothing is left without the other one are the same list; union and meet do not depend on the order; a set is its own union and meet. No conditions: for every input.
-/
import Derived.Test.YtfhhkbijcleedaaSpanHead
import Derived.Test.YtfhhkbijcleedaaSpanArg
import Derived.SizedLaws
import Derived.Test.YtfhhkbijcleedaaRows
import Derived.WalkKit
import Derived.ProofKit
import Derived.OpenShut
import Derived.ChangeOld
import Derived.Below
import Derived.Lib.SmallJoins
namespace Go.Proofs.Ytfhhkbijcleedaa
open Go.ChangeShapes Go.WideShapes Go.ChangeAt Go.RowKit Go.Joins
set_option linter.unusedVariables false

set_option maxHeartbeats 8000000 in
theorem walkOne (va : Value) (a : List Sp) (vb : Value) (b : List Sp) (w : World) (ha : Spans w va a) (hb0 : Spans w vb b) : Calls Try.prog 5 #[va, vb] w (Ret (.bool true) w) := by
  have hb := Below.refl w.heap.size w
  cases hu : usb a b with
  | false =>
    go_enter Try.func5, Try.ntmps5
    go_wp2_with fail
    refine (head_any w).mono ?_
    rintro e w1 ⟨rfl, hx⟩
    replace ha := ha.below hx
    replace hb0 := hb0.below hx
    replace hb : Below w.heap.size w w1 := hb.trans (hx.mono hb.size)
    clear hx
    go_wp2_with fail
    refine (show Calls Try.prog _ _ _ (Ret (.bool false) w1) from hu ▸ usable_any va vb a b w1 ha hb0).mono ?_
    rintro e w2 ⟨rfl, hx⟩
    replace ha := ha.below hx
    replace hb0 := hb0.below hx
    replace hb : Below w.heap.size w w2 := hb.trans (hx.mono hb.size)
    clear hx
    go_wp2_with fail
    go_ret
    exact Ret.mk rfl hb
  | true =>
    obtain ⟨oa, ob, hk⟩ := usb_ok hu
    have hPQ : UN b a = UN a b := (ob.cmb (· || ·) rfl oa).ext (oa.cmb (· || ·) rfl ob) fun n => by rw [ob.hs (· || ·) rfl oa n, oa.hs (· || ·) rfl ob n]; exact Bool.or_comm _ _
    have hST : ME b a = ME a b := (ob.cmb (· && ·) rfl oa).ext (oa.cmb (· && ·) rfl ob) fun n => by rw [ob.hs (· && ·) rfl oa n, oa.hs (· && ·) rfl ob n]; exact Bool.and_comm _ _
    have hU : UN a a = a := (oa.cmb (· || ·) rfl oa).ext oa fun n => by rw [oa.hs (· || ·) rfl oa n]; exact Bool.or_self _
    have hV : ME a a = a := (oa.cmb (· && ·) rfl oa).ext oa fun n => by rw [oa.hs (· && ·) rfl oa n]; exact Bool.and_self _
    by_cases hab : a = b
    · subst hab
      have hX : LE a a = [] := (oa.cmb (fun x y => x && !y) rfl oa).ext (b := []) (m := 0) ⟨rfl, by simp⟩ fun n => by rw [oa.hs (fun x y => x && !y) rfl oa n, has_nil]; cases has a n <;> rfl
      go_enter Try.func5, Try.ntmps5
      go_wp2_with fail
      refine (head_any w).mono ?_
      rintro e w1 ⟨rfl, hx⟩
      replace ha := ha.below hx
      replace hb0 := hb0.below hx
      replace hb : Below w.heap.size w w1 := hb.trans (hx.mono hb.size)
      clear hx
      go_wp2_with fail
      refine (show Calls Try.prog _ _ _ (Ret (.bool true) w1) from hu ▸ usable_any va vb a a w1 ha hb0).mono ?_
      rintro e w2 ⟨rfl, hx⟩
      replace ha := ha.below hx
      replace hb0 := hb0.below hx
      replace hb : Below w.heap.size w w2 := hb.trans (hx.mono hb.size)
      clear hx
      go_wp2_with fail
      refine (le_any ha hb0 oa oa (by omega)).mono ?_
      rintro e w3 ⟨v_x, rfl, x, hx⟩
      replace ha := ha.below hx
      replace hb0 := hb0.below hx
      replace hb : Below w.heap.size w w3 := hb.trans (hx.mono hb.size)
      clear hx
      rw [hX] at x
      obtain ⟨ad_x, cap_x, rfl⟩ := x.shape
      go_wp2_with fail
      refine (le_any hb0 ha oa oa (by omega)).mono ?_
      rintro e w4 ⟨v_y, rfl, y, hx⟩
      replace ha := ha.below hx
      replace hb0 := hb0.below hx
      replace x := x.below hx
      replace hb : Below w.heap.size w w4 := hb.trans (hx.mono hb.size)
      clear hx
      rw [hX] at y
      obtain ⟨ad_y, cap_y, rfl⟩ := y.shape
      go_wp2_with fail
      refine (un_any ha hb0 oa oa (by omega)).mono ?_
      rintro e w5 ⟨v_p, rfl, p, hx⟩
      replace ha := ha.below hx
      replace hb0 := hb0.below hx
      replace x := x.below hx
      replace y := y.below hx
      replace hb : Below w.heap.size w w5 := hb.trans (hx.mono hb.size)
      clear hx
      go_wp2_with fail
      refine (un_any hb0 ha oa oa (by omega)).mono ?_
      rintro e w6 ⟨v_q, rfl, q, hx⟩
      replace ha := ha.below hx
      replace hb0 := hb0.below hx
      replace x := x.below hx
      replace y := y.below hx
      replace p := p.below hx
      replace hb : Below w.heap.size w w6 := hb.trans (hx.mono hb.size)
      clear hx
      go_wp2_with fail
      refine (me_any ha hb0 oa oa (by omega)).mono ?_
      rintro e w7 ⟨v_s, rfl, s, hx⟩
      replace ha := ha.below hx
      replace hb0 := hb0.below hx
      replace x := x.below hx
      replace y := y.below hx
      replace p := p.below hx
      replace q := q.below hx
      replace hb : Below w.heap.size w w7 := hb.trans (hx.mono hb.size)
      clear hx
      go_wp2_with fail
      refine (me_any hb0 ha oa oa (by omega)).mono ?_
      rintro e w8 ⟨v_t, rfl, t, hx⟩
      replace ha := ha.below hx
      replace hb0 := hb0.below hx
      replace x := x.below hx
      replace y := y.below hx
      replace p := p.below hx
      replace q := q.below hx
      replace s := s.below hx
      replace hb : Below w.heap.size w w8 := hb.trans (hx.mono hb.size)
      clear hx
      go_wp2_with fail
      refine (un_any ha ha oa oa (by omega)).mono ?_
      rintro e w9 ⟨v_u, rfl, u, hx⟩
      replace ha := ha.below hx
      replace hb0 := hb0.below hx
      replace x := x.below hx
      replace y := y.below hx
      replace p := p.below hx
      replace q := q.below hx
      replace s := s.below hx
      replace t := t.below hx
      replace hb : Below w.heap.size w w9 := hb.trans (hx.mono hb.size)
      clear hx
      rw [hU] at u
      go_wp2_with fail
      refine (me_any ha ha oa oa (by omega)).mono ?_
      rintro e w10 ⟨v_v, rfl, v, hx⟩
      replace ha := ha.below hx
      replace hb0 := hb0.below hx
      replace x := x.below hx
      replace y := y.below hx
      replace p := p.below hx
      replace q := q.below hx
      replace s := s.below hx
      replace t := t.below hx
      replace u := u.below hx
      replace hb : Below w.heap.size w w10 := hb.trans (hx.mono hb.size)
      clear hx
      rw [hV] at v
      go_wp2_with fail
      refine (hd_same _ _ w10 a ha hb0).mono ?_
      rintro e w11 ⟨rfl, hx⟩
      replace ha := ha.below hx
      replace hb0 := hb0.below hx
      replace x := x.below hx
      replace y := y.below hx
      replace p := p.below hx
      replace q := q.below hx
      replace s := s.below hx
      replace t := t.below hx
      replace u := u.below hx
      replace v := v.below hx
      replace hb : Below w.heap.size w w11 := hb.trans (hx.mono hb.size)
      clear hx
      go_wp2_with fail
      refine (hd_same _ _ w11 _ p q).mono ?_
      rintro e w12 ⟨rfl, hx⟩
      replace ha := ha.below hx
      replace hb0 := hb0.below hx
      replace x := x.below hx
      replace y := y.below hx
      replace p := p.below hx
      replace q := q.below hx
      replace s := s.below hx
      replace t := t.below hx
      replace u := u.below hx
      replace v := v.below hx
      replace hb : Below w.heap.size w w12 := hb.trans (hx.mono hb.size)
      clear hx
      go_wp2_with fail
      refine (hd_same _ _ w12 _ s t).mono ?_
      rintro e w13 ⟨rfl, hx⟩
      replace ha := ha.below hx
      replace hb0 := hb0.below hx
      replace x := x.below hx
      replace y := y.below hx
      replace p := p.below hx
      replace q := q.below hx
      replace s := s.below hx
      replace t := t.below hx
      replace u := u.below hx
      replace v := v.below hx
      replace hb : Below w.heap.size w w13 := hb.trans (hx.mono hb.size)
      clear hx
      go_wp2_with fail
      refine (hd_same _ _ w13 a u ha).mono ?_
      rintro e w14 ⟨rfl, hx⟩
      replace ha := ha.below hx
      replace hb0 := hb0.below hx
      replace x := x.below hx
      replace y := y.below hx
      replace p := p.below hx
      replace q := q.below hx
      replace s := s.below hx
      replace t := t.below hx
      replace u := u.below hx
      replace v := v.below hx
      replace hb : Below w.heap.size w w14 := hb.trans (hx.mono hb.size)
      clear hx
      go_wp2_with fail
      refine (hd_same _ _ w14 a v ha).mono ?_
      rintro e w15 ⟨rfl, hx⟩
      replace ha := ha.below hx
      replace hb0 := hb0.below hx
      replace x := x.below hx
      replace y := y.below hx
      replace p := p.below hx
      replace q := q.below hx
      replace s := s.below hx
      replace t := t.below hx
      replace u := u.below hx
      replace v := v.below hx
      replace hb : Below w.heap.size w w15 := hb.trans (hx.mono hb.size)
      clear hx
      go_wp2_with fail
      go_ret
      exact Ret.mk rfl hb
    · have hne : ¬ ((LE a b).length + (LE b a).length = 0) := fun h => hab (by
        have h1 : LE a b = [] := List.eq_nil_of_length_eq_zero (by omega)
        have h2 : LE b a = [] := List.eq_nil_of_length_eq_zero (by omega)
        refine oa.ext ob fun n => ?_
        have g1 := oa.hs (fun x y => x && !y) rfl ob n
        have g2 := ob.hs (fun x y => x && !y) rfl oa n
        rw [show combL (fun x y => x && !y) a b = LE a b from rfl, h1, has_nil] at g1
        rw [show combL (fun x y => x && !y) b a = LE b a from rfl, h2, has_nil] at g2
        revert g1 g2
        cases has a n <;> cases has b n <;> simp)
      have hlx : (LE a b).length ≤ 240 := by have h : (LE a b).length ≤ _ := (oa.cmb (fun x y => x && !y) rfl ob).len; omega
      have hly : (LE b a).length ≤ 240 := by have h : (LE b a).length ≤ _ := (ob.cmb (fun x y => x && !y) rfl oa).len; omega
      have hz : ((((LE a b).length : Int) + ((LE b a).length : Int)) == 0) = false := by rw [beq_eq_false_iff_ne]; omega
      go_enter Try.func5, Try.ntmps5
      go_wp2_with fail
      refine (head_any w).mono ?_
      rintro e w1 ⟨rfl, hx⟩
      replace ha := ha.below hx
      replace hb0 := hb0.below hx
      replace hb : Below w.heap.size w w1 := hb.trans (hx.mono hb.size)
      clear hx
      go_wp2_with fail
      refine (show Calls Try.prog _ _ _ (Ret (.bool true) w1) from hu ▸ usable_any va vb a b w1 ha hb0).mono ?_
      rintro e w2 ⟨rfl, hx⟩
      replace ha := ha.below hx
      replace hb0 := hb0.below hx
      replace hb : Below w.heap.size w w2 := hb.trans (hx.mono hb.size)
      clear hx
      go_wp2_with fail
      refine (le_any ha hb0 oa ob (by omega)).mono ?_
      rintro e w3 ⟨v_x, rfl, x, hx⟩
      replace ha := ha.below hx
      replace hb0 := hb0.below hx
      replace hb : Below w.heap.size w w3 := hb.trans (hx.mono hb.size)
      clear hx
      obtain ⟨ad_x, cap_x, rfl⟩ := x.shape
      go_wp2_with fail
      refine (le_any hb0 ha ob oa (by omega)).mono ?_
      rintro e w4 ⟨v_y, rfl, y, hx⟩
      replace ha := ha.below hx
      replace hb0 := hb0.below hx
      replace x := x.below hx
      replace hb : Below w.heap.size w w4 := hb.trans (hx.mono hb.size)
      clear hx
      obtain ⟨ad_y, cap_y, rfl⟩ := y.shape
      go_wp2_with fail
      refine (un_any ha hb0 oa ob (by omega)).mono ?_
      rintro e w5 ⟨v_p, rfl, p, hx⟩
      replace ha := ha.below hx
      replace hb0 := hb0.below hx
      replace x := x.below hx
      replace y := y.below hx
      replace hb : Below w.heap.size w w5 := hb.trans (hx.mono hb.size)
      clear hx
      go_wp2_with fail
      refine (un_any hb0 ha ob oa (by omega)).mono ?_
      rintro e w6 ⟨v_q, rfl, q, hx⟩
      replace ha := ha.below hx
      replace hb0 := hb0.below hx
      replace x := x.below hx
      replace y := y.below hx
      replace p := p.below hx
      replace hb : Below w.heap.size w w6 := hb.trans (hx.mono hb.size)
      clear hx
      rw [hPQ] at q
      go_wp2_with fail
      refine (me_any ha hb0 oa ob (by omega)).mono ?_
      rintro e w7 ⟨v_s, rfl, s, hx⟩
      replace ha := ha.below hx
      replace hb0 := hb0.below hx
      replace x := x.below hx
      replace y := y.below hx
      replace p := p.below hx
      replace q := q.below hx
      replace hb : Below w.heap.size w w7 := hb.trans (hx.mono hb.size)
      clear hx
      go_wp2_with fail
      refine (me_any hb0 ha ob oa (by omega)).mono ?_
      rintro e w8 ⟨v_t, rfl, t, hx⟩
      replace ha := ha.below hx
      replace hb0 := hb0.below hx
      replace x := x.below hx
      replace y := y.below hx
      replace p := p.below hx
      replace q := q.below hx
      replace s := s.below hx
      replace hb : Below w.heap.size w w8 := hb.trans (hx.mono hb.size)
      clear hx
      rw [hST] at t
      go_wp2_with fail
      refine (un_any ha ha oa oa (by omega)).mono ?_
      rintro e w9 ⟨v_u, rfl, u, hx⟩
      replace ha := ha.below hx
      replace hb0 := hb0.below hx
      replace x := x.below hx
      replace y := y.below hx
      replace p := p.below hx
      replace q := q.below hx
      replace s := s.below hx
      replace t := t.below hx
      replace hb : Below w.heap.size w w9 := hb.trans (hx.mono hb.size)
      clear hx
      rw [hU] at u
      go_wp2_with fail
      refine (me_any ha ha oa oa (by omega)).mono ?_
      rintro e w10 ⟨v_v, rfl, v, hx⟩
      replace ha := ha.below hx
      replace hb0 := hb0.below hx
      replace x := x.below hx
      replace y := y.below hx
      replace p := p.below hx
      replace q := q.below hx
      replace s := s.below hx
      replace t := t.below hx
      replace u := u.below hx
      replace hb : Below w.heap.size w w10 := hb.trans (hx.mono hb.size)
      clear hx
      rw [hV] at v
      go_wp2_with fail
      refine (show Calls Try.prog _ _ _ (Ret (.bool false) w10) from (decide_eq_false hab) ▸ same_any va vb a b w10 ha hb0).mono ?_
      rintro e w11 ⟨rfl, hx⟩
      replace ha := ha.below hx
      replace hb0 := hb0.below hx
      replace x := x.below hx
      replace y := y.below hx
      replace p := p.below hx
      replace q := q.below hx
      replace s := s.below hx
      replace t := t.below hx
      replace u := u.below hx
      replace v := v.below hx
      replace hb : Below w.heap.size w w11 := hb.trans (hx.mono hb.size)
      clear hx
      go_wp2_with fail
      refine (hd_same _ _ w11 _ p q).mono ?_
      rintro e w12 ⟨rfl, hx⟩
      replace ha := ha.below hx
      replace hb0 := hb0.below hx
      replace x := x.below hx
      replace y := y.below hx
      replace p := p.below hx
      replace q := q.below hx
      replace s := s.below hx
      replace t := t.below hx
      replace u := u.below hx
      replace v := v.below hx
      replace hb : Below w.heap.size w w12 := hb.trans (hx.mono hb.size)
      clear hx
      go_wp2_with fail
      refine (hd_same _ _ w12 _ s t).mono ?_
      rintro e w13 ⟨rfl, hx⟩
      replace ha := ha.below hx
      replace hb0 := hb0.below hx
      replace x := x.below hx
      replace y := y.below hx
      replace p := p.below hx
      replace q := q.below hx
      replace s := s.below hx
      replace t := t.below hx
      replace u := u.below hx
      replace v := v.below hx
      replace hb : Below w.heap.size w w13 := hb.trans (hx.mono hb.size)
      clear hx
      go_wp2_with fail
      refine (hd_same _ _ w13 a u ha).mono ?_
      rintro e w14 ⟨rfl, hx⟩
      replace ha := ha.below hx
      replace hb0 := hb0.below hx
      replace x := x.below hx
      replace y := y.below hx
      replace p := p.below hx
      replace q := q.below hx
      replace s := s.below hx
      replace t := t.below hx
      replace u := u.below hx
      replace v := v.below hx
      replace hb : Below w.heap.size w w14 := hb.trans (hx.mono hb.size)
      clear hx
      go_wp2_with fail
      refine (hd_same _ _ w14 a v ha).mono ?_
      rintro e w15 ⟨rfl, hx⟩
      replace ha := ha.below hx
      replace hb0 := hb0.below hx
      replace x := x.below hx
      replace y := y.below hx
      replace p := p.below hx
      replace q := q.below hx
      replace s := s.below hx
      replace t := t.below hx
      replace u := u.below hx
      replace v := v.below hx
      replace hb : Below w.heap.size w w15 := hb.trans (hx.mono hb.size)
      clear hx
      go_wp2_with fail
      go_ret
      exact Ret.mk rfl hb
theorem own_spanOne : ownKnob Try.prog.godebug = none := by kernel_rfl
theorem laid_spanOne : laidOutB Try.prog = true := by kernel_rfl

set_option maxRecDepth 100000 in
theorem lifted_spanOne (os : Os) (started : os.Started) (H : Type) (enc : TypeId × Value → H) :
    ReturnsInHanded {} Try.checked os 5 .any (Rows.spanOneSpec.pre6 enc Try.prog Try.f5 Rows.spanOneRow.domain false) (Rows.spanOneSpec.post enc Try.prog Try.f5 false true false false) := by
  refine returnsInHanded_of_change_sized (C := Try.checked) own_spanOne started (by kernel_rfl) Try.func5
    (ChangeSpec.witness6 (enc := enc) (C := Try.checked) false ⟨#[], #[.slice none 0 0, .slice none 0 0], []⟩ 8 (by kernel_rfl) (by kernel_rfl) (by kernel_rfl) (by kernel_rfl)) ?_
  intro W base args ds gs before hval0 hW hcnd hsz0 _
  have hval : ∀ (j : Nat) t v, Try.f5.params[j]? = some t → args[j]? = some v → Value.okWide Try.prog W .any base t v := hval0
  have hW' := hW
  obtain ⟨p, q, hA0, hV, rfl, hfz, hnd⟩ := hW
  have hA : DataW.TrodAll enc Try.prog W 0 (fun _ => true) true Try.f5.params.toList args.toList ds p := hA0
  rw [Try.params5] at hA hval
  obtain ⟨v0, vs0, d0, ds0, p0, q0, hargs, rfl, rfl, h0, r0⟩ := trodAll_cons hA
  obtain ⟨v1, vs1, d1, ds1, p1, q1, rfl, rfl, rfl, h1, r1⟩ := trodAll_cons r0
  obtain ⟨rfl, rfl, rfl⟩ := trodAll_nil r1
  obtain rfl : args = #[v0, v1] := by cases args; simp_all
  obtain ⟨rfl, rfl⟩ := trodVars_none hV
  have hsz : (DataW.weightsEach Try.prog [22, 22] [d0, d1]).all (fun x => decide (x ≤ reachBytes)) = true := hsz0
  have k0 := h0
  have lt0 : ∀ x ∈ p0, x.block < W.heap.size := by obtain ⟨m, hm⟩ := k0; exact DataW.trod_lt m _ _ _ hm
  obtain ⟨s0p, s0n, s0c, rfl⟩ := okWide_slice Try.underlying22 (hval 0 22 v0 rfl rfl)
  obtain ⟨l0, w0⟩ := spans_of_trod h0 (fun el sp e => by have := sized_slice hsz (j := 0) (t := 22) (e := 42) (elems := el) (spare := sp) rfl (by rw [← e]; rfl) Try.underlying22; exact this)
  have k1 := h1
  have lt1 : ∀ x ∈ p1, x.block < W.heap.size := by obtain ⟨m, hm⟩ := k1; exact DataW.trod_lt m _ _ _ hm
  obtain ⟨s1p, s1n, s1c, rfl⟩ := okWide_slice Try.underlying22 (hval 1 22 v1 rfl rfl)
  obtain ⟨l1, w1⟩ := spans_of_trod h1 (fun el sp e => by have := sized_slice hsz (j := 1) (t := 22) (e := 42) (elems := el) (spare := sp) rfl (by rw [← e]; rfl) Try.underlying22; exact this)
  clear hA0 hval0
  refine (walkOne _ l0 _ l1 W w0 w1).mono fun e W' ⟨he, bel⟩ => ?_
  subst he
  exact ⟨_, rfl, _, _, _, [], _, [], hW', trodAll_mk1 (shut_bool Try.underlying4 _), (trodAll_cons_mk (Below.trod laid_spanOne (by kernel_rfl) (of_decide_eq_true (by kernel_rfl)) k0 bel lt0) (trodAll_cons_mk (Below.trod laid_spanOne (by kernel_rfl) (of_decide_eq_true (by kernel_rfl)) k1 bel lt1) trodAll_mk0)), rfl, bel.frame _, fun h => by cases h⟩

/-- The given statement. -/
theorem spanOne_holds : Rows.SpanOneSaid :=
  OpenClaim.holds_of_wide 5 Try.f5 rfl rfl rfl rfl rfl rfl rfl ⟨rfl, rfl, rfl, rfl, rfl⟩ rfl rfl rfl rfl rfl (by kernel_rfl) Try.func5 (by kernel_rfl)
    (of_decide_eq_true (by kernel_rfl)) (by unfold Func.isWrapper; first | (rw [if_pos (by decide +kernel)]; kernel_rfl) | (rw [if_neg (by decide +kernel)]; exact ⟨rfl, rfl⟩))
    (fun os started H enc _ => lifted_spanOne os started H enc)
end Go.Proofs.Ytfhhkbijcleedaa
