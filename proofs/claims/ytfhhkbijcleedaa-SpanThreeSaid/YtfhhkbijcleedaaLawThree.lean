/-
  SpanThree: the meet of a set and the union of two others is the union of its meets with both; what is left without both is what is left without the one and then the other. No conditions: for every input.
-/
import Derived.Test.YtfhhkbijcleedaaSpanHead
import Derived.Test.YtfhhkbijcleedaaSpanArg
import Derived.SizedLaws
import Derived.Test.YtfhhkbijcleedaaRows
import Derived.WalkKit
import Derived.ProofKit
import Derived.OpenShut
import Derived.ChangeOld
import Derived.Below
import Derived.Lib.SmallJoins
namespace Go.Proofs.Ytfhhkbijcleedaa
open Go.ChangeShapes Go.WideShapes Go.ChangeAt Go.RowKit Go.Joins
set_option linter.unusedVariables false

set_option maxHeartbeats 8000000 in
theorem walkThree (va : Value) (a : List Sp) (vb : Value) (b : List Sp) (vc : Value) (c : List Sp) (w : World) (ha : Spans w va a) (hb0 : Spans w vb b) (hc0 : Spans w vc c) : Calls Try.prog 7 #[va, vb, vc] w (Ret (.bool true) w) := by
  have hb := Below.refl w.heap.size w
  have hla := ha.short
  have hlb := hb0.short
  have hlc := hc0.short
  obtain ⟨ad_a, cap_a, rfl⟩ := ha.shape
  obtain ⟨ad_b, cap_b, rfl⟩ := hb0.shape
  obtain ⟨ad_c, cap_c, rfl⟩ := hc0.shape
  cases hu : usb a b with
  | false =>
    go_enter Try.func7, Try.ntmps7
    go_wp2_with fail
    refine (head_any w).mono ?_
    rintro e w1 ⟨rfl, hx⟩
    replace ha := ha.below hx
    replace hb0 := hb0.below hx
    replace hc0 := hc0.below hx
    replace hb : Below w.heap.size w w1 := hb.trans (hx.mono hb.size)
    clear hx
    go_wp2_with fail
    refine (show Calls Try.prog _ _ _ (Ret (.bool false) w1) from hu ▸ usable_any _ _ a b w1 ha hb0).mono ?_
    rintro e w2 ⟨rfl, hx⟩
    replace ha := ha.below hx
    replace hb0 := hb0.below hx
    replace hc0 := hc0.below hx
    replace hb : Below w.heap.size w w2 := hb.trans (hx.mono hb.size)
    clear hx
    go_wp2_with fail
    go_ret
    exact Ret.mk rfl hb
  | true =>
    cases hu2 : usb b c with
    | false =>
      go_enter Try.func7, Try.ntmps7
      go_wp2_with fail
      refine (head_any w).mono ?_
      rintro e w1 ⟨rfl, hx⟩
      replace ha := ha.below hx
      replace hb0 := hb0.below hx
      replace hc0 := hc0.below hx
      replace hb : Below w.heap.size w w1 := hb.trans (hx.mono hb.size)
      clear hx
      go_wp2_with fail
      refine (show Calls Try.prog _ _ _ (Ret (.bool true) w1) from hu ▸ usable_any _ _ a b w1 ha hb0).mono ?_
      rintro e w2 ⟨rfl, hx⟩
      replace ha := ha.below hx
      replace hb0 := hb0.below hx
      replace hc0 := hc0.below hx
      replace hb : Below w.heap.size w w2 := hb.trans (hx.mono hb.size)
      clear hx
      go_wp2_with fail
      refine (show Calls Try.prog _ _ _ (Ret (.bool false) w2) from hu2 ▸ usable_any _ _ b c w2 hb0 hc0).mono ?_
      rintro e w3 ⟨rfl, hx⟩
      replace ha := ha.below hx
      replace hb0 := hb0.below hx
      replace hc0 := hc0.below hx
      replace hb : Below w.heap.size w w3 := hb.trans (hx.mono hb.size)
      clear hx
      go_wp2_with fail
      go_ret
      exact Ret.mk rfl hb
    | true =>
      obtain ⟨oa, ob, hk⟩ := usb_ok hu
      obtain ⟨_, oc, hk2⟩ := usb_ok hu2
      by_cases h60 : 60 < a.length + b.length + c.length
      · skip
        go_enter Try.func7, Try.ntmps7
        go_wp2_with fail
        refine (head_any w).mono ?_
        rintro e w1 ⟨rfl, hx⟩
        replace ha := ha.below hx
        replace hb0 := hb0.below hx
        replace hc0 := hc0.below hx
        replace hb : Below w.heap.size w w1 := hb.trans (hx.mono hb.size)
        clear hx
        go_wp2_with fail
        refine (show Calls Try.prog _ _ _ (Ret (.bool true) w1) from hu ▸ usable_any _ _ a b w1 ha hb0).mono ?_
        rintro e w2 ⟨rfl, hx⟩
        replace ha := ha.below hx
        replace hb0 := hb0.below hx
        replace hc0 := hc0.below hx
        replace hb : Below w.heap.size w w2 := hb.trans (hx.mono hb.size)
        clear hx
        go_wp2_with fail
        refine (show Calls Try.prog _ _ _ (Ret (.bool true) w2) from hu2 ▸ usable_any _ _ b c w2 hb0 hc0).mono ?_
        rintro e w3 ⟨rfl, hx⟩
        replace ha := ha.below hx
        replace hb0 := hb0.below hx
        replace hc0 := hc0.below hx
        replace hb : Below w.heap.size w w3 := hb.trans (hx.mono hb.size)
        clear hx
        go_wp2_with fail
        go_ret
        exact Ret.mk rfl hb
      · have oU := ob.cmb (· || ·) rfl oc
        have oY := oa.cmb (· && ·) rfl ob
        have oZ := oa.cmb (· && ·) rfl oc
        have oQ := oa.cmb (fun x y => x && !y) rfl ob
        have hX : ME a (UN b c) = UN (ME a b) (ME a c) := (oa.cmb (· && ·) rfl oU).ext (oY.cmb (· || ·) rfl oZ) fun n => by
          rw [oa.hs (· && ·) rfl oU n, ob.hs (· || ·) rfl oc n, oY.hs (· || ·) rfl oZ n, oa.hs (· && ·) rfl ob n, oa.hs (· && ·) rfl oc n]
          cases has a n <;> cases has b n <;> cases has c n <;> rfl
        have hP : LE a (UN b c) = LE (LE a b) c := (oa.cmb (fun x y => x && !y) rfl oU).ext (oQ.cmb (fun x y => x && !y) rfl oc) fun n => by
          rw [oa.hs (fun x y => x && !y) rfl oU n, ob.hs (· || ·) rfl oc n, oQ.hs (fun x y => x && !y) rfl oc n, oa.hs (fun x y => x && !y) rfl ob n]
          cases has a n <;> cases has b n <;> cases has c n <;> rfl
        go_enter Try.func7, Try.ntmps7
        go_wp2_with fail
        refine (head_any w).mono ?_
        rintro e w1 ⟨rfl, hx⟩
        replace ha := ha.below hx
        replace hb0 := hb0.below hx
        replace hc0 := hc0.below hx
        replace hb : Below w.heap.size w w1 := hb.trans (hx.mono hb.size)
        clear hx
        go_wp2_with fail
        refine (show Calls Try.prog _ _ _ (Ret (.bool true) w1) from hu ▸ usable_any _ _ a b w1 ha hb0).mono ?_
        rintro e w2 ⟨rfl, hx⟩
        replace ha := ha.below hx
        replace hb0 := hb0.below hx
        replace hc0 := hc0.below hx
        replace hb : Below w.heap.size w w2 := hb.trans (hx.mono hb.size)
        clear hx
        go_wp2_with fail
        refine (show Calls Try.prog _ _ _ (Ret (.bool true) w2) from hu2 ▸ usable_any _ _ b c w2 hb0 hc0).mono ?_
        rintro e w3 ⟨rfl, hx⟩
        replace ha := ha.below hx
        replace hb0 := hb0.below hx
        replace hc0 := hc0.below hx
        replace hb : Below w.heap.size w w3 := hb.trans (hx.mono hb.size)
        clear hx
        go_wp2_with fail
        refine (un_any hb0 hc0 ob oc (by omega)).mono ?_
        rintro e w4 ⟨v_u, rfl, u, hx⟩
        replace ha := ha.below hx
        replace hb0 := hb0.below hx
        replace hc0 := hc0.below hx
        replace hb : Below w.heap.size w w4 := hb.trans (hx.mono hb.size)
        clear hx
        go_wp2_with fail
        refine (me_any ha u oa oU (by omega)).mono ?_
        rintro e w5 ⟨v_x, rfl, x, hx⟩
        replace ha := ha.below hx
        replace hb0 := hb0.below hx
        replace hc0 := hc0.below hx
        replace u := u.below hx
        replace hb : Below w.heap.size w w5 := hb.trans (hx.mono hb.size)
        clear hx
        rw [hX] at x
        go_wp2_with fail
        refine (me_any ha hb0 oa ob (by omega)).mono ?_
        rintro e w6 ⟨v_y, rfl, y, hx⟩
        replace ha := ha.below hx
        replace hb0 := hb0.below hx
        replace hc0 := hc0.below hx
        replace u := u.below hx
        replace x := x.below hx
        replace hb : Below w.heap.size w w6 := hb.trans (hx.mono hb.size)
        clear hx
        go_wp2_with fail
        refine (me_any ha hc0 oa oc (by omega)).mono ?_
        rintro e w7 ⟨v_z, rfl, z, hx⟩
        replace ha := ha.below hx
        replace hb0 := hb0.below hx
        replace hc0 := hc0.below hx
        replace u := u.below hx
        replace x := x.below hx
        replace y := y.below hx
        replace hb : Below w.heap.size w w7 := hb.trans (hx.mono hb.size)
        clear hx
        go_wp2_with fail
        refine (un_any y z oY oZ (by omega)).mono ?_
        rintro e w8 ⟨v_ww, rfl, ww, hx⟩
        replace ha := ha.below hx
        replace hb0 := hb0.below hx
        replace hc0 := hc0.below hx
        replace u := u.below hx
        replace x := x.below hx
        replace y := y.below hx
        replace z := z.below hx
        replace hb : Below w.heap.size w w8 := hb.trans (hx.mono hb.size)
        clear hx
        go_wp2_with fail
        refine (le_any ha u oa oU (by omega)).mono ?_
        rintro e w9 ⟨v_p, rfl, p, hx⟩
        replace ha := ha.below hx
        replace hb0 := hb0.below hx
        replace hc0 := hc0.below hx
        replace u := u.below hx
        replace x := x.below hx
        replace y := y.below hx
        replace z := z.below hx
        replace ww := ww.below hx
        replace hb : Below w.heap.size w w9 := hb.trans (hx.mono hb.size)
        clear hx
        rw [hP] at p
        go_wp2_with fail
        refine (le_any ha hb0 oa ob (by omega)).mono ?_
        rintro e w10 ⟨v_q, rfl, q, hx⟩
        replace ha := ha.below hx
        replace hb0 := hb0.below hx
        replace hc0 := hc0.below hx
        replace u := u.below hx
        replace x := x.below hx
        replace y := y.below hx
        replace z := z.below hx
        replace ww := ww.below hx
        replace p := p.below hx
        replace hb : Below w.heap.size w w10 := hb.trans (hx.mono hb.size)
        clear hx
        go_wp2_with fail
        refine (le_any q hc0 oQ oc (by omega)).mono ?_
        rintro e w11 ⟨v_s, rfl, s, hx⟩
        replace ha := ha.below hx
        replace hb0 := hb0.below hx
        replace hc0 := hc0.below hx
        replace u := u.below hx
        replace x := x.below hx
        replace y := y.below hx
        replace z := z.below hx
        replace ww := ww.below hx
        replace p := p.below hx
        replace q := q.below hx
        replace hb : Below w.heap.size w w11 := hb.trans (hx.mono hb.size)
        clear hx
        go_wp2_with fail
        refine (hd_same _ _ w11 _ x ww).mono ?_
        rintro e w12 ⟨rfl, hx⟩
        replace ha := ha.below hx
        replace hb0 := hb0.below hx
        replace hc0 := hc0.below hx
        replace u := u.below hx
        replace x := x.below hx
        replace y := y.below hx
        replace z := z.below hx
        replace ww := ww.below hx
        replace p := p.below hx
        replace q := q.below hx
        replace s := s.below hx
        replace hb : Below w.heap.size w w12 := hb.trans (hx.mono hb.size)
        clear hx
        go_wp2_with fail
        refine (hd_same _ _ w12 _ p s).mono ?_
        rintro e w13 ⟨rfl, hx⟩
        replace ha := ha.below hx
        replace hb0 := hb0.below hx
        replace hc0 := hc0.below hx
        replace u := u.below hx
        replace x := x.below hx
        replace y := y.below hx
        replace z := z.below hx
        replace ww := ww.below hx
        replace p := p.below hx
        replace q := q.below hx
        replace s := s.below hx
        replace hb : Below w.heap.size w w13 := hb.trans (hx.mono hb.size)
        clear hx
        go_wp2_with fail
        go_ret
        exact Ret.mk rfl hb
theorem own_spanThree : ownKnob Try.prog.godebug = none := by kernel_rfl
theorem laid_spanThree : laidOutB Try.prog = true := by kernel_rfl

set_option maxRecDepth 100000 in
theorem lifted_spanThree (os : Os) (started : os.Started) (H : Type) (enc : TypeId × Value → H) :
    ReturnsInHanded {} Try.checked os 7 .any (Rows.spanThreeSpec.pre6 enc Try.prog Try.f7 Rows.spanThreeRow.domain false) (Rows.spanThreeSpec.post enc Try.prog Try.f7 false true false false) := by
  refine returnsInHanded_of_change_sized (C := Try.checked) own_spanThree started (by kernel_rfl) Try.func7
    (ChangeSpec.witness6 (enc := enc) (C := Try.checked) false ⟨#[], #[.slice none 0 0, .slice none 0 0, .slice none 0 0], []⟩ 8 (by kernel_rfl) (by kernel_rfl) (by kernel_rfl) (by kernel_rfl)) ?_
  intro W base args ds gs before hval0 hW hcnd hsz0 _
  have hval : ∀ (j : Nat) t v, Try.f7.params[j]? = some t → args[j]? = some v → Value.okWide Try.prog W .any base t v := hval0
  have hW' := hW
  obtain ⟨p, q, hA0, hV, rfl, hfz, hnd⟩ := hW
  have hA : DataW.TrodAll enc Try.prog W 0 (fun _ => true) true Try.f7.params.toList args.toList ds p := hA0
  rw [Try.params7] at hA hval
  obtain ⟨v0, vs0, d0, ds0, p0, q0, hargs, rfl, rfl, h0, r0⟩ := trodAll_cons hA
  obtain ⟨v1, vs1, d1, ds1, p1, q1, rfl, rfl, rfl, h1, r1⟩ := trodAll_cons r0
  obtain ⟨v2, vs2, d2, ds2, p2, q2, rfl, rfl, rfl, h2, r2⟩ := trodAll_cons r1
  obtain ⟨rfl, rfl, rfl⟩ := trodAll_nil r2
  obtain rfl : args = #[v0, v1, v2] := by cases args; simp_all
  obtain ⟨rfl, rfl⟩ := trodVars_none hV
  have hsz : (DataW.weightsEach Try.prog [22, 22, 22] [d0, d1, d2]).all (fun x => decide (x ≤ reachBytes)) = true := hsz0
  have k0 := h0
  have lt0 : ∀ x ∈ p0, x.block < W.heap.size := by obtain ⟨m, hm⟩ := k0; exact DataW.trod_lt m _ _ _ hm
  obtain ⟨s0p, s0n, s0c, rfl⟩ := okWide_slice Try.underlying22 (hval 0 22 v0 rfl rfl)
  obtain ⟨l0, w0⟩ := spans_of_trod h0 (fun el sp e => by have := sized_slice hsz (j := 0) (t := 22) (e := 42) (elems := el) (spare := sp) rfl (by rw [← e]; rfl) Try.underlying22; exact this)
  have k1 := h1
  have lt1 : ∀ x ∈ p1, x.block < W.heap.size := by obtain ⟨m, hm⟩ := k1; exact DataW.trod_lt m _ _ _ hm
  obtain ⟨s1p, s1n, s1c, rfl⟩ := okWide_slice Try.underlying22 (hval 1 22 v1 rfl rfl)
  obtain ⟨l1, w1⟩ := spans_of_trod h1 (fun el sp e => by have := sized_slice hsz (j := 1) (t := 22) (e := 42) (elems := el) (spare := sp) rfl (by rw [← e]; rfl) Try.underlying22; exact this)
  have k2 := h2
  have lt2 : ∀ x ∈ p2, x.block < W.heap.size := by obtain ⟨m, hm⟩ := k2; exact DataW.trod_lt m _ _ _ hm
  obtain ⟨s2p, s2n, s2c, rfl⟩ := okWide_slice Try.underlying22 (hval 2 22 v2 rfl rfl)
  obtain ⟨l2, w2⟩ := spans_of_trod h2 (fun el sp e => by have := sized_slice hsz (j := 2) (t := 22) (e := 42) (elems := el) (spare := sp) rfl (by rw [← e]; rfl) Try.underlying22; exact this)
  clear hA0 hval0
  refine (walkThree _ l0 _ l1 _ l2 W w0 w1 w2).mono fun e W' ⟨he, bel⟩ => ?_
  subst he
  exact ⟨_, rfl, _, _, _, [], _, [], hW', trodAll_mk1 (shut_bool Try.underlying4 _), (trodAll_cons_mk (Below.trod laid_spanThree (by kernel_rfl) (of_decide_eq_true (by kernel_rfl)) k0 bel lt0) (trodAll_cons_mk (Below.trod laid_spanThree (by kernel_rfl) (of_decide_eq_true (by kernel_rfl)) k1 bel lt1) (trodAll_cons_mk (Below.trod laid_spanThree (by kernel_rfl) (of_decide_eq_true (by kernel_rfl)) k2 bel lt2) trodAll_mk0))), rfl, bel.frame _, fun h => by cases h⟩

/-- The given statement. -/
theorem spanThree_holds : Rows.SpanThreeSaid :=
  OpenClaim.holds_of_wide 7 Try.f7 rfl rfl rfl rfl rfl rfl rfl ⟨rfl, rfl, rfl, rfl, rfl⟩ rfl rfl rfl rfl rfl (by kernel_rfl) Try.func7 (by kernel_rfl)
    (of_decide_eq_true (by kernel_rfl)) (by unfold Func.isWrapper; first | (rw [if_pos (by decide +kernel)]; kernel_rfl) | (rw [if_neg (by decide +kernel)]; exact ⟨rfl, rfl⟩))
    (fun os started H enc _ => lifted_spanThree os started H enc)
end Go.Proofs.Ytfhhkbijcleedaa
