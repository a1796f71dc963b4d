/-
  SpanSets: a number is in the union, the meet, what is left, exactly as it is in the two sets. No conditions: for every input.
-/
import Derived.Test.YtfhhkbijcleedaaSpanHead
import Derived.Test.YtfhhkbijcleedaaSpanArg
import Derived.SizedLaws
import Derived.Test.YtfhhkbijcleedaaRows
import Derived.WalkKit
import Derived.ProofKit
import Derived.OpenShut
import Derived.ChangeOld
import Derived.Below
import Derived.Lib.SmallJoins
namespace Go.Proofs.Ytfhhkbijcleedaa
open Go.ChangeShapes Go.WideShapes Go.ChangeAt Go.RowKit Go.Joins
set_option linter.unusedVariables false

set_option maxHeartbeats 8000000 in
theorem walkSets (va : Value) (a : List Sp) (vb : Value) (b : List Sp) (n : Int) (w : World) (ha : Spans w va a) (hb0 : Spans w vb b) (_ : (Lit.int .i64 n).wf = true) : Calls Try.prog 4 #[va, vb, .int .i64 n] w (Ret (.bool true) w) := by
  have hb := Below.refl w.heap.size w
  cases hu : usb a b with
  | false =>
    go_enter Try.func4, Try.ntmps4
    go_wp2_with fail
    refine (head_any w).mono ?_
    rintro e w1 ⟨rfl, hx⟩
    replace ha := ha.below hx
    replace hb0 := hb0.below hx
    replace hb : Below w.heap.size w w1 := hb.trans (hx.mono hb.size)
    clear hx
    go_wp2_with fail
    refine (show Calls Try.prog _ _ _ (Ret (.bool false) w1) from hu ▸ usable_any va vb a b w1 ha hb0).mono ?_
    rintro e w2 ⟨rfl, hx⟩
    replace ha := ha.below hx
    replace hb0 := hb0.below hx
    replace hb : Below w.heap.size w w2 := hb.trans (hx.mono hb.size)
    clear hx
    go_wp2_with fail
    go_ret
    exact Ret.mk rfl hb
  | true =>
    obtain ⟨oa, ob, hk⟩ := usb_ok hu
    have oX := oa.cmb (· || ·) rfl ob
    have oY := oa.cmb (· && ·) rfl ob
    have oZ := oa.cmb (fun x y => x && !y) rfl ob
    have hX := oa.hs (· || ·) rfl ob n
    have hY := oa.hs (· && ·) rfl ob n
    have hZ := oa.hs (fun x y => x && !y) rfl ob n
    have cA := fun v w' (h : Spans w' v a) => has_any v a n w' h
    have cB := fun v w' (h : Spans w' v b) => has_any v b n w' h
    have cX := fun v w' (h : Spans w' v (UN a b)) => has_any v (UN a b) n w' h
    have cY := fun v w' (h : Spans w' v (ME a b)) => has_any v (ME a b) n w' h
    have cZ := fun v w' (h : Spans w' v (LE a b)) => has_any v (LE a b) n w' h
    rw [hX] at cX
    rw [hY] at cY
    rw [hZ] at cZ
    clear hX hY hZ
    generalize has a n = p at cA cX cY cZ
    generalize has b n = q at cB cX cY cZ
    go_enter Try.func4, Try.ntmps4
    go_wp2_with fail
    refine (head_any w).mono ?_
    rintro e w1 ⟨rfl, hx⟩
    replace ha := ha.below hx
    replace hb0 := hb0.below hx
    replace hb : Below w.heap.size w w1 := hb.trans (hx.mono hb.size)
    clear hx
    go_wp2_with fail
    refine (show Calls Try.prog _ _ _ (Ret (.bool true) w1) from hu ▸ usable_any va vb a b w1 ha hb0).mono ?_
    rintro e w2 ⟨rfl, hx⟩
    replace ha := ha.below hx
    replace hb0 := hb0.below hx
    replace hb : Below w.heap.size w w2 := hb.trans (hx.mono hb.size)
    clear hx
    go_wp2_with fail
    refine (un_any ha hb0 oa ob (by omega)).mono ?_
    rintro e w3 ⟨v_X, rfl, X, hx⟩
    replace ha := ha.below hx
    replace hb0 := hb0.below hx
    replace hb : Below w.heap.size w w3 := hb.trans (hx.mono hb.size)
    clear hx
    go_wp2_with fail
    refine (me_any ha hb0 oa ob (by omega)).mono ?_
    rintro e w4 ⟨v_Y, rfl, Y, hx⟩
    replace ha := ha.below hx
    replace hb0 := hb0.below hx
    replace X := X.below hx
    replace hb : Below w.heap.size w w4 := hb.trans (hx.mono hb.size)
    clear hx
    go_wp2_with fail
    refine (le_any ha hb0 oa ob (by omega)).mono ?_
    rintro e w5 ⟨v_Z, rfl, Z, hx⟩
    replace ha := ha.below hx
    replace hb0 := hb0.below hx
    replace X := X.below hx
    replace Y := Y.below hx
    replace hb : Below w.heap.size w w5 := hb.trans (hx.mono hb.size)
    clear hx
    go_wp2_with fail
    refine (okv_any X oX (by omega)).mono ?_
    rintro e w6 ⟨rfl, hx⟩
    replace ha := ha.below hx
    replace hb0 := hb0.below hx
    replace X := X.below hx
    replace Y := Y.below hx
    replace Z := Z.below hx
    replace hb : Below w.heap.size w w6 := hb.trans (hx.mono hb.size)
    clear hx
    go_wp2_with fail
    refine (okv_any Y oY (by omega)).mono ?_
    rintro e w7 ⟨rfl, hx⟩
    replace ha := ha.below hx
    replace hb0 := hb0.below hx
    replace X := X.below hx
    replace Y := Y.below hx
    replace Z := Z.below hx
    replace hb : Below w.heap.size w w7 := hb.trans (hx.mono hb.size)
    clear hx
    go_wp2_with fail
    refine (okv_any Z oZ (by omega)).mono ?_
    rintro e w8 ⟨rfl, hx⟩
    replace ha := ha.below hx
    replace hb0 := hb0.below hx
    replace X := X.below hx
    replace Y := Y.below hx
    replace Z := Z.below hx
    replace hb : Below w.heap.size w w8 := hb.trans (hx.mono hb.size)
    clear hx
    go_wp2_with fail
    refine (cA _ _ ha).mono ?_
    rintro e w9 ⟨rfl, hx⟩
    replace ha := ha.below hx
    replace hb0 := hb0.below hx
    replace X := X.below hx
    replace Y := Y.below hx
    replace Z := Z.below hx
    replace hb : Below w.heap.size w w9 := hb.trans (hx.mono hb.size)
    clear hx
    go_wp2_with fail
    refine (cB _ _ hb0).mono ?_
    rintro e w10 ⟨rfl, hx⟩
    replace ha := ha.below hx
    replace hb0 := hb0.below hx
    replace X := X.below hx
    replace Y := Y.below hx
    replace Z := Z.below hx
    replace hb : Below w.heap.size w w10 := hb.trans (hx.mono hb.size)
    clear hx
    cases p <;> cases q
    · go_wp2_with fail
      refine (cX _ _ X).mono ?_
      rintro e w11 ⟨rfl, hx⟩
      replace ha := ha.below hx
      replace hb0 := hb0.below hx
      replace X := X.below hx
      replace Y := Y.below hx
      replace Z := Z.below hx
      replace hb : Below w.heap.size w w11 := hb.trans (hx.mono hb.size)
      clear hx
      go_wp2_with fail
      refine (cY _ _ Y).mono ?_
      rintro e w12 ⟨rfl, hx⟩
      replace ha := ha.below hx
      replace hb0 := hb0.below hx
      replace X := X.below hx
      replace Y := Y.below hx
      replace Z := Z.below hx
      replace hb : Below w.heap.size w w12 := hb.trans (hx.mono hb.size)
      clear hx
      go_wp2_with fail
      refine (cZ _ _ Z).mono ?_
      rintro e w13 ⟨rfl, hx⟩
      replace ha := ha.below hx
      replace hb0 := hb0.below hx
      replace X := X.below hx
      replace Y := Y.below hx
      replace Z := Z.below hx
      replace hb : Below w.heap.size w w13 := hb.trans (hx.mono hb.size)
      clear hx
      go_wp2_with fail
      go_ret
      exact Ret.mk rfl hb
    · go_wp2_with fail
      refine (cX _ _ X).mono ?_
      rintro e w11 ⟨rfl, hx⟩
      replace ha := ha.below hx
      replace hb0 := hb0.below hx
      replace X := X.below hx
      replace Y := Y.below hx
      replace Z := Z.below hx
      replace hb : Below w.heap.size w w11 := hb.trans (hx.mono hb.size)
      clear hx
      go_wp2_with fail
      refine (cY _ _ Y).mono ?_
      rintro e w12 ⟨rfl, hx⟩
      replace ha := ha.below hx
      replace hb0 := hb0.below hx
      replace X := X.below hx
      replace Y := Y.below hx
      replace Z := Z.below hx
      replace hb : Below w.heap.size w w12 := hb.trans (hx.mono hb.size)
      clear hx
      go_wp2_with fail
      refine (cZ _ _ Z).mono ?_
      rintro e w13 ⟨rfl, hx⟩
      replace ha := ha.below hx
      replace hb0 := hb0.below hx
      replace X := X.below hx
      replace Y := Y.below hx
      replace Z := Z.below hx
      replace hb : Below w.heap.size w w13 := hb.trans (hx.mono hb.size)
      clear hx
      go_wp2_with fail
      go_ret
      exact Ret.mk rfl hb
    · go_wp2_with fail
      refine (cX _ _ X).mono ?_
      rintro e w11 ⟨rfl, hx⟩
      replace ha := ha.below hx
      replace hb0 := hb0.below hx
      replace X := X.below hx
      replace Y := Y.below hx
      replace Z := Z.below hx
      replace hb : Below w.heap.size w w11 := hb.trans (hx.mono hb.size)
      clear hx
      go_wp2_with fail
      refine (cY _ _ Y).mono ?_
      rintro e w12 ⟨rfl, hx⟩
      replace ha := ha.below hx
      replace hb0 := hb0.below hx
      replace X := X.below hx
      replace Y := Y.below hx
      replace Z := Z.below hx
      replace hb : Below w.heap.size w w12 := hb.trans (hx.mono hb.size)
      clear hx
      go_wp2_with fail
      refine (cZ _ _ Z).mono ?_
      rintro e w13 ⟨rfl, hx⟩
      replace ha := ha.below hx
      replace hb0 := hb0.below hx
      replace X := X.below hx
      replace Y := Y.below hx
      replace Z := Z.below hx
      replace hb : Below w.heap.size w w13 := hb.trans (hx.mono hb.size)
      clear hx
      go_wp2_with fail
      go_ret
      exact Ret.mk rfl hb
    · go_wp2_with fail
      refine (cX _ _ X).mono ?_
      rintro e w11 ⟨rfl, hx⟩
      replace ha := ha.below hx
      replace hb0 := hb0.below hx
      replace X := X.below hx
      replace Y := Y.below hx
      replace Z := Z.below hx
      replace hb : Below w.heap.size w w11 := hb.trans (hx.mono hb.size)
      clear hx
      go_wp2_with fail
      refine (cY _ _ Y).mono ?_
      rintro e w12 ⟨rfl, hx⟩
      replace ha := ha.below hx
      replace hb0 := hb0.below hx
      replace X := X.below hx
      replace Y := Y.below hx
      replace Z := Z.below hx
      replace hb : Below w.heap.size w w12 := hb.trans (hx.mono hb.size)
      clear hx
      go_wp2_with fail
      refine (cZ _ _ Z).mono ?_
      rintro e w13 ⟨rfl, hx⟩
      replace ha := ha.below hx
      replace hb0 := hb0.below hx
      replace X := X.below hx
      replace Y := Y.below hx
      replace Z := Z.below hx
      replace hb : Below w.heap.size w w13 := hb.trans (hx.mono hb.size)
      clear hx
      go_wp2_with fail
      go_ret
      exact Ret.mk rfl hb
theorem own_spanSets : ownKnob Try.prog.godebug = none := by kernel_rfl
theorem laid_spanSets : laidOutB Try.prog = true := by kernel_rfl

set_option maxRecDepth 100000 in
theorem lifted_spanSets (os : Os) (started : os.Started) (H : Type) (enc : TypeId × Value → H) :
    ReturnsInHanded {} Try.checked os 4 .any (Rows.spanSetsSpec.pre6 enc Try.prog Try.f4 Rows.spanSetsRow.domain false) (Rows.spanSetsSpec.post enc Try.prog Try.f4 false true false false) := by
  refine returnsInHanded_of_change_sized (C := Try.checked) own_spanSets started (by kernel_rfl) Try.func4
    (ChangeSpec.witness6 (enc := enc) (C := Try.checked) false ⟨#[], #[.slice none 0 0, .slice none 0 0, .int .i64 0], []⟩ 8 (by kernel_rfl) (by kernel_rfl) (by kernel_rfl) (by kernel_rfl)) ?_
  intro W base args ds gs before hval0 hW hcnd hsz0 _
  have hval : ∀ (j : Nat) t v, Try.f4.params[j]? = some t → args[j]? = some v → Value.okWide Try.prog W .any base t v := hval0
  have hW' := hW
  obtain ⟨p, q, hA0, hV, rfl, hfz, hnd⟩ := hW
  have hA : DataW.TrodAll enc Try.prog W 0 (fun _ => true) true Try.f4.params.toList args.toList ds p := hA0
  rw [Try.params4] at hA hval
  obtain ⟨v0, vs0, d0, ds0, p0, q0, hargs, rfl, rfl, h0, r0⟩ := trodAll_cons hA
  obtain ⟨v1, vs1, d1, ds1, p1, q1, rfl, rfl, rfl, h1, r1⟩ := trodAll_cons r0
  obtain ⟨v2, vs2, d2, ds2, p2, q2, rfl, rfl, rfl, h2, r2⟩ := trodAll_cons r1
  obtain ⟨rfl, rfl, rfl⟩ := trodAll_nil r2
  obtain rfl : args = #[v0, v1, v2] := by cases args; simp_all
  obtain ⟨rfl, rfl⟩ := trodVars_none hV
  have hsz : (DataW.weightsEach Try.prog [22, 22, 3] [d0, d1, d2]).all (fun x => decide (x ≤ reachBytes)) = true := hsz0
  have k0 := h0
  have lt0 : ∀ x ∈ p0, x.block < W.heap.size := by obtain ⟨m, hm⟩ := k0; exact DataW.trod_lt m _ _ _ hm
  obtain ⟨s0p, s0n, s0c, rfl⟩ := okWide_slice Try.underlying22 (hval 0 22 v0 rfl rfl)
  obtain ⟨l0, w0⟩ := spans_of_trod h0 (fun el sp e => by have := sized_slice hsz (j := 0) (t := 22) (e := 42) (elems := el) (spare := sp) rfl (by rw [← e]; rfl) Try.underlying22; exact this)
  have k1 := h1
  have lt1 : ∀ x ∈ p1, x.block < W.heap.size := by obtain ⟨m, hm⟩ := k1; exact DataW.trod_lt m _ _ _ hm
  obtain ⟨s1p, s1n, s1c, rfl⟩ := okWide_slice Try.underlying22 (hval 1 22 v1 rfl rfl)
  obtain ⟨l1, w1⟩ := spans_of_trod h1 (fun el sp e => by have := sized_slice hsz (j := 1) (t := 22) (e := 42) (elems := el) (spare := sp) rfl (by rw [← e]; rfl) Try.underlying22; exact this)
  have k2 := h2
  have lt2 : ∀ x ∈ p2, x.block < W.heap.size := by obtain ⟨m, hm⟩ := k2; exact DataW.trod_lt m _ _ _ hm
  obtain ⟨a2, rfl, _, _, w2⟩ := open_int Try.underlying3 (hval 2 3 v2 rfl rfl) h2
  clear hA0 hval0
  refine (walkSets _ l0 _ l1 a2 W w0 w1 w2).mono fun e W' ⟨he, bel⟩ => ?_
  subst he
  exact ⟨_, rfl, _, _, _, [], _, [], hW', trodAll_mk1 (shut_bool Try.underlying4 _), (trodAll_cons_mk (Below.trod laid_spanSets (by kernel_rfl) (of_decide_eq_true (by kernel_rfl)) k0 bel lt0) (trodAll_cons_mk (Below.trod laid_spanSets (by kernel_rfl) (of_decide_eq_true (by kernel_rfl)) k1 bel lt1) (trodAll_cons_mk (Below.trod laid_spanSets (by kernel_rfl) (of_decide_eq_true (by kernel_rfl)) k2 bel lt2) trodAll_mk0))), rfl, bel.frame _, fun h => by cases h⟩

/-- The given statement. -/
theorem spanSets_holds : Rows.SpanSetsSaid :=
  OpenClaim.holds_of_wide 4 Try.f4 rfl rfl rfl rfl rfl rfl rfl ⟨rfl, rfl, rfl, rfl, rfl⟩ rfl rfl rfl rfl rfl (by kernel_rfl) Try.func4 (by kernel_rfl)
    (of_decide_eq_true (by kernel_rfl)) (by unfold Func.isWrapper; first | (rw [if_pos (by decide +kernel)]; kernel_rfl) | (rw [if_neg (by decide +kernel)]; exact ⟨rfl, rfl⟩))
    (fun os started H enc _ => lifted_spanSets os started H enc)
end Go.Proofs.Ytfhhkbijcleedaa
