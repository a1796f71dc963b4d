/-
  SpanMost: the number that Most returns is in as many spans as it says, and no number is in more, or, if it is less, in as many. No conditions: for every input.
-/
import Derived.Test.YtfhhkbijcleedaaSpanHead
import Derived.Test.YtfhhkbijcleedaaSpanArg
import Derived.Test.YtfhhkbijcleedaaSpanMostMath
import Derived.SizedLaws
import Derived.Test.YtfhhkbijcleedaaRows
import Derived.WalkKit
import Derived.ProofKit
import Derived.OpenShut
import Derived.ChangeOld
import Derived.Below
import Derived.Lib.SmallJoins
namespace Go.Proofs.Ytfhhkbijcleedaa
open Go.ChangeShapes Go.WideShapes Go.ChangeAt Go.RowKit Go.Joins
set_option linter.unusedVariables false

theorem mostL_nil : mostL [] = (0, 0) := by
  have h : endsL [] [] = [] := by simp [endsL, sortE, raw]
  simp [mostL, piecesL, h, pcs]
set_option maxHeartbeats 8000000 in
theorem walkMost (vl : Value) (l : List Sp) (n : Int) (w : World) (hl : Spans w vl l) (_ : (Lit.int .i64 n).wf = true) : Calls Try.prog 8 #[vl, .int .i64 n] w (Ret (.bool true) w) := by
  have hb := Below.refl w.heap.size w
  have hsh := hl.short
  have hcM := fun v w' (h : Spans w' v l) => most_any v l w' h
  obtain ⟨ad, cap, rfl⟩ := hl.shape
  by_cases h60 : 60 < l.length
  · clear hcM
    go_enter Try.func8, Try.ntmps8
    go_wp2_with fail
    refine (head_any w).mono ?_
    rintro e w1 ⟨rfl, hx⟩
    replace hl := hl.below hx
    replace hb : Below w.heap.size w w1 := hb.trans (hx.mono hb.size)
    clear hx
    go_wp2_with fail
    go_ret
    exact Ret.mk rfl hb
  · cases hw : l.all wf with
    | false =>
      rw [show mostF l = ((0, 0), 1) by unfold mostF; rw [if_neg (by rw [hw]; simp)]] at hcM
      go_enter Try.func8, Try.ntmps8
      go_wp2_with fail
      refine (head_any w).mono ?_
      rintro e w1 ⟨rfl, hx⟩
      replace hl := hl.below hx
      replace hb : Below w.heap.size w w1 := hb.trans (hx.mono hb.size)
      clear hx
      go_wp2_with fail
      refine (hcM _ _ hl).mono ?_
      rintro e w2 ⟨rfl, hx⟩
      replace hl := hl.below hx
      replace hb : Below w.heap.size w w2 := hb.trans (hx.mono hb.size)
      clear hx
      go_wp2_with fail
      go_ret
      exact Ret.mk rfl hb
    | true =>
      rw [show mostF l = (mostL l, 0) by unfold mostF; rw [if_pos ⟨by omega, hw⟩]] at hcM
      by_cases hne : l = []
      · subst hne
        rw [mostL_nil] at hcM
        go_enter Try.func8, Try.ntmps8
        go_wp2_with fail
        refine (head_any w).mono ?_
        rintro e w1 ⟨rfl, hx⟩
        replace hl := hl.below hx
        replace hb : Below w.heap.size w w1 := hb.trans (hx.mono hb.size)
        clear hx
        go_wp2_with fail
        refine (hcM _ _ hl).mono ?_
        rintro e w2 ⟨rfl, hx⟩
        replace hl := hl.below hx
        replace hb : Below w.heap.size w w2 := hb.trans (hx.mono hb.size)
        clear hx
        go_wp2_with fail
        go_ret
        exact Ret.mk rfl hb
      · obtain ⟨q1, q2, q3, q4⟩ := most_ok l (wf_bd hw) hne n
        have hlen : 0 < l.length := List.length_pos_iff.2 hne
        have cK := fun v w' (h : Spans w' v l) => deep_any v l n w' h
        have cX := fun v w' (h : Spans w' v l) => deep_any v l (mostL l).1 w' h
        rw [q1] at cX
        generalize deep l n = k at cK q3 q4
        generalize (mostL l).1 = x at hcM cX q4
        generalize (mostL l).2 = m at hcM cX q2 q3 q4
        clear q1
        rcases q4 with q4 | q4
        · go_enter Try.func8, Try.ntmps8
          go_wp2_with fail
          refine (head_any w).mono ?_
          rintro e w1 ⟨rfl, hx⟩
          replace hl := hl.below hx
          replace hb : Below w.heap.size w w1 := hb.trans (hx.mono hb.size)
          clear hx
          go_wp2_with fail
          refine (hcM _ _ hl).mono ?_
          rintro e w2 ⟨rfl, hx⟩
          replace hl := hl.below hx
          replace hb : Below w.heap.size w w2 := hb.trans (hx.mono hb.size)
          clear hx
          go_wp2_with fail
          refine (cK _ _ hl).mono ?_
          rintro e w3 ⟨rfl, hx⟩
          replace hl := hl.below hx
          replace hb : Below w.heap.size w w3 := hb.trans (hx.mono hb.size)
          clear hx
          go_wp2_with fail
          refine (cX _ _ hl).mono ?_
          rintro e w4 ⟨rfl, hx⟩
          replace hl := hl.below hx
          replace hb : Below w.heap.size w w4 := hb.trans (hx.mono hb.size)
          clear hx
          go_wp2_with fail
          go_ret
          exact Ret.mk rfl hb
        · by_cases q5 : k < m
          · go_enter Try.func8, Try.ntmps8
            go_wp2_with fail
            refine (head_any w).mono ?_
            rintro e w1 ⟨rfl, hx⟩
            replace hl := hl.below hx
            replace hb : Below w.heap.size w w1 := hb.trans (hx.mono hb.size)
            clear hx
            go_wp2_with fail
            refine (hcM _ _ hl).mono ?_
            rintro e w2 ⟨rfl, hx⟩
            replace hl := hl.below hx
            replace hb : Below w.heap.size w w2 := hb.trans (hx.mono hb.size)
            clear hx
            go_wp2_with fail
            refine (cK _ _ hl).mono ?_
            rintro e w3 ⟨rfl, hx⟩
            replace hl := hl.below hx
            replace hb : Below w.heap.size w w3 := hb.trans (hx.mono hb.size)
            clear hx
            go_wp2_with fail
            refine (cX _ _ hl).mono ?_
            rintro e w4 ⟨rfl, hx⟩
            replace hl := hl.below hx
            replace hb : Below w.heap.size w w4 := hb.trans (hx.mono hb.size)
            clear hx
            go_wp2_with fail
            go_ret
            exact Ret.mk rfl hb
          · go_enter Try.func8, Try.ntmps8
            go_wp2_with fail
            refine (head_any w).mono ?_
            rintro e w1 ⟨rfl, hx⟩
            replace hl := hl.below hx
            replace hb : Below w.heap.size w w1 := hb.trans (hx.mono hb.size)
            clear hx
            go_wp2_with fail
            refine (hcM _ _ hl).mono ?_
            rintro e w2 ⟨rfl, hx⟩
            replace hl := hl.below hx
            replace hb : Below w.heap.size w w2 := hb.trans (hx.mono hb.size)
            clear hx
            go_wp2_with fail
            refine (cK _ _ hl).mono ?_
            rintro e w3 ⟨rfl, hx⟩
            replace hl := hl.below hx
            replace hb : Below w.heap.size w w3 := hb.trans (hx.mono hb.size)
            clear hx
            go_wp2_with fail
            refine (cX _ _ hl).mono ?_
            rintro e w4 ⟨rfl, hx⟩
            replace hl := hl.below hx
            replace hb : Below w.heap.size w w4 := hb.trans (hx.mono hb.size)
            clear hx
            go_wp2_with fail
            go_ret
            exact Ret.mk rfl hb
theorem own_spanMost : ownKnob Try.prog.godebug = none := by kernel_rfl
theorem laid_spanMost : laidOutB Try.prog = true := by kernel_rfl

set_option maxRecDepth 100000 in
theorem lifted_spanMost (os : Os) (started : os.Started) (H : Type) (enc : TypeId × Value → H) :
    ReturnsInHanded {} Try.checked os 8 .any (Rows.spanMostSpec.pre6 enc Try.prog Try.f8 Rows.spanMostRow.domain false) (Rows.spanMostSpec.post enc Try.prog Try.f8 false true false false) := by
  refine returnsInHanded_of_change_sized (C := Try.checked) own_spanMost started (by kernel_rfl) Try.func8
    (ChangeSpec.witness6 (enc := enc) (C := Try.checked) false ⟨#[], #[.slice none 0 0, .int .i64 0], []⟩ 8 (by kernel_rfl) (by kernel_rfl) (by kernel_rfl) (by kernel_rfl)) ?_
  intro W base args ds gs before hval0 hW hcnd hsz0 _
  have hval : ∀ (j : Nat) t v, Try.f8.params[j]? = some t → args[j]? = some v → Value.okWide Try.prog W .any base t v := hval0
  have hW' := hW
  obtain ⟨p, q, hA0, hV, rfl, hfz, hnd⟩ := hW
  have hA : DataW.TrodAll enc Try.prog W 0 (fun _ => true) true Try.f8.params.toList args.toList ds p := hA0
  rw [Try.params8] at hA hval
  obtain ⟨v0, vs0, d0, ds0, p0, q0, hargs, rfl, rfl, h0, r0⟩ := trodAll_cons hA
  obtain ⟨v1, vs1, d1, ds1, p1, q1, rfl, rfl, rfl, h1, r1⟩ := trodAll_cons r0
  obtain ⟨rfl, rfl, rfl⟩ := trodAll_nil r1
  obtain rfl : args = #[v0, v1] := by cases args; simp_all
  obtain ⟨rfl, rfl⟩ := trodVars_none hV
  have hsz : (DataW.weightsEach Try.prog [22, 3] [d0, d1]).all (fun x => decide (x ≤ reachBytes)) = true := hsz0
  have k0 := h0
  have lt0 : ∀ x ∈ p0, x.block < W.heap.size := by obtain ⟨m, hm⟩ := k0; exact DataW.trod_lt m _ _ _ hm
  obtain ⟨s0p, s0n, s0c, rfl⟩ := okWide_slice Try.underlying22 (hval 0 22 v0 rfl rfl)
  obtain ⟨l0, w0⟩ := spans_of_trod h0 (fun el sp e => by have := sized_slice hsz (j := 0) (t := 22) (e := 42) (elems := el) (spare := sp) rfl (by rw [← e]; rfl) Try.underlying22; exact this)
  have k1 := h1
  have lt1 : ∀ x ∈ p1, x.block < W.heap.size := by obtain ⟨m, hm⟩ := k1; exact DataW.trod_lt m _ _ _ hm
  obtain ⟨a1, rfl, _, _, w1⟩ := open_int Try.underlying3 (hval 1 3 v1 rfl rfl) h1
  clear hA0 hval0
  refine (walkMost _ l0 a1 W w0 w1).mono fun e W' ⟨he, bel⟩ => ?_
  subst he
  exact ⟨_, rfl, _, _, _, [], _, [], hW', trodAll_mk1 (shut_bool Try.underlying4 _), (trodAll_cons_mk (Below.trod laid_spanMost (by kernel_rfl) (of_decide_eq_true (by kernel_rfl)) k0 bel lt0) (trodAll_cons_mk (Below.trod laid_spanMost (by kernel_rfl) (of_decide_eq_true (by kernel_rfl)) k1 bel lt1) trodAll_mk0)), rfl, bel.frame _, fun h => by cases h⟩

/-- The given statement. -/
theorem spanMost_holds : Rows.SpanMostSaid :=
  OpenClaim.holds_of_wide 8 Try.f8 rfl rfl rfl rfl rfl rfl rfl ⟨rfl, rfl, rfl, rfl, rfl⟩ rfl rfl rfl rfl rfl (by kernel_rfl) Try.func8 (by kernel_rfl)
    (of_decide_eq_true (by kernel_rfl)) (by unfold Func.isWrapper; first | (rw [if_pos (by decide +kernel)]; kernel_rfl) | (rw [if_neg (by decide +kernel)]; exact ⟨rfl, rfl⟩))
    (fun os started H enc _ => lifted_spanMost os started H enc)
end Go.Proofs.Ytfhhkbijcleedaa
