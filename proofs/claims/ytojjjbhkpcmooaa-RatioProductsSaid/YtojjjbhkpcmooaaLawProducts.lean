/-
  RatioProducts: the order of a product plays no part; 1 changes nothing, 0 gives 0; and a product with a sum is the sum of the products. No conditions: for every input.
-/
import Derived.Test.YtojjjbhkpcmooaaLawProd0
import Derived.Test.YtojjjbhkpcmooaaLawProd1
import Derived.Test.YtojjjbhkpcmooaaLawProd2
import Derived.Test.YtojjjbhkpcmooaaLawProd3
namespace Go.Proofs.Ytojjjbhkpcmooaa
open Go.ChangeShapes Go.WideShapes Go.ChangeAt Go.RowKit Go.Joins
set_option linter.unusedVariables false

theorem walkProducts (a1 a2 b1 b2 c1 c2 : Int) (_ : (Lit.int .i64 a1).wf = true) (_ : (Lit.int .i64 a2).wf = true) (_ : (Lit.int .i64 b1).wf = true) (_ : (Lit.int .i64 b2).wf = true) (_ : (Lit.int .i64 c1).wf = true) (_ : (Lit.int .i64 c2).wf = true) (w : World) : Calls Try.prog 6 #[.agg #[.int .i64 a1, .int .i64 a2], .agg #[.int .i64 b1, .int .i64 b2], .agg #[.int .i64 c1, .int .i64 c2]] w (Ret (.bool true) w) := by
  cases ha : vldB a1 a2 with
  | false => exact prod_bad1 a1 a2 b1 b2 c1 c2 (Lib.hid ha) w
  | true =>
    cases hb : vldB b1 b2 with
    | false => exact prod_bad2 a1 a2 b1 b2 c1 c2 (Lib.hid ha) (Lib.hid hb) w
    | true =>
      cases hc : vldB c1 c2 with
      | false => exact prod_bad3 a1 a2 b1 b2 c1 c2 (Lib.hid ha) (Lib.hid hb) (Lib.hid hc) w
      | true =>
        obtain ⟨x1, x2, x3, m1⟩ : ∃ p q r, mulF a1 a2 b1 b2 = (p, q, r) := ⟨_, _, _, rfl⟩
        have m2 := (mul_comm' b1 b2 a1 a2).trans m1
        obtain ⟨s1, s2, s3, sa⟩ : ∃ p q r, addF b1 b2 c1 c2 = (p, q, r) := ⟨_, _, _, rfl⟩
        obtain ⟨z1, z2, z3, mz⟩ : ∃ p q r, mulF a1 a2 c1 c2 = (p, q, r) := ⟨_, _, _, rfl⟩
        by_cases e1 : x3 = 0
        · subst e1
          by_cases e2 : s3 = 0
          · subst e2
            by_cases e3 : z3 = 0
            · subst e3
              obtain ⟨l1, l2, l3, ml⟩ : ∃ p q r, mulF a1 a2 s1 s2 = (p, q, r) := ⟨_, _, _, rfl⟩
              have ar := (prod_sum ha hb hc m1 sa mz).symm.trans ml
              exact prod_ok4 a1 a2 b1 b2 c1 c2 x1 x2 s1 s2 z1 z2 l1 l2 l3 (Lib.hid ha) (Lib.hid hb) (Lib.hid hc) (Lib.hid m1) (Lib.hid m2) (Lib.hid (prod_one ha)) (Lib.hid (prod_zero ha)) (Lib.hid sa) (Lib.hid mz) (Lib.hid ml) (Lib.hid ar) w
            · exact prod_ok3 a1 a2 b1 b2 c1 c2 x1 x2 s1 s2 z1 z2 z3 (Lib.hid ha) (Lib.hid hb) (Lib.hid hc) (Lib.hid m1) (Lib.hid m2) (Lib.hid (prod_one ha)) (Lib.hid (prod_zero ha)) (Lib.hid sa) (Lib.hid mz) (by simpa using e3) w
          · exact prod_ok2 a1 a2 b1 b2 c1 c2 x1 x2 s1 s2 z1 z2 s3 z3 (Lib.hid ha) (Lib.hid hb) (Lib.hid hc) (Lib.hid m1) (Lib.hid m2) (Lib.hid (prod_one ha)) (Lib.hid (prod_zero ha)) (Lib.hid sa) (Lib.hid mz) (by simpa using e2) w
        · exact prod_ok1 a1 a2 b1 b2 c1 c2 x1 x2 x3 s1 s2 s3 z1 z2 z3 (Lib.hid ha) (Lib.hid hb) (Lib.hid hc) (Lib.hid m1) (Lib.hid m2) (Lib.hid (prod_one ha)) (Lib.hid (prod_zero ha)) (Lib.hid sa) (Lib.hid mz) (by simpa using e1) w

theorem own_ratioProducts : ownKnob Try.prog.godebug = none := by kernel_rfl
theorem laid_ratioProducts : laidOutB Try.prog = true := by kernel_rfl

set_option maxRecDepth 100000 in
theorem lifted_ratioProducts (os : Os) (started : os.Started) (H : Type) (enc : TypeId × Value → H) :
    ReturnsInHanded {} Try.checked os 6 .any (Rows.ratioProductsSpec.pre6 enc Try.prog Try.f6 Rows.ratioProductsRow.domain false) (Rows.ratioProductsSpec.post enc Try.prog Try.f6 false true false false) := by
  refine returnsInHanded_of_change (C := Try.checked) own_ratioProducts started (by kernel_rfl) Try.func6
    (ChangeSpec.witness6 (enc := enc) (C := Try.checked) false ⟨#[], #[.agg #[.int .i64 0, .int .i64 0], .agg #[.int .i64 0, .int .i64 0], .agg #[.int .i64 0, .int .i64 0]], []⟩ 8 (by kernel_rfl) (by kernel_rfl) (by kernel_rfl) (by kernel_rfl)) ?_
  intro W base args ds gs before hval0 hW hcnd _
  have hval : ∀ (j : Nat) t v, Try.f6.params[j]? = some t → args[j]? = some v → Value.okWide Try.prog W .any base t v := hval0
  have hW' := hW
  obtain ⟨p, q, hA0, hV, rfl, hfz, hnd⟩ := hW
  have hA : DataW.TrodAll enc Try.prog W 0 (fun _ => true) true Try.f6.params.toList args.toList ds p := hA0
  rw [Try.params6] at hA hval
  obtain ⟨v0, vs0, d0, ds0, p0, q0, hargs, rfl, rfl, h0, r0⟩ := trodAll_cons hA
  obtain ⟨v1, vs1, d1, ds1, p1, q1, rfl, rfl, rfl, h1, r1⟩ := trodAll_cons r0
  obtain ⟨v2, vs2, d2, ds2, p2, q2, rfl, rfl, rfl, h2, r2⟩ := trodAll_cons r1
  obtain ⟨rfl, rfl, rfl⟩ := trodAll_nil r2
  obtain rfl : args = #[v0, v1, v2] := by cases args; simp_all
  obtain ⟨rfl, rfl⟩ := trodVars_none hV
  have k0 := h0
  have lt0 : ∀ x ∈ p0, x.block < W.heap.size := by obtain ⟨m, hm⟩ := k0; exact DataW.trod_lt m _ _ _ hm
  have cells0 : Try.prog.cellsOf 23 = 2 := by kernel_rfl
  obtain ⟨c00, c01, y00, y01, m0, rfl, _, _, hy00, hy01⟩ := open_agg2 Try.underlying23 (by kernel_rfl) cells0 (hval 0 23 v0 rfl rfl) h0
  obtain ⟨a00, e00, _, w00⟩ := DataW.trod_int Try.underlying3 hy00
  simp at e00
  subst e00
  obtain ⟨a01, e01, _, w01⟩ := DataW.trod_int Try.underlying3 hy01
  simp at e01
  subst e01
  have k1 := h1
  have lt1 : ∀ x ∈ p1, x.block < W.heap.size := by obtain ⟨m, hm⟩ := k1; exact DataW.trod_lt m _ _ _ hm
  have cells1 : Try.prog.cellsOf 23 = 2 := by kernel_rfl
  obtain ⟨c10, c11, y10, y11, m1, rfl, _, _, hy10, hy11⟩ := open_agg2 Try.underlying23 (by kernel_rfl) cells1 (hval 1 23 v1 rfl rfl) h1
  obtain ⟨a10, e10, _, w10⟩ := DataW.trod_int Try.underlying3 hy10
  simp at e10
  subst e10
  obtain ⟨a11, e11, _, w11⟩ := DataW.trod_int Try.underlying3 hy11
  simp at e11
  subst e11
  have k2 := h2
  have lt2 : ∀ x ∈ p2, x.block < W.heap.size := by obtain ⟨m, hm⟩ := k2; exact DataW.trod_lt m _ _ _ hm
  have cells2 : Try.prog.cellsOf 23 = 2 := by kernel_rfl
  obtain ⟨c20, c21, y20, y21, m2, rfl, _, _, hy20, hy21⟩ := open_agg2 Try.underlying23 (by kernel_rfl) cells2 (hval 2 23 v2 rfl rfl) h2
  obtain ⟨a20, e20, _, w20⟩ := DataW.trod_int Try.underlying3 hy20
  simp at e20
  subst e20
  obtain ⟨a21, e21, _, w21⟩ := DataW.trod_int Try.underlying3 hy21
  simp at e21
  subst e21
  clear hA0 hval0
  refine (walkProducts a00 a01 a10 a11 a20 a21 w00 w01 w10 w11 w20 w21 W).mono fun e W' ⟨he, bel⟩ => ?_
  subst he
  exact ⟨_, rfl, _, _, _, [], _, [], hW', trodAll_mk1 (shut_bool Try.underlying4 _), (trodAll_cons_mk (Below.trod laid_ratioProducts (by kernel_rfl) (of_decide_eq_true (by kernel_rfl)) k0 bel lt0) (trodAll_cons_mk (Below.trod laid_ratioProducts (by kernel_rfl) (of_decide_eq_true (by kernel_rfl)) k1 bel lt1) (trodAll_cons_mk (Below.trod laid_ratioProducts (by kernel_rfl) (of_decide_eq_true (by kernel_rfl)) k2 bel lt2) trodAll_mk0))), rfl, bel.frame _, fun h => by cases h⟩

/-- The given statement. -/
theorem ratioProducts_holds : Rows.RatioProductsSaid :=
  OpenClaim.holds_of_wide 6 Try.f6 rfl rfl rfl rfl rfl rfl rfl ⟨rfl, rfl, rfl, rfl, rfl⟩ rfl rfl rfl rfl rfl (by kernel_rfl) Try.func6 (by kernel_rfl)
    (of_decide_eq_true (by kernel_rfl)) (by unfold Func.isWrapper; first | (rw [if_pos (by decide +kernel)]; kernel_rfl) | (rw [if_neg (by decide +kernel)]; exact ⟨rfl, rfl⟩))
    (fun os started H enc _ => lifted_ratioProducts os started H enc)
end Go.Proofs.Ytojjjbhkpcmooaa
