/-
  SpanSums: the numbers of two sets are counted as those of their union and of their meet together; what both have and what is left make the first set again. No conditions: for every input.
-/
import Derived.Test.YtfhhkbijcleedaaSpanHead
import Derived.Test.YtfhhkbijcleedaaSpanArg
import Derived.SizedLaws
import Derived.Test.YtfhhkbijcleedaaRows
import Derived.WalkKit
import Derived.ProofKit
import Derived.OpenShut
import Derived.ChangeOld
import Derived.Below
import Derived.Lib.SmallJoins
namespace Go.Proofs.Ytfhhkbijcleedaa
open Go.ChangeShapes Go.WideShapes Go.ChangeAt Go.RowKit Go.Joins
set_option linter.unusedVariables false

def b2i : Bool → Int
  | true => 1
  | false => 0
def mu (p : Int → Bool) : Nat → Int
  | 0 => 0
  | k + 1 => mu p k + b2i (p k)
theorem mu_union (p q : Int → Bool) : ∀ N, mu (fun n => p n || q n) N + mu (fun n => p n && q n) N = mu p N + mu q N
  | 0 => rfl
  | k + 1 => by
    have ih := mu_union p q k
    simp only [mu]
    cases p k <;> cases q k <;> simp [b2i] <;> omega
theorem mu_span (s : Sp) (h0 : 0 ≤ s.1) (h1 : s.1 < s.2) : ∀ N : Nat, mu (isIn · s) N = min (N : Int) s.2 - min (N : Int) s.1
  | 0 => by simp only [mu]; omega
  | k + 1 => by
    have ih := mu_span s h0 h1 k
    simp only [mu, ih]
    by_cases h2 : isIn k s = true
    · have h3 := h2
      simp [isIn] at h3
      rw [h2]; simp [b2i]; omega
    · have h3 := h2
      simp [isIn] at h3
      simp only [Bool.not_eq_true] at h2
      rw [h2]; simp [b2i]; omega
theorem mu_congr (p q : Int → Bool) (h : ∀ n, p n = q n) (N : Nat) : mu p N = mu q N := by rw [show p = q from funext h]
theorem mu_cnt : ∀ (l : List Sp) (x : Int), okFrom x l = true → mu (has l) 1000000000 = cnt l
  | [], _, _ => by
    have key : ∀ N, mu (has []) N = 0 := by
      intro N; induction N with
      | zero => rfl
      | succ k ih => simp only [mu, ih, has_nil]; rfl
    exact key _
  | s :: l, x, h => by
    have hh := h
    simp only [okFrom, Bool.and_eq_true, decide_eq_true_eq, wf] at h
    obtain ⟨⟨⟨⟨h1, h2⟩, h3⟩, h4⟩, h5⟩ := h
    have ih := mu_cnt l s.2 h5
    have e := mu_union (isIn · s) (has l) 1000000000
    have z : ∀ N, mu (fun n => isIn n s && has l n) N = 0 := by
      intro N; induction N with
      | zero => rfl
      | succ k ih2 =>
        simp only [mu, ih2]
        by_cases hn : (k : Int) ≤ s.2
        · rw [has_before l s.2 k h5 hn]; simp [b2i]
        · have : isIn k s = false := by simp [isIn]; omega
          rw [this]; simp [b2i]
    rw [z] at e
    have e2 := mu_span s h1 h2 1000000000
    rw [ih, e2] at e
    have e3 : mu (has (s :: l)) 1000000000 = mu (fun n => isIn n s || has l n) 1000000000 := rfl
    rw [e3, cnt]; omega

set_option maxHeartbeats 8000000 in
theorem walkSums (va : Value) (a : List Sp) (vb : Value) (b : List Sp) (w : World) (ha : Spans w va a) (hb0 : Spans w vb b) : Calls Try.prog 6 #[va, vb] w (Ret (.bool true) w) := by
  have hb := Below.refl w.heap.size w
  cases hu : usb a b with
  | false =>
    go_enter Try.func6, Try.ntmps6
    go_wp2_with fail
    refine (head_any w).mono ?_
    rintro e w1 ⟨rfl, hx⟩
    replace ha := ha.below hx
    replace hb0 := hb0.below hx
    replace hb : Below w.heap.size w w1 := hb.trans (hx.mono hb.size)
    clear hx
    go_wp2_with fail
    refine (show Calls Try.prog _ _ _ (Ret (.bool false) w1) from hu ▸ usable_any va vb a b w1 ha hb0).mono ?_
    rintro e w2 ⟨rfl, hx⟩
    replace ha := ha.below hx
    replace hb0 := hb0.below hx
    replace hb : Below w.heap.size w w2 := hb.trans (hx.mono hb.size)
    clear hx
    go_wp2_with fail
    go_ret
    exact Ret.mk rfl hb
  | true =>
    obtain ⟨oa, ob, hk⟩ := usb_ok hu
    have oX := oa.cmb (· || ·) rfl ob
    have oY := oa.cmb (· && ·) rfl ob
    have oZ := oa.cmb (fun x y => x && !y) rfl ob
    have hA : UN (ME a b) (LE a b) = a := (oY.cmb (· || ·) rfl oZ).ext oa fun n => by
      rw [oY.hs (· || ·) rfl oZ n, oa.hs (· && ·) rfl ob n, oa.hs (fun x y => x && !y) rfl ob n]
      cases has a n <;> cases has b n <;> rfl
    have hsum : cnt (UN a b) + cnt (ME a b) = cnt a + cnt b := by
      have e := mu_union (has a) (has b) 1000000000
      rw [mu_cnt a _ oa.inc, mu_cnt b _ ob.inc, ← mu_congr _ _ (oa.hs (· || ·) rfl ob), ← mu_congr _ _ (oa.hs (· && ·) rfl ob), mu_cnt _ _ oX.inc, mu_cnt _ _ oY.inc] at e
      exact e
    have bnd : ∀ (l : List Sp) (k : Nat), Ok l k → k ≤ 1000 → 0 ≤ cnt l ∧ cnt l ≤ 1000000000000 := fun l k h hk => by
      have := sum_bound l h.bd; have := h.len; omega
    have ⟨ba, ba'⟩ := bnd a _ oa (by omega)
    have ⟨bb, bb'⟩ := bnd b _ ob (by omega)
    have ⟨bx, bx'⟩ := bnd _ _ oX (by omega)
    have ⟨by_, by'⟩ := bnd _ _ oY (by omega)
    have cM := fun v w' (h : Spans w' v a) => okc_any h oa (by omega)
    have cN := fun v w' (h : Spans w' v b) => okc_any h ob (by omega)
    have cP := fun v w' (h : Spans w' v (UN a b)) => okc_any h oX (by omega)
    have cQ := fun v w' (h : Spans w' v (ME a b)) => okc_any h oY (by omega)
    have hN : cnt b = cnt (UN a b) + cnt (ME a b) - cnt a := by omega
    generalize cnt a = ka at *
    generalize cnt b = kb at *
    generalize cnt (UN a b) = kx at *
    generalize cnt (ME a b) = ky at *
    have htest : (ka + kb == kx + ky) = true := by rw [beq_iff_eq]; omega
    clear bnd hN
    go_enter Try.func6, Try.ntmps6
    go_wp2_with fail
    refine (head_any w).mono ?_
    rintro e w1 ⟨rfl, hx⟩
    replace ha := ha.below hx
    replace hb0 := hb0.below hx
    replace hb : Below w.heap.size w w1 := hb.trans (hx.mono hb.size)
    clear hx
    go_wp2_with fail
    refine (show Calls Try.prog _ _ _ (Ret (.bool true) w1) from hu ▸ usable_any va vb a b w1 ha hb0).mono ?_
    rintro e w2 ⟨rfl, hx⟩
    replace ha := ha.below hx
    replace hb0 := hb0.below hx
    replace hb : Below w.heap.size w w2 := hb.trans (hx.mono hb.size)
    clear hx
    go_wp2_with fail
    refine (un_any ha hb0 oa ob (by omega)).mono ?_
    rintro e w3 ⟨v_x, rfl, x, hx⟩
    replace ha := ha.below hx
    replace hb0 := hb0.below hx
    replace hb : Below w.heap.size w w3 := hb.trans (hx.mono hb.size)
    clear hx
    go_wp2_with fail
    refine (me_any ha hb0 oa ob (by omega)).mono ?_
    rintro e w4 ⟨v_y, rfl, y, hx⟩
    replace ha := ha.below hx
    replace hb0 := hb0.below hx
    replace x := x.below hx
    replace hb : Below w.heap.size w w4 := hb.trans (hx.mono hb.size)
    clear hx
    go_wp2_with fail
    refine (le_any ha hb0 oa ob (by omega)).mono ?_
    rintro e w5 ⟨v_z, rfl, z, hx⟩
    replace ha := ha.below hx
    replace hb0 := hb0.below hx
    replace x := x.below hx
    replace y := y.below hx
    replace hb : Below w.heap.size w w5 := hb.trans (hx.mono hb.size)
    clear hx
    go_wp2_with fail
    refine (cM _ _ ha).mono ?_
    rintro e w6 ⟨rfl, hx⟩
    replace ha := ha.below hx
    replace hb0 := hb0.below hx
    replace x := x.below hx
    replace y := y.below hx
    replace z := z.below hx
    replace hb : Below w.heap.size w w6 := hb.trans (hx.mono hb.size)
    clear hx
    go_wp2_with fail
    refine (cN _ _ hb0).mono ?_
    rintro e w7 ⟨rfl, hx⟩
    replace ha := ha.below hx
    replace hb0 := hb0.below hx
    replace x := x.below hx
    replace y := y.below hx
    replace z := z.below hx
    replace hb : Below w.heap.size w w7 := hb.trans (hx.mono hb.size)
    clear hx
    go_wp2_with fail
    refine (cP _ _ x).mono ?_
    rintro e w8 ⟨rfl, hx⟩
    replace ha := ha.below hx
    replace hb0 := hb0.below hx
    replace x := x.below hx
    replace y := y.below hx
    replace z := z.below hx
    replace hb : Below w.heap.size w w8 := hb.trans (hx.mono hb.size)
    clear hx
    go_wp2_with fail
    refine (cQ _ _ y).mono ?_
    rintro e w9 ⟨rfl, hx⟩
    replace ha := ha.below hx
    replace hb0 := hb0.below hx
    replace x := x.below hx
    replace y := y.below hx
    replace z := z.below hx
    replace hb : Below w.heap.size w w9 := hb.trans (hx.mono hb.size)
    clear hx
    go_wp2_with fail
    refine (un_any y z oY oZ (by omega)).mono ?_
    rintro e w10 ⟨v_again, rfl, again, hx⟩
    replace ha := ha.below hx
    replace hb0 := hb0.below hx
    replace x := x.below hx
    replace y := y.below hx
    replace z := z.below hx
    replace hb : Below w.heap.size w w10 := hb.trans (hx.mono hb.size)
    clear hx
    rw [hA] at again
    go_wp2_with fail
    refine (hd_same _ _ w10 a again ha).mono ?_
    rintro e w11 ⟨rfl, hx⟩
    replace ha := ha.below hx
    replace hb0 := hb0.below hx
    replace x := x.below hx
    replace y := y.below hx
    replace z := z.below hx
    replace again := again.below hx
    replace hb : Below w.heap.size w w11 := hb.trans (hx.mono hb.size)
    clear hx
    go_wp2_with fail
    go_ret
    exact Ret.mk rfl hb
theorem own_spanSums : ownKnob Try.prog.godebug = none := by kernel_rfl
theorem laid_spanSums : laidOutB Try.prog = true := by kernel_rfl

set_option maxRecDepth 100000 in
theorem lifted_spanSums (os : Os) (started : os.Started) (H : Type) (enc : TypeId × Value → H) :
    ReturnsInHanded {} Try.checked os 6 .any (Rows.spanSumsSpec.pre6 enc Try.prog Try.f6 Rows.spanSumsRow.domain false) (Rows.spanSumsSpec.post enc Try.prog Try.f6 false true false false) := by
  refine returnsInHanded_of_change_sized (C := Try.checked) own_spanSums started (by kernel_rfl) Try.func6
    (ChangeSpec.witness6 (enc := enc) (C := Try.checked) false ⟨#[], #[.slice none 0 0, .slice none 0 0], []⟩ 8 (by kernel_rfl) (by kernel_rfl) (by kernel_rfl) (by kernel_rfl)) ?_
  intro W base args ds gs before hval0 hW hcnd hsz0 _
  have hval : ∀ (j : Nat) t v, Try.f6.params[j]? = some t → args[j]? = some v → Value.okWide Try.prog W .any base t v := hval0
  have hW' := hW
  obtain ⟨p, q, hA0, hV, rfl, hfz, hnd⟩ := hW
  have hA : DataW.TrodAll enc Try.prog W 0 (fun _ => true) true Try.f6.params.toList args.toList ds p := hA0
  rw [Try.params6] at hA hval
  obtain ⟨v0, vs0, d0, ds0, p0, q0, hargs, rfl, rfl, h0, r0⟩ := trodAll_cons hA
  obtain ⟨v1, vs1, d1, ds1, p1, q1, rfl, rfl, rfl, h1, r1⟩ := trodAll_cons r0
  obtain ⟨rfl, rfl, rfl⟩ := trodAll_nil r1
  obtain rfl : args = #[v0, v1] := by cases args; simp_all
  obtain ⟨rfl, rfl⟩ := trodVars_none hV
  have hsz : (DataW.weightsEach Try.prog [22, 22] [d0, d1]).all (fun x => decide (x ≤ reachBytes)) = true := hsz0
  have k0 := h0
  have lt0 : ∀ x ∈ p0, x.block < W.heap.size := by obtain ⟨m, hm⟩ := k0; exact DataW.trod_lt m _ _ _ hm
  obtain ⟨s0p, s0n, s0c, rfl⟩ := okWide_slice Try.underlying22 (hval 0 22 v0 rfl rfl)
  obtain ⟨l0, w0⟩ := spans_of_trod h0 (fun el sp e => by have := sized_slice hsz (j := 0) (t := 22) (e := 42) (elems := el) (spare := sp) rfl (by rw [← e]; rfl) Try.underlying22; exact this)
  have k1 := h1
  have lt1 : ∀ x ∈ p1, x.block < W.heap.size := by obtain ⟨m, hm⟩ := k1; exact DataW.trod_lt m _ _ _ hm
  obtain ⟨s1p, s1n, s1c, rfl⟩ := okWide_slice Try.underlying22 (hval 1 22 v1 rfl rfl)
  obtain ⟨l1, w1⟩ := spans_of_trod h1 (fun el sp e => by have := sized_slice hsz (j := 1) (t := 22) (e := 42) (elems := el) (spare := sp) rfl (by rw [← e]; rfl) Try.underlying22; exact this)
  clear hA0 hval0
  refine (walkSums _ l0 _ l1 W w0 w1).mono fun e W' ⟨he, bel⟩ => ?_
  subst he
  exact ⟨_, rfl, _, _, _, [], _, [], hW', trodAll_mk1 (shut_bool Try.underlying4 _), (trodAll_cons_mk (Below.trod laid_spanSums (by kernel_rfl) (of_decide_eq_true (by kernel_rfl)) k0 bel lt0) (trodAll_cons_mk (Below.trod laid_spanSums (by kernel_rfl) (of_decide_eq_true (by kernel_rfl)) k1 bel lt1) trodAll_mk0)), rfl, bel.frame _, fun h => by cases h⟩

/-- The given statement. -/
theorem spanSums_holds : Rows.SpanSumsSaid :=
  OpenClaim.holds_of_wide 6 Try.f6 rfl rfl rfl rfl rfl rfl rfl ⟨rfl, rfl, rfl, rfl, rfl⟩ rfl rfl rfl rfl rfl (by kernel_rfl) Try.func6 (by kernel_rfl)
    (of_decide_eq_true (by kernel_rfl)) (by unfold Func.isWrapper; first | (rw [if_pos (by decide +kernel)]; kernel_rfl) | (rw [if_neg (by decide +kernel)]; exact ⟨rfl, rfl⟩))
    (fun os started H enc _ => lifted_spanSums os started H enc)
end Go.Proofs.Ytfhhkbijcleedaa
