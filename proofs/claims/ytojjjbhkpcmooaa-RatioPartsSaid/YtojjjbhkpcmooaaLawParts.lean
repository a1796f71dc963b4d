/-
  RatioParts: a part of an integer is the product with it, rounded, if this exists; a part that is not negative of a greater integer is not less. No conditions: for every input.
-/
import Derived.Test.YtojjjbhkpcmooaaLawParts0
import Derived.Test.YtojjjbhkpcmooaaLawParts1
import Derived.Test.YtojjjbhkpcmooaaLawParts2
namespace Go.Proofs.Ytojjjbhkpcmooaa
open Go.ChangeShapes Go.WideShapes Go.ChangeAt Go.RowKit Go.Joins
set_option linter.unusedVariables false
theorem walkParts (n m a1 a2 y : Int) (wn : (Lit.int .i32 n).wf = true) (wm : (Lit.int .u16 m).wf = true) (_ : (Lit.int .i64 a1).wf = true) (_ : (Lit.int .i64 a2).wf = true) (wy : (Lit.int .u8 y).wf = true) (w : World) : Calls Try.prog 9 #[.int .i32 n, .int .u16 m, .agg #[.int .i64 a1, .int .i64 a2], .int .u8 y] w (Ret (.bool true) w) := by
  have ⟨n1, n2⟩ : -2147483648 ≤ n ∧ n ≤ 2147483647 := by simp only [Lit.wf, Bool.and_eq_true, decide_eq_true_eq] at wn; exact wn
  have ⟨m1, m2⟩ : 0 ≤ m ∧ m ≤ 65535 := by simp only [Lit.wf, Bool.and_eq_true, decide_eq_true_eq] at wm; exact wm
  have ⟨y1, y2⟩ : 0 ≤ y ∧ y ≤ 255 := by simp only [Lit.wf, Bool.and_eq_true, decide_eq_true_eq] at wy; exact wy
  have ht := tmod_lt n 1000000000 (by omega)
  have t1 : -1000000000 < n.tmod 1000000000 := by omega
  have t2 : n.tmod 1000000000 < 1000000000 := by omega
  obtain ⟨A, HA⟩ : ∃ A, n.tmod 1000000000 = A := ⟨_, rfl⟩
  obtain ⟨k, HK⟩ : ∃ k, 1 + y % 3 = k := ⟨_, rfl⟩
  have A1 : -1000000000 < A := by omega
  have A2 : A < 1000000000 := by omega
  have k1 : 1 ≤ k := by omega
  have k2 : k ≤ 3 := by omega
  have HA := Lib.hid HA
  have HK := Lib.hid HK
  cases hv : vldB a1 a2 with
  | false => exact parts_bad n m a1 a2 y A k n1 n2 m1 m2 y1 y2 HA HK t1 t2 A1 A2 k1 k2 (Lib.hid hv) w
  | true =>
    by_cases hf : 1000000000 < A + m
    · exact parts_far n m a1 a2 y A k n1 n2 m1 m2 y1 y2 HA HK t1 t2 A1 A2 k1 k2 (Lib.hid hv) (by simpa using hf) w
    · have b1 : decide (1000000000 < A + m) = false := by simpa using hf
      have wa : wthB A 1000000000 = true := by simp [wthB]; omega
      have wb : wthB (A + m) 1000000000 = true := by simp [wthB]; omega
      have kk : k = 1 ∨ k = 2 ∨ k = 3 := by omega
      have pa : ∀ N, wthB N 1000000000 = true → partF N a1 a2 k = if wthB (rndF (N * a1) a2 k) 1000000000 then (rndF (N * a1) a2 k, 0) else (0, 3) := fun N hN => by unfold partF; rw [if_pos ⟨hv, kk, hN⟩]
      have hd := (vld_bd hv).2.2.1
      obtain ⟨p, q, g, hm, hg⟩ : ∃ p q g, mulF A 1 a1 a2 = (p, q, g) ∧ (g = 0 ∨ g = 3) := by
        have h1 : vldB A 1 = true := by unfold vldB fitB; simp; omega
        unfold mulF
        rw [opF_ok h1 hv]
        rcases setl_or (A * a1) (1 * a2) with ⟨x, y, h⟩ | h
        · exact ⟨x, y, 0, h, Or.inl rfl⟩
        · exact ⟨0, 0, 3, h, Or.inr rfl⟩
      have rz : g = 0 → roundF p q k = (rndF (A * a1) a2 k, 0) := fun hg => by
        subst hg
        obtain ⟨h1, h2⟩ := part_mul (k := k) hv wa hm
        unfold roundF; rw [if_pos ⟨h1, kk⟩, h2]
      obtain ⟨z, f, hz⟩ : ∃ z f, partF (A + m) a1 a2 k = (z, f) := ⟨_, _, rfl⟩
      by_cases hr : wthB (rndF (A * a1) a2 k) 1000000000 = true
      · have hx : partF A a1 a2 k = (rndF (A * a1) a2 k, 0) := by rw [pa A wa, if_pos hr]
        have fin : f ≠ 0 ∨ (f = 0 ∧ a1 < 0) ∨ (f = 0 ∧ ¬ a1 < 0 ∧ rndF (A * a1) a2 k ≤ z) := by
          by_cases f0 : f = 0
          · by_cases ha : a1 < 0
            · exact Or.inr (Or.inl ⟨f0, ha⟩)
            · refine Or.inr (Or.inr ⟨f0, ha, ?_⟩)
              rw [pa (A + m) wb] at hz
              split at hz
              · simp only [Prod.mk.injEq] at hz
                rw [← hz.1]
                exact rnd_mono _ _ _ _ hd (mul_mono _ _ _ (by omega) (by omega))
              · simp only [Prod.mk.injEq] at hz; omega
          · exact Or.inl f0
        generalize rndF (A * a1) a2 k = x at *
        rcases hg with rfl | rfl
        · rcases fin with f0 | ⟨rfl, f1⟩ | ⟨rfl, f1, f2⟩
          · exact parts_00a n m a1 a2 y A k n1 n2 m1 m2 y1 y2 HA HK t1 t2 A1 A2 k1 k2 p q x z f (Lib.hid hv) b1 (Lib.hid hx) (Lib.hid hz) (Lib.hid hm) (Lib.hid (rz rfl)) (by simpa using f0) w
          · exact parts_00b n m a1 a2 y A k n1 n2 m1 m2 y1 y2 HA HK t1 t2 A1 A2 k1 k2 p q x z (Lib.hid hv) b1 (Lib.hid hx) (Lib.hid hz) (Lib.hid hm) (Lib.hid (rz rfl)) (by simpa using f1) w
          · exact parts_00c n m a1 a2 y A k n1 n2 m1 m2 y1 y2 HA HK t1 t2 A1 A2 k1 k2 p q x z (Lib.hid hv) b1 (Lib.hid hx) (Lib.hid hz) (Lib.hid hm) (Lib.hid (rz rfl)) (by simpa using f1) (by simpa using f2) w
        · rcases fin with f0 | ⟨rfl, f1⟩ | ⟨rfl, f1, f2⟩
          · exact parts_30a n m a1 a2 y A k n1 n2 m1 m2 y1 y2 HA HK t1 t2 A1 A2 k1 k2 p q x z f (Lib.hid hv) b1 (Lib.hid hx) (Lib.hid hz) (Lib.hid hm) (by simpa using f0) w
          · exact parts_30b n m a1 a2 y A k n1 n2 m1 m2 y1 y2 HA HK t1 t2 A1 A2 k1 k2 p q x z (Lib.hid hv) b1 (Lib.hid hx) (Lib.hid hz) (Lib.hid hm) (by simpa using f1) w
          · exact parts_30c n m a1 a2 y A k n1 n2 m1 m2 y1 y2 HA HK t1 t2 A1 A2 k1 k2 p q x z (Lib.hid hv) b1 (Lib.hid hx) (Lib.hid hz) (Lib.hid hm) (by simpa using f1) (by simpa using f2) w
      · have hx : partF A a1 a2 k = (0, 3) := by rw [pa A wa, if_neg hr]
        rcases hg with rfl | rfl
        · have hr' : ¬ (-1000000000 ≤ rndF (A * a1) a2 k ∧ rndF (A * a1) a2 k ≤ 1000000000) := by simpa [wthB] using hr
          by_cases c : 1000000000 < rndF (A * a1) a2 k
          · exact parts_03a n m a1 a2 y A k n1 n2 m1 m2 y1 y2 HA HK t1 t2 A1 A2 k1 k2 p q 0 z f _ (Lib.hid hv) b1 (Lib.hid hx) (Lib.hid hz) (Lib.hid hm) (Lib.hid (rz rfl)) (by simpa using c) w
          · exact parts_03b n m a1 a2 y A k n1 n2 m1 m2 y1 y2 HA HK t1 t2 A1 A2 k1 k2 p q 0 z f _ (Lib.hid hv) b1 (Lib.hid hx) (Lib.hid hz) (Lib.hid hm) (Lib.hid (rz rfl)) (by simpa using c) (by rw [decide_eq_true_iff]; omega) w
        · exact parts_33 n m a1 a2 y A k n1 n2 m1 m2 y1 y2 HA HK t1 t2 A1 A2 k1 k2 p q 0 z f (Lib.hid hv) b1 (Lib.hid hx) (Lib.hid hz) (Lib.hid hm) w

theorem own_ratioParts : ownKnob Try.prog.godebug = none := by kernel_rfl
theorem laid_ratioParts : laidOutB Try.prog = true := by kernel_rfl

set_option maxRecDepth 100000 in
theorem lifted_ratioParts (os : Os) (started : os.Started) (H : Type) (enc : TypeId × Value → H) :
    ReturnsInHanded {} Try.checked os 9 .any (Rows.ratioPartsSpec.pre6 enc Try.prog Try.f9 Rows.ratioPartsRow.domain false) (Rows.ratioPartsSpec.post enc Try.prog Try.f9 false true false false) := by
  refine returnsInHanded_of_change (C := Try.checked) own_ratioParts started (by kernel_rfl) Try.func9
    (ChangeSpec.witness6 (enc := enc) (C := Try.checked) false ⟨#[], #[.int .i32 0, .int .u16 0, .agg #[.int .i64 0, .int .i64 0], .int .u8 0], []⟩ 8 (by kernel_rfl) (by kernel_rfl) (by kernel_rfl) (by kernel_rfl)) ?_
  intro W base args ds gs before hval0 hW hcnd _
  have hval : ∀ (j : Nat) t v, Try.f9.params[j]? = some t → args[j]? = some v → Value.okWide Try.prog W .any base t v := hval0
  have hW' := hW
  obtain ⟨p, q, hA0, hV, rfl, hfz, hnd⟩ := hW
  have hA : DataW.TrodAll enc Try.prog W 0 (fun _ => true) true Try.f9.params.toList args.toList ds p := hA0
  rw [Try.params9] at hA hval
  obtain ⟨v0, vs0, d0, ds0, p0, q0, hargs, rfl, rfl, h0, r0⟩ := trodAll_cons hA
  obtain ⟨v1, vs1, d1, ds1, p1, q1, rfl, rfl, rfl, h1, r1⟩ := trodAll_cons r0
  obtain ⟨v2, vs2, d2, ds2, p2, q2, rfl, rfl, rfl, h2, r2⟩ := trodAll_cons r1
  obtain ⟨v3, vs3, d3, ds3, p3, q3, rfl, rfl, rfl, h3, r3⟩ := trodAll_cons r2
  obtain ⟨rfl, rfl, rfl⟩ := trodAll_nil r3
  obtain rfl : args = #[v0, v1, v2, v3] := by cases args; simp_all
  obtain ⟨rfl, rfl⟩ := trodVars_none hV
  have k0 := h0
  have lt0 : ∀ x ∈ p0, x.block < W.heap.size := by obtain ⟨m, hm⟩ := k0; exact DataW.trod_lt m _ _ _ hm
  obtain ⟨a0, rfl, _, _, w0⟩ := open_int Try.underlying21 (hval 0 21 v0 rfl rfl) h0
  have k1 := h1
  have lt1 : ∀ x ∈ p1, x.block < W.heap.size := by obtain ⟨m, hm⟩ := k1; exact DataW.trod_lt m _ _ _ hm
  obtain ⟨a1, rfl, _, _, w1⟩ := open_int Try.underlying39 (hval 1 39 v1 rfl rfl) h1
  have k2 := h2
  have lt2 : ∀ x ∈ p2, x.block < W.heap.size := by obtain ⟨m, hm⟩ := k2; exact DataW.trod_lt m _ _ _ hm
  have cells2 : Try.prog.cellsOf 23 = 2 := by kernel_rfl
  obtain ⟨c20, c21, y20, y21, m2, rfl, _, _, hy20, hy21⟩ := open_agg2 Try.underlying23 (by kernel_rfl) cells2 (hval 2 23 v2 rfl rfl) h2
  obtain ⟨a20, e20, _, w20⟩ := DataW.trod_int Try.underlying3 hy20
  simp at e20
  subst e20
  obtain ⟨a21, e21, _, w21⟩ := DataW.trod_int Try.underlying3 hy21
  simp at e21
  subst e21
  have k3 := h3
  have lt3 : ∀ x ∈ p3, x.block < W.heap.size := by obtain ⟨m, hm⟩ := k3; exact DataW.trod_lt m _ _ _ hm
  obtain ⟨a3, rfl, _, _, w3⟩ := open_int Try.underlying5 (hval 3 5 v3 rfl rfl) h3
  clear hA0 hval0
  refine (walkParts a0 a1 a20 a21 a3 w0 w1 w20 w21 w3 W).mono fun e W' ⟨he, bel⟩ => ?_
  subst he
  exact ⟨_, rfl, _, _, _, [], _, [], hW', trodAll_mk1 (shut_bool Try.underlying4 _), (trodAll_cons_mk (Below.trod laid_ratioParts (by kernel_rfl) (of_decide_eq_true (by kernel_rfl)) k0 bel lt0) (trodAll_cons_mk (Below.trod laid_ratioParts (by kernel_rfl) (of_decide_eq_true (by kernel_rfl)) k1 bel lt1) (trodAll_cons_mk (Below.trod laid_ratioParts (by kernel_rfl) (of_decide_eq_true (by kernel_rfl)) k2 bel lt2) (trodAll_cons_mk (Below.trod laid_ratioParts (by kernel_rfl) (of_decide_eq_true (by kernel_rfl)) k3 bel lt3) trodAll_mk0)))), rfl, bel.frame _, fun h => by cases h⟩

/-- The given statement. -/
theorem ratioParts_holds : Rows.RatioPartsSaid :=
  OpenClaim.holds_of_wide 9 Try.f9 rfl rfl rfl rfl rfl rfl rfl ⟨rfl, rfl, rfl, rfl, rfl⟩ rfl rfl rfl rfl rfl (by kernel_rfl) Try.func9 (by kernel_rfl)
    (of_decide_eq_true (by kernel_rfl)) (by unfold Func.isWrapper; first | (rw [if_pos (by decide +kernel)]; kernel_rfl) | (rw [if_neg (by decide +kernel)]; exact ⟨rfl, rfl⟩))
    (fun os started H enc _ => lifted_ratioParts os started H enc)
end Go.Proofs.Ytojjjbhkpcmooaa
