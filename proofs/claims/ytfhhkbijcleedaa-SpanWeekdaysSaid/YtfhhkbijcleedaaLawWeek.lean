/-
  SpanWeekdays: the weekday of the next night is the next one, and after 7 nights it is the same. No conditions: for every input.
-/
import Derived.Test.YtfhhkbijcleedaaSpanHead
import Derived.Test.YtfhhkbijcleedaaRows
import Derived.WalkKit
import Derived.ProofKit
import Derived.OpenShut
import Derived.ChangeOld
import Derived.Below
import Derived.Lib.SmallJoins
namespace Go.Proofs.Ytfhhkbijcleedaa
open Go.ChangeShapes Go.WideShapes Go.ChangeAt Go.RowKit Go.Joins
set_option linter.unusedVariables false

set_option maxHeartbeats 2000000 in
theorem walkWeek (n : Int) (wn : (Lit.int .u16 n).wf = true) (w : World) : Calls Try.prog 9 #[.int .u16 n] w (Ret (.bool true) w) := by
  have ⟨n1, n2⟩ : 0 ≤ n ∧ n ≤ 65535 := by simp only [Lit.wf, Bool.and_eq_true, decide_eq_true_eq] at wn; exact wn
  obtain ⟨m, hm⟩ : ∃ m, n % 366 = m := ⟨_, rfl⟩
  have hm' : n.tmod 366 = m := by rw [← hm]; exact Int.tmod_eq_emod_of_nonneg n1
  have m1 : 0 ≤ m := by omega
  have m2 : m ≤ 365 := by omega
  have e1 : wdF m = ((m + 3) % 7, 0) := by unfold wdF; rw [if_pos ⟨m1, by omega⟩, Int.tmod_eq_emod_of_nonneg (by omega)]
  have e2 : wdF (m + 1) = ((m + 4) % 7, 0) := by unfold wdF; rw [if_pos ⟨by omega, by omega⟩, Int.tmod_eq_emod_of_nonneg (by omega)]; congr 2; omega
  have a1 : 0 ≤ (m + 3) % 7 := by omega
  have a2 : (m + 3) % 7 < 7 := by omega
  have a3 : (m + 4) % 7 = ((m + 3) % 7 + 1).tmod 7 := by rw [Int.tmod_eq_emod_of_nonneg (by omega)]; omega
  have c1 := fun w' => weekday_any m w'
  have c2 := fun w' => weekday_any (m + 1) w'
  rw [e1] at c1
  rw [e2, a3] at c2
  clear e1 e2 a3 wn
  go_enter Try.func9, Try.ntmps9
  go_wp2_with fail
  refine (head_any _).mono ?_
  rintro e w1 ⟨rfl, hb⟩
  go_wp2_with fail
  refine (c1 _).mono ?_
  rintro e w2 ⟨rfl, hx⟩
  replace hb := hb.trans (hx.mono hb.size)
  clear hx c1
  go_wp2_with fail
  refine (c2 _).mono ?_
  rintro e w3 ⟨rfl, hx⟩
  replace hb := hb.trans (hx.mono hb.size)
  clear hx c2
  by_cases h7 : m < 7
  · have c3 := weekday_any (max 0 (m - 7)) w3
    rw [show wdF (max 0 (m - 7)) = (3, 0) from by rw [show max 0 (m - 7) = 0 by omega]; decide] at c3
    generalize (m + 3) % 7 = q at a1 a2
    go_wp2_with fail
    refine c3.mono ?_
    rintro e w4 ⟨rfl, hx⟩
    replace hb := hb.trans (hx.mono hb.size)
    clear hx c3
    go_wp2_with fail
    go_ret
    exact Ret.mk rfl hb
  · have c3 := weekday_any (max 0 (m - 7)) w3
    have e3 : wdF (max 0 (m - 7)) = ((m + 3) % 7, 0) := by
      have h8 : (m - 7 + 3) % 7 = (m + 3) % 7 := by omega
      rw [show max 0 (m - 7) = m - 7 by omega]; unfold wdF; rw [if_pos ⟨by omega, by omega⟩, Int.tmod_eq_emod_of_nonneg (by omega), h8]
    rw [e3] at c3
    clear e3
    generalize (m + 3) % 7 = q at a1 a2 c3
    go_wp2_with fail
    refine c3.mono ?_
    rintro e w4 ⟨rfl, hx⟩
    replace hb := hb.trans (hx.mono hb.size)
    clear hx c3
    go_wp2_with fail
    go_ret
    exact Ret.mk rfl hb
theorem own_spanWeekdays : ownKnob Try.prog.godebug = none := by kernel_rfl
theorem laid_spanWeekdays : laidOutB Try.prog = true := by kernel_rfl

set_option maxRecDepth 100000 in
theorem lifted_spanWeekdays (os : Os) (started : os.Started) (H : Type) (enc : TypeId × Value → H) :
    ReturnsInHanded {} Try.checked os 9 .any (Rows.spanWeekdaysSpec.pre6 enc Try.prog Try.f9 Rows.spanWeekdaysRow.domain false) (Rows.spanWeekdaysSpec.post enc Try.prog Try.f9 false true false false) := by
  refine returnsInHanded_of_change (C := Try.checked) own_spanWeekdays started (by kernel_rfl) Try.func9
    (ChangeSpec.witness6 (enc := enc) (C := Try.checked) false ⟨#[], #[.int .u16 0], []⟩ 8 (by kernel_rfl) (by kernel_rfl) (by kernel_rfl) (by kernel_rfl)) ?_
  intro W base args ds gs before hval0 hW hcnd _
  have hval : ∀ (j : Nat) t v, Try.f9.params[j]? = some t → args[j]? = some v → Value.okWide Try.prog W .any base t v := hval0
  have hW' := hW
  obtain ⟨p, q, hA0, hV, rfl, hfz, hnd⟩ := hW
  have hA : DataW.TrodAll enc Try.prog W 0 (fun _ => true) true Try.f9.params.toList args.toList ds p := hA0
  rw [Try.params9] at hA hval
  obtain ⟨v0, vs0, d0, ds0, p0, q0, hargs, rfl, rfl, h0, r0⟩ := trodAll_cons hA
  obtain ⟨rfl, rfl, rfl⟩ := trodAll_nil r0
  obtain rfl : args = #[v0] := by cases args; simp_all
  obtain ⟨rfl, rfl⟩ := trodVars_none hV
  have k0 := h0
  have lt0 : ∀ x ∈ p0, x.block < W.heap.size := by obtain ⟨m, hm⟩ := k0; exact DataW.trod_lt m _ _ _ hm
  obtain ⟨a0, rfl, _, _, w0⟩ := open_int Try.underlying38 (hval 0 38 v0 rfl rfl) h0
  clear hA0 hval0
  refine (walkWeek a0 w0 W).mono fun e W' ⟨he, bel⟩ => ?_
  subst he
  exact ⟨_, rfl, _, _, _, [], _, [], hW', trodAll_mk1 (shut_bool Try.underlying4 _), (trodAll_cons_mk (Below.trod laid_spanWeekdays (by kernel_rfl) (of_decide_eq_true (by kernel_rfl)) k0 bel lt0) trodAll_mk0), rfl, bel.frame _, fun h => by cases h⟩

/-- The given statement. -/
theorem spanWeekdays_holds : Rows.SpanWeekdaysSaid :=
  OpenClaim.holds_of_wide 9 Try.f9 rfl rfl rfl rfl rfl rfl rfl ⟨rfl, rfl, rfl, rfl, rfl⟩ rfl rfl rfl rfl rfl (by kernel_rfl) Try.func9 (by kernel_rfl)
    (of_decide_eq_true (by kernel_rfl)) (by unfold Func.isWrapper; first | (rw [if_pos (by decide +kernel)]; kernel_rfl) | (rw [if_neg (by decide +kernel)]; exact ⟨rfl, rfl⟩))
    (fun os started H enc _ => lifted_spanWeekdays os started H enc)
end Go.Proofs.Ytfhhkbijcleedaa
