/-
  The walks of the ratio package: the recursive divisor and reduce.
-/
import Derived.Test.YtbkcpcjdpfndpaaRatioPlain
import Derived.Test.YtbkcpcjdpfndpaaProg
import Derived.WalkKit
import Derived.WalkSpells
import Derived.WalkLawsBesides
import Derived.Deep.QuietTactic
import Derived.BigQuiet
import Derived.Lib.Hide
import Derived.Laws.EntriesVeiled
namespace Go.Proofs.Ytbkcpcjdpfndpaa
open Go.RowKit

set_option maxHeartbeats 400000 in
theorem divisor_any (p : Addr) (k : Nat) : ∀ (a b : Int) (w : World), b.natAbs ≤ k → -4611686018427387904 ≤ a → a ≤ 4611686018427387904 → -4611686018427387904 ≤ b → b ≤ 4611686018427387904 →
    w.cell? p = some (.func (.func 58) #[] #[.pointer (some p)]) →
    Calls Try.prog 58 #[.int .i64 a, .int .i64 b, .pointer (some p)] w fun e w' => e = .returned (.int .i64 (dv k a b)) ∧ ∃ n, w' = w.drewN n := by
  induction k with
  | zero =>
    intro a b w hk _ _ _ _ hc
    have hb : (b == 0) = true := by rw [beq_iff_eq]; omega
    go_enter Try.func58, Try.ntmps58
    go_wp2_with fail
    go_ret
    exact ⟨rfl, 0, rfl⟩
  | succ k ih =>
    intro a b w hk h1 h2 h3 h4 hc
    by_cases hb : b = 0
    · subst hb
      go_enter Try.func58, Try.ntmps58
      go_wp2_with fail
      go_ret
      exact ⟨by simp [dv], 0, rfl⟩
    · have hb' : (b == 0) = false := by simpa using hb
      go_enter Try.func58, Try.ntmps58
      have hlt := tmod_lt a b hb
      go_wp2_with fail
      go_quiet ((go_at_call 58; exact Calls.quiet_of (ih b (a.tmod b) _ (by omega) (by omega) (by omega) (by omega) (by omega) (by simpa using hc))))
      go_wp2_with fail
      go_ret
      exact ⟨by rw [dv, if_neg hb]; rfl, _, rfl⟩

set_option maxHeartbeats 400000 in
theorem reduce_any (n d : Int) (w : World) (h1 : -4000000000000000000 ≤ n) (h2 : n ≤ 4000000000000000000) (h3 : -4000000000000000000 ≤ d) (h4 : d ≤ 4000000000000000000) (hd : d ≠ 0) :
    Calls Try.prog 50 #[.int .i64 n, .int .i64 d] w (Ret (.agg #[.int .i64 (redN n d), .int .i64 (redD n d)]) w) := by
  have hmf : ∀ (fn : Fn) (first cap : Array Value) (w : World), (Instr.makeFunc fn first cap).run Try.prog w = .ok (.func fn first cap) w := fun _ _ _ _ => rfl
  go_enter Try.func50, Try.ntmps50
  have hg1 := dv_gcd d.natAbs n d (Nat.le_refl _)
  have hg2 : Int.gcd n d ≤ d.natAbs := Nat.gcd_le_right _ (by omega)
  have hg3 : 0 < Int.gcd n d := Nat.gcd_pos_of_pos_right _ (by omega)
  go_wp2_with fail
  refine (divisor_any _ d.natAbs n d _ (Nat.le_refl _) (by omega) (by omega) (by omega) (by omega) (by simp)).mono ?_
  rintro e w1 ⟨rfl, nq, rfl⟩
  generalize hgg : dv d.natAbs n d = g at *
  have Hg := Lib.hid hgg
  have hb1 : -4000000000000000000 ≤ g := by omega
  have hb2 : g ≤ 4000000000000000000 := by omega
  have hb3 : g ≠ 0 := by omega
  clear hgg hg1 hg2 hg3
  by_cases hn : g < 0
  · by_cases hd0 : d < 0
    · go_wp2_with fail
      go_region
      all_goals go_wp2_with fail
      refine bodyPost_ret (v := .agg #[.int .i64 (wrap64 (n.tdiv g)), .int .i64 (wrap64 (d.tdiv g))]) (by simp [results, Try.results50, go_sem]) rfl (Ret.mk ?_ ?_)
      · rw [wrap_tdiv _ _ (by omega) (by omega), wrap_tdiv _ _ (by omega) (by omega)]; unfold redN redD common; rw [Hg.out]; simp [hn, hd0]
      · (repeat (first | exact Below.refl _ _ | assumption | refine Below.drew ?_ | refine below_drewN ?_ _ | refine Below.setCell ?_ (by first | omega | (simp <;> omega)) _ | refine Below.alloc ?_ (by first | omega | (simp <;> omega)) _))
    · have hdd : decide (d < 0) = false := by simpa using hd0
      go_wp2_with fail
      go_region
      all_goals go_wp2_with fail
      refine bodyPost_ret (v := .agg #[.int .i64 (wrap64 (n.tdiv (-g))), .int .i64 (wrap64 (d.tdiv (-g)))]) (by simp [results, Try.results50, go_sem]) rfl (Ret.mk ?_ ?_)
      · rw [wrap_tdiv _ _ (by omega) (by omega), wrap_tdiv _ _ (by omega) (by omega)]; unfold redN redD common; rw [Hg.out]; simp [hn, hd0]
      · (repeat (first | exact Below.refl _ _ | assumption | refine Below.drew ?_ | refine below_drewN ?_ _ | refine Below.setCell ?_ (by first | omega | (simp <;> omega)) _ | refine Below.alloc ?_ (by first | omega | (simp <;> omega)) _))
  · by_cases hd0 : d < 0
    · have hnn : decide (g < 0) = false := by simpa using hn
      go_wp2_with fail
      go_region
      all_goals go_wp2_with fail
      refine bodyPost_ret (v := .agg #[.int .i64 (wrap64 (n.tdiv (-g))), .int .i64 (wrap64 (d.tdiv (-g)))]) (by simp [results, Try.results50, go_sem]) rfl (Ret.mk ?_ ?_)
      · rw [wrap_tdiv _ _ (by omega) (by omega), wrap_tdiv _ _ (by omega) (by omega)]; unfold redN redD common; rw [Hg.out]; simp [hn, hd0]
      · (repeat (first | exact Below.refl _ _ | assumption | refine Below.drew ?_ | refine below_drewN ?_ _ | refine Below.setCell ?_ (by first | omega | (simp <;> omega)) _ | refine Below.alloc ?_ (by first | omega | (simp <;> omega)) _))
    · have hnn : decide (g < 0) = false := by simpa using hn
      have hdd : decide (d < 0) = false := by simpa using hd0
      go_wp2_with fail
      go_region
      all_goals go_wp2_with fail
      refine bodyPost_ret (v := .agg #[.int .i64 (n.tdiv g), .int .i64 (d / g)]) (by simp [results, Try.results50, go_sem]) rfl (Ret.mk ?_ ?_)
      · rw [show d / g = d.tdiv g from (Int.tdiv_eq_ediv_of_nonneg (by omega)).symm]; unfold redN redD common; rw [Hg.out, hnn, hdd]; rfl
      · (repeat (first | exact Below.refl _ _ | assumption | refine Below.drew ?_ | refine below_drewN ?_ _ | refine Below.setCell ?_ (by first | omega | (simp <;> omega)) _ | refine Below.alloc ?_ (by first | omega | (simp <;> omega)) _))
end Go.Proofs.Ytbkcpcjdpfndpaa
