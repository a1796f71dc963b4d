/-
  The rule of OpIf, at the program.
-/
import Derived.Test.YtbkcpcjdpfndpaaTypRule
namespace Go.Proofs.Ytbkcpcjdpfndpaa
open Go.RowKit
set_option maxRecDepth 100000

set_option maxHeartbeats 3200000 in
theorem choice_any (g cap a b c : Nat) (T : Nat) (hT0 : (if a = 3 ∧ b = c then b else 0) = T) (hb0 : b ≠ 0) (w : World) (hk : Kds w g [a, b, c]) : Calls Try.prog 45 #[.slice (some ⟨g, 0, none⟩) (3 : Nat) cap] w (TyEnd T w) := by
  have hg := hk.lt
  have HT := Lib.hid hT0
  clear hT0
  have c0 : w.cell? ⟨g, 0, none⟩ = some (.int .i64 (a : Nat)) := hk.cell 0 a rfl
  have c1 : w.cell? ⟨g, 1, none⟩ = some (.int .i64 (b : Nat)) := hk.cell 1 b rfl
  have c2 : w.cell? ⟨g, 2, none⟩ = some (.int .i64 (c : Nat)) := hk.cell 2 c rfl
  have HP : Hid (a = 3 → b = c → b = T) := Lib.hid fun h1 h2 => by rw [← HT.out, if_pos ⟨h1, h2⟩]
  have HZ : Hid (¬ (a = 3 ∧ b = c) → T = 0) := Lib.hid fun h => by rw [← HT.out, if_neg h]
  clear HT
  by_cases ha : a = 3
  · have HPP : Hid (b = c → b = T) := Lib.hid (HP.out ha)
    have HZZ : Hid (¬ (b = c) → T = 0) := Lib.hid fun h => HZ.out fun q => h q.2
    clear HP HZ
    subst ha
    have hnd := fun w => need_any ((b : Int) == (c : Int)) w
    have HB : Hid (((b : Int) == (c : Int)) = true ↔ b = c) := Lib.hid (by rw [beq_iff_eq]; omega)
    generalize hbb : ((b : Int) == (c : Int)) = t at hnd HB
    have hbb2 : (b == c) = t := by rw [← hbb]; exact Bool.eq_iff_iff.2 (by rw [beq_iff_eq, beq_iff_eq]; omega)
    go_enter Try.func45, Try.ntmps45
    go_wp2_with fail
    go_region_with ((go_at_call 54; refine (hnd _).mono ?_; rintro e w1 (⟨h, rfl, hb⟩ | ⟨h, rfl, hb⟩); have H := Lib.hid h; clear h; case inr => (have H := Lib.hid h; clear h; go_wp2_with fail; exact bodyPost_panic rfl (.inr ⟨HZZ.out (by rintro hab; rw [HB.out.2 hab] at H; exact absurd H.out (by decide)), rfl, Below.trans (by (repeat (first | exact Below.refl _ _ | assumption | refine Below.drew ?_ | refine below_drewN ?_ _ | refine Below.setCell ?_ (by first | omega | (simp <;> omega)) _ | refine Below.alloc ?_ (by first | omega | (simp <;> omega)) _))) hb⟩))))
    all_goals (
      have hb1 : Below w.heap.size w w1 := Below.trans (by (repeat (first | exact Below.refl _ _ | assumption | refine Below.drew ?_ | refine below_drewN ?_ _ | refine Below.setCell ?_ (by first | omega | (simp <;> omega)) _ | refine Below.alloc ?_ (by first | omega | (simp <;> omega)) _))) hb
      have d0 : w1.cell? ⟨g, 1, none⟩ = some (.int .i64 (b : Nat)) := (hb1.cell (p := ⟨g, 1, none⟩) hg).trans c1
      have HF : Hid (b = T) := Lib.hid (HPP.out (HB.out.1 H.out))
      clear c0 c1 c2 hb hbb hbb2
      go_wp2_with fail
      go_ret
      exact .inl ⟨by rw [← HF.out]; exact hb0, by rw [← HF.out]; rfl, hb1⟩)
  · have e1 : ((a : Int) == 3) = false := by rw [beq_eq_false_iff_ne]; omega
    have e2 : (a == 3) = false := by rw [beq_eq_false_iff_ne]; exact ha
    have hnd := fun w => need_any false w
    have H0 : Hid (T = 0) := Lib.hid (HZ.out (fun q => ha q.1))
    go_enter Try.func45, Try.ntmps45
    go_wp2_with fail
    first
    | (go_region_with ((go_at_call 54; refine (need_any false _).mono ?_; rintro e w1 (⟨h, rfl, hb⟩ | ⟨h, rfl, hb⟩); have H := Lib.hid h; clear h; case inr => (go_wp2_with fail; exact bodyPost_panic rfl (.inr ⟨H0.out, rfl, Below.trans (by (repeat (first | exact Below.refl _ _ | assumption | refine Below.drew ?_ | refine below_drewN ?_ _ | refine Below.setCell ?_ (by first | omega | (simp <;> omega)) _ | refine Below.alloc ?_ (by first | omega | (simp <;> omega)) _))) hb⟩)))))
    | fail
    all_goals exact absurd H.out (by decide)
end Go.Proofs.Ytbkcpcjdpfndpaa
