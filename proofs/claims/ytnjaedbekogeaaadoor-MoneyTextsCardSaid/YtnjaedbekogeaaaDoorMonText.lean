/-
  The walk of Text.
-/
import Derived.Test.YtnjaedbekogeaaaDoorMonLib
import Derived.Test.YtnjaedbekogeaaaDoorMonA
namespace Go.Proofs.YtnjaedbekogeaaaDoor
open Go.RowKit Go.Shelf
set_option maxRecDepth 100000

theorem row_own {w : World} {B : Nat} {xs : List Value} {cap : Nat} (h : Own w B xs) (hs : xs.length ≤ 1000) : Row w (.slice (some ⟨B, 0, none⟩) xs.length cap) xs := by
  refine ⟨⟨_, _, rfl⟩, fun ad n c e i hi => ?_, by omega, fun n cap e => by cases e⟩
  cases e
  exact ⟨_, rfl, h.lt, by rw [add_zero0]; exact h.cell i _ (List.getElem?_eq_getElem hi)⟩
theorem itoa_nat (n : Nat) : Lib.itoa (n : Int) = Lib.decDigits n := by
  unfold Lib.itoa; rw [if_neg (by omega)]; simp

set_option maxHeartbeats 1000000 in
theorem mtext_any (c : Int) (w : World) (hT : Tab w) : Calls Tryd.prog 17 #[.int .i64 c] w (Ret (.tuple #[.string ⟨(textF c).1.toArray⟩, .int .i64 (textF c).2]) w) := by
  cases hc : wthB c 1000000000 with
  | false =>
    have HC := Lib.hid hc
    clear hc
    go_enter Tryd.func17, Tryd.ntmps17
    go_wp2_with (go_at_call 25; refine (isAmount_at _ _ HC.out).mono ?_; rintro e w' ⟨rfl, rfl⟩)
    go_ret2
    exact Ret.mk (by simp [textF, HC.out]) (by (repeat (first | exact Below.refl _ _ | assumption | refine Below.drew ?_ | refine below_drewN ?_ _ | refine Below.setCell ?_ (by first | omega | (simp <;> omega)) _ | refine Below.alloc ?_ (by first | omega | (simp <;> omega)) _)))
  | true =>
  have hTB := Lib.tabBelow_of_tabIs hT
  have hc2 : -1000000000 ≤ c ∧ c ≤ 1000000000 := by simpa [wthB] using hc
  have HF : Hid (textF c = (txtOf c, 0)) := Lib.hid (by simp [textF, hc])
  have HC := Lib.hid hc
  clear hc
  by_cases hneg : c < 0
  · obtain ⟨a, rfl⟩ : ∃ a : Nat, c = -(a : Int) := ⟨c.natAbs, by omega⟩
    have hdl := dec_len 7 (a / 100) (by omega)
    go_enter Tryd.func17, Tryd.ntmps17
    go_wp2_with fail
    refine (isAmount_at _ _ HC.out).mono ?_
    rintro e w' ⟨rfl, rfl⟩
    go_wp2_with (at_builtin; refine app_row _ rfl _ _ 66 rfl w.heap.size 5 (.int .u8 0) 1 Tryd.underlying66 Tryd.infoU8 rfl (by decide) _ (([] : List UInt8).map vB) rfl (OwnRow.nil _ _ _) _ [vB 45] rfl (byte_row (Own.new _ #[vB 45] _)) (by intro u hu; simp at hu; subst hu; rfl) (by simp) (by simp) ?_; intro v2 w2 hown2 hx2; refine Hid.out ?_)
    have hb2 : Below w.heap.size w w2 := (((Below.refl _ w).alloc (Nat.le_refl _) _)).trans hx2
    refine Lib.hid ?_
    go_wp2_with fail
    refine (appendInt_any w.heap.size ((a : Int) / 100) ⟨by omega, by omega⟩ v2 [45] w2 hown2 hb2.size (by simp) (hTB.on hb2)).mono ?_
    rintro e w3 ⟨v3, rfl, hown3, hb3⟩
    have hb2' : Below w.heap.size w w3 := hb2.trans hb3
    have hit : Lib.itoa ((a : Int) / 100) = Lib.decDigits (a / 100) := itoa_nat (a / 100)
    rw [hit] at hown3
    have hlen3 : ((([45] : List UInt8) ++ Lib.decDigits (a / 100)).map vB).length ≤ 9 := by simp; omega
    have hv1 : Hid (Value.int .u8 (48 + (a : Int) % 100 / 10) = vB (dg (a / 10 % 10))) := Lib.hid (by unfold vB; rw [dg_nat (by omega)]; congr 1 <;> omega)
    have hv2 : Hid (Value.int .u8 (48 + (a : Int) % 10) = vB (dg (a % 10))) := Lib.hid (by unfold vB; rw [dg_nat (by omega)]; congr 1 <;> omega)
    clear hit hb3 hdl
    go_wp2_with (at_builtin; refine app_row _ rfl _ _ 66 rfl w.heap.size 5 (.int .u8 0) 1 Tryd.underlying66 Tryd.infoU8 rfl (by decide) _ ((([45] : List UInt8) ++ Lib.decDigits (a / 100)).map vB) rfl (own_below hown3 ((Below.refl _ w3).alloc (Nat.le_refl _) _)) _ [.int .u8 46, .int .u8 (48 + (a : Int) % 100 / 10), .int .u8 (48 + (a : Int) % 10)] rfl (row_own (Own.new w3 #[.int .u8 46, .int .u8 (48 + (a : Int) % 100 / 10), .int .u8 (48 + (a : Int) % 10)] _) (by simp)) (by intro u hu; simp at hu; rcases hu with rfl | rfl | rfl <;> rfl) (by simp only [List.length_cons, List.length_nil]; omega) (by have := hb2'.size; simp; omega) ?_; intro v4 w4 hown4 hx4; refine Hid.out ?_)
    have hb4 : Below w.heap.size w w4 := hb2'.trans ((((Below.refl _ w3).alloc (Nat.le_refl _) _).mono hb2'.size).trans hx4)
    rw [hv1.out, hv2.out] at hown4
    have hown5 : OwnRow w4 w.heap.size 5 v4 ((txtOf (-(a : Int))).map vB) := by
      have e : txtOf (-(a : Int)) = ([45] : List UInt8) ++ Lib.decDigits (a / 100) ++ [46, dg (a / 10 % 10), dg (a % 10)] := by
        unfold txtOf
        rw [if_pos hneg, show (-(a : Int)).natAbs = a by omega]
      rw [e, List.map_append]; exact hown4
    have hconv := conv_bytes hown5 (by unfold txtOf; simp; omega)
    clear hown4 hown5 hown3
    refine Lib.hid ?_
    go_wp2_with fail
    go_ret2
    exact Ret.mk (by rw [HF.out]; rfl) hb4
  · obtain ⟨a, rfl⟩ : ∃ a : Nat, c = (a : Int) := ⟨c.natAbs, by omega⟩
    have hdl := dec_len 7 (a / 100) (by omega)
    have hneg' : decide ((a : Int) < 0) = false := by simp
    go_enter Tryd.func17, Tryd.ntmps17
    go_wp2_with fail
    refine (isAmount_at _ _ HC.out).mono ?_
    rintro e w' ⟨rfl, rfl⟩
    go_wp2_with fail
    refine (appendInt_any w.heap.size ((a : Int) / 100) ⟨by omega, by omega⟩ _ [] w (OwnRow.nil _ _ _) (Nat.le_refl _) (by simp) hTB).mono ?_
    rintro e w3 ⟨v3, rfl, hown3, hb3⟩
    have hb2' : Below w.heap.size w w3 := hb3
    have hit : Lib.itoa ((a : Int) / 100) = Lib.decDigits (a / 100) := itoa_nat (a / 100)
    rw [hit] at hown3
    have hlen3 : ((([] : List UInt8) ++ Lib.decDigits (a / 100)).map vB).length ≤ 9 := by simp; omega
    have hv1 : Hid (Value.int .u8 (48 + (a : Int) % 100 / 10) = vB (dg (a / 10 % 10))) := Lib.hid (by unfold vB; rw [dg_nat (by omega)]; congr 1 <;> omega)
    have hv2 : Hid (Value.int .u8 (48 + (a : Int) % 10) = vB (dg (a % 10))) := Lib.hid (by unfold vB; rw [dg_nat (by omega)]; congr 1 <;> omega)
    clear hit hb3 hdl
    go_wp2_with (at_builtin; refine app_row _ rfl _ _ 66 rfl w.heap.size 5 (.int .u8 0) 1 Tryd.underlying66 Tryd.infoU8 rfl (by decide) _ ((([] : List UInt8) ++ Lib.decDigits (a / 100)).map vB) rfl (own_below hown3 ((Below.refl _ w3).alloc (Nat.le_refl _) _)) _ [.int .u8 46, .int .u8 (48 + (a : Int) % 100 / 10), .int .u8 (48 + (a : Int) % 10)] rfl (row_own (Own.new w3 #[.int .u8 46, .int .u8 (48 + (a : Int) % 100 / 10), .int .u8 (48 + (a : Int) % 10)] _) (by simp)) (by intro u hu; simp at hu; rcases hu with rfl | rfl | rfl <;> rfl) (by simp only [List.length_cons, List.length_nil]; omega) (by have := hb2'.size; simp; omega) ?_; intro v4 w4 hown4 hx4; refine Hid.out ?_)
    have hb4 : Below w.heap.size w w4 := hb2'.trans ((((Below.refl _ w3).alloc (Nat.le_refl _) _).mono hb2'.size).trans hx4)
    rw [hv1.out, hv2.out] at hown4
    have hown5 : OwnRow w4 w.heap.size 5 v4 ((txtOf (a : Int)).map vB) := by
      have e : txtOf (a : Int) = ([] : List UInt8) ++ Lib.decDigits (a / 100) ++ [46, dg (a / 10 % 10), dg (a % 10)] := by
        unfold txtOf
        rw [if_neg (by omega), show (a : Int).natAbs = a by omega]
      rw [e, List.map_append]; exact hown4
    have hconv := conv_bytes hown5 (by unfold txtOf; simp; omega)
    clear hown4 hown5 hown3
    refine Lib.hid ?_
    go_wp2_with fail
    go_ret2
    exact Ret.mk (by rw [HF.out]; rfl) hb4
end Go.Proofs.YtnjaedbekogeaaaDoor
