/-
  The walks of the reference's Text and Parse.
-/
import Derived.Test.YtnjaedbekogeaaaDoorMonParse
namespace Go.Proofs.YtnjaedbekogeaaaDoor
open Go.RowKit Go.Shelf
set_option maxRecDepth 100000

theorem itoa_dg (n : Nat) (h : n < 10) : Lib.itoa (n : Int) = [dg n] := by rw [itoa_nat, Lib.decDigits, dif_pos h]; rfl

theorem app_bytes (a b : List UInt8) : (⟨a.toArray⟩ : ByteArray) ++ ⟨b.toArray⟩ = ⟨(a ++ b).toArray⟩ := by
  apply ByteArray.ext
  simp [ByteArray.data_append]

set_option maxHeartbeats 1000000 in
theorem rtext_any (c : Int) (w : World) : Calls Tryd.prog 18 #[.int .i64 c] w (Ret (.tuple #[.string ⟨(textF c).1.toArray⟩, .int .i64 (textF c).2]) w) := by
  have hb : Below w.heap.size w w := Below.refl _ _
  cases hc : wthB c 1000000000 with
  | false =>
    have HC := Lib.hid hc
    clear hc
    go_enter Tryd.func18, Tryd.ntmps18
    go_wp2_with (go_at_call 22; refine (rAmount_at _ _ HC.out).mono ?_; rintro e w' ⟨rfl, rfl⟩)
    go_ret2
    exact Ret.mk (by simp [textF, HC.out]) (by (repeat (first | exact Below.refl _ _ | assumption | refine Below.drew ?_ | refine below_drewN ?_ _ | refine Below.setCell ?_ (by first | omega | (simp <;> omega)) _ | refine Below.alloc ?_ (by first | omega | (simp <;> omega)) _)))
  | true =>
  have hc2 : -1000000000 ≤ c ∧ c ≤ 1000000000 := by simpa [wthB] using hc
  have HF : Hid (textF c = (txtOf c, 0)) := Lib.hid (by simp [textF, hc])
  have HC := Lib.hid hc
  clear hc
  by_cases hneg : c < 0
  · obtain ⟨a, rfl⟩ : ∃ a : Nat, c = -(a : Int) := ⟨c.natAbs, by omega⟩
    have HT : Hid (txtOf (-(a : Int)) = [45] ++ Lib.itoa ((a : Int) / 100) ++ [46] ++ Lib.itoa ((a : Int) % 100 / 10) ++ Lib.itoa ((a : Int) % 10)) := Lib.hid (by
      unfold txtOf
      rw [if_pos hneg, show (-(a : Int)).natAbs = a by omega, show (a : Int) / 100 = ((a / 100 : Nat) : Int) by omega, itoa_nat, show (a : Int) % 100 / 10 = ((a / 10 % 10 : Nat) : Int) by omega, itoa_dg _ (by omega), show (a : Int) % 10 = ((a % 10 : Nat) : Int) by omega, itoa_dg _ (by omega)]
      simp)
    go_enter Tryd.func18, Tryd.ntmps18
    go_wp2_with fail
    refine (rAmount_at _ _ HC.out).mono ?_
    rintro e w' ⟨rfl, rfl⟩
    go_wp2_with fail
    refine (decimal_any ((a : Int) / 100) ⟨by omega, by omega⟩ _).mono ?_
    rintro e w1 ⟨rfl, hx⟩
    replace hb : Below w.heap.size w w1 := Below.trans (by (repeat (first | exact Below.refl _ _ | assumption | refine Below.drew ?_ | refine below_drewN ?_ _ | refine Below.setCell ?_ (by first | omega | (simp <;> omega)) _ | refine Below.alloc ?_ (by have := hb.size; first | omega | (simp <;> omega)) _))) (hx.mono (by have := hb.size; first | omega | (simp <;> omega)))
    clear hx
    have l1 := itoa_len ((a : Int) / 100) ⟨by omega, by omega⟩
    generalize Lib.itoa ((a : Int) / 100) = t1 at HT l1 ⊢
    go_wp2_with fail
    refine (decimal_any ((a : Int) % 100 / 10) ⟨by omega, by omega⟩ _).mono ?_
    rintro e w2 ⟨rfl, hx⟩
    replace hb : Below w.heap.size w w2 := Below.trans (by (repeat (first | exact Below.refl _ _ | assumption | refine Below.drew ?_ | refine below_drewN ?_ _ | refine Below.setCell ?_ (by first | omega | (simp <;> omega)) _ | refine Below.alloc ?_ (by have := hb.size; first | omega | (simp <;> omega)) _))) (hx.mono (by have := hb.size; first | omega | (simp <;> omega)))
    clear hx
    have l2 := itoa_len ((a : Int) % 100 / 10) ⟨by omega, by omega⟩
    generalize Lib.itoa ((a : Int) % 100 / 10) = t2 at HT l2 ⊢
    go_wp2_with fail
    refine (decimal_any ((a : Int) % 10) ⟨by omega, by omega⟩ _).mono ?_
    rintro e w3 ⟨rfl, hx⟩
    replace hb : Below w.heap.size w w3 := Below.trans (by (repeat (first | exact Below.refl _ _ | assumption | refine Below.drew ?_ | refine below_drewN ?_ _ | refine Below.setCell ?_ (by first | omega | (simp <;> omega)) _ | refine Below.alloc ?_ (by have := hb.size; first | omega | (simp <;> omega)) _))) (hx.mono (by have := hb.size; first | omega | (simp <;> omega)))
    clear hx
    have l3 := itoa_len ((a : Int) % 10) ⟨by omega, by omega⟩
    generalize Lib.itoa ((a : Int) % 10) = t3 at HT l3 ⊢
    go_wp2_with fail
    go_ret2
    refine Ret.mk ?_ hb
    rw [HF.out, HT.out]
    show Value.tuple #[.string ((⟨([45] : List UInt8).toArray⟩ : ByteArray) ++ ⟨t1.toArray⟩ ++ ⟨([46] : List UInt8).toArray⟩ ++ ⟨t2.toArray⟩ ++ ⟨t3.toArray⟩), .int .i64 0] = _
    rw [app_bytes, app_bytes, app_bytes, app_bytes]
  · obtain ⟨a, rfl⟩ : ∃ a : Nat, c = (a : Int) := ⟨c.natAbs, by omega⟩
    have hneg' : decide ((a : Int) < 0) = false := by simp
    have HT : Hid (txtOf (a : Int) = Lib.itoa ((a : Int) / 100) ++ [46] ++ Lib.itoa ((a : Int) % 100 / 10) ++ Lib.itoa ((a : Int) % 10)) := Lib.hid (by
      unfold txtOf
      rw [if_neg (by omega), show (a : Int).natAbs = a by omega, show (a : Int) / 100 = ((a / 100 : Nat) : Int) by omega, itoa_nat, show (a : Int) % 100 / 10 = ((a / 10 % 10 : Nat) : Int) by omega, itoa_dg _ (by omega), show (a : Int) % 10 = ((a % 10 : Nat) : Int) by omega, itoa_dg _ (by omega)]
      simp)
    go_enter Tryd.func18, Tryd.ntmps18
    go_wp2_with fail
    refine (rAmount_at _ _ HC.out).mono ?_
    rintro e w' ⟨rfl, rfl⟩
    go_wp2_with fail
    refine (decimal_any ((a : Int) / 100) ⟨by omega, by omega⟩ _).mono ?_
    rintro e w1 ⟨rfl, hx⟩
    replace hb : Below w.heap.size w w1 := Below.trans (by (repeat (first | exact Below.refl _ _ | assumption | refine Below.drew ?_ | refine below_drewN ?_ _ | refine Below.setCell ?_ (by first | omega | (simp <;> omega)) _ | refine Below.alloc ?_ (by have := hb.size; first | omega | (simp <;> omega)) _))) (hx.mono (by have := hb.size; first | omega | (simp <;> omega)))
    clear hx
    have l1 := itoa_len ((a : Int) / 100) ⟨by omega, by omega⟩
    generalize Lib.itoa ((a : Int) / 100) = t1 at HT l1 ⊢
    go_wp2_with fail
    refine (decimal_any ((a : Int) % 100 / 10) ⟨by omega, by omega⟩ _).mono ?_
    rintro e w2 ⟨rfl, hx⟩
    replace hb : Below w.heap.size w w2 := Below.trans (by (repeat (first | exact Below.refl _ _ | assumption | refine Below.drew ?_ | refine below_drewN ?_ _ | refine Below.setCell ?_ (by first | omega | (simp <;> omega)) _ | refine Below.alloc ?_ (by have := hb.size; first | omega | (simp <;> omega)) _))) (hx.mono (by have := hb.size; first | omega | (simp <;> omega)))
    clear hx
    have l2 := itoa_len ((a : Int) % 100 / 10) ⟨by omega, by omega⟩
    generalize Lib.itoa ((a : Int) % 100 / 10) = t2 at HT l2 ⊢
    go_wp2_with fail
    refine (decimal_any ((a : Int) % 10) ⟨by omega, by omega⟩ _).mono ?_
    rintro e w3 ⟨rfl, hx⟩
    replace hb : Below w.heap.size w w3 := Below.trans (by (repeat (first | exact Below.refl _ _ | assumption | refine Below.drew ?_ | refine below_drewN ?_ _ | refine Below.setCell ?_ (by first | omega | (simp <;> omega)) _ | refine Below.alloc ?_ (by have := hb.size; first | omega | (simp <;> omega)) _))) (hx.mono (by have := hb.size; first | omega | (simp <;> omega)))
    clear hx
    have l3 := itoa_len ((a : Int) % 10) ⟨by omega, by omega⟩
    generalize Lib.itoa ((a : Int) % 10) = t3 at HT l3 ⊢
    go_wp2_with fail
    go_ret2
    refine Ret.mk ?_ hb
    rw [HF.out, HT.out]
    show Value.tuple #[.string ((⟨([] : List UInt8).toArray⟩ : ByteArray) ++ ⟨t1.toArray⟩ ++ ⟨([46] : List UInt8).toArray⟩ ++ ⟨t2.toArray⟩ ++ ⟨t3.toArray⟩), .int .i64 0] = _
    rw [app_bytes, app_bytes, app_bytes, app_bytes]
    rfl
end Go.Proofs.YtnjaedbekogeaaaDoor
