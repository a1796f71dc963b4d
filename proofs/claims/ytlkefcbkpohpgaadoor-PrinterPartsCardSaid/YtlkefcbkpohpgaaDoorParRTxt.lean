/-
  The reference's Decimal and Text, at numbers and amounts that are not negative.
-/
import Derived.Test.YtlkefcbkpohpgaaDoorParDec
import Derived.Test.YtlkefcbkpohpgaaDoorParTxt
import Derived.Test.YtlkefcbkpohpgaaDoorRatioA
namespace Go.Proofs.YtlkefcbkpohpgaaDoor
open Go.RowKit Go.Shelf
set_option maxRecDepth 100000

theorem rdec_any (n : Nat) (h : n ≤ 1000000000) (w : World) : Calls Tryd.prog 31 #[.int .i64 n] w (Ret (.string ⟨(Lib.decDigits n).toArray⟩) w) := by
  have := Dg.decimal_any (n : Int) ⟨by omega, by omega⟩ w
  have e : Lib.itoa (n : Int) = Lib.decDigits n := by unfold Lib.itoa; rw [if_neg (by omega)]; simp
  rw [e] at this
  exact this
theorem bytes_app (a b : List UInt8) : (⟨a.toArray⟩ : ByteArray) ++ ⟨b.toArray⟩ = ⟨(a ++ b).toArray⟩ := by
  apply ByteArray.ext
  simp [ByteArray.data_append]
theorem rAmount_nat (a : Nat) (h : a ≤ 1000000000) (w : World) : Calls Tryd.prog 62 #[.int .i64 a] w (Same (.bool true) w) := by
  have h1 : decide (-1000000000 ≤ (a : Int)) = true := decide_eq_true (by omega)
  have h2 : decide ((a : Int) ≤ 1000000000) = true := decide_eq_true (by omega)
  go_enter Tryd.func62, Tryd.ntmps62
  go_wp2_with fail
  go_ret
  exact Same.mk rfl rfl
theorem dec_one (n : Nat) (h : n < 10) : Lib.decDigits n = [UInt8.ofNat (48 + n)] := by rw [Lib.decDigits, dif_pos h]
set_option maxHeartbeats 1000000 in
theorem rtext_any (a : Nat) (h : a ≤ 1000000000) (w : World) : Calls Tryd.prog 47 #[.int .i64 a] w (Ret (.tuple #[.string ⟨(monT a).toArray⟩, .int .i64 0]) w) := by
  have hb : Below w.heap.size w w := Below.refl _ _
  have hneg' : decide ((a : Int) < 0) = false := by simp
  have HT : Hid (monT a = Lib.decDigits (a / 100) ++ [46] ++ Lib.decDigits (a / 10 % 10) ++ Lib.decDigits (a % 10)) := Lib.hid (by
    unfold monT
    rw [dec_one (a / 10 % 10) (by omega), dec_one (a % 10) (by omega)]
    simp)
  have e1 : (a : Int) / 100 = ((a / 100 : Nat) : Int) := by omega
  have e2 : (a : Int) % 100 / 10 = ((a / 10 % 10 : Nat) : Int) := by omega
  have e3 : (a : Int) % 10 = ((a % 10 : Nat) : Int) := by omega
  have l1 := dec_size 9 (a / 100) (by omega)
  have l2 := dec_size 0 (a / 10 % 10) (by omega)
  have l3 := dec_size 0 (a % 10) (by omega)
  have D1 := fun w => rdec_any (a / 100) (by omega) w
  have D2 := fun w => rdec_any (a / 10 % 10) (by omega) w
  have D3 := fun w => rdec_any (a % 10) (by omega) w
  rw [← e1] at D1
  rw [← e2] at D2
  rw [← e3] at D3
  clear e1 e2 e3
  generalize Lib.decDigits (a / 100) = t1 at HT l1 D1
  generalize Lib.decDigits (a / 10 % 10) = t2 at HT l2 D2
  generalize Lib.decDigits (a % 10) = t3 at HT l3 D3
  go_enter Tryd.func47, Tryd.ntmps47
  go_wp2_with fail
  refine (rAmount_nat a h _).mono ?_
  rintro e w' ⟨rfl, rfl⟩
  go_wp2_with fail
  refine (D1 _).mono ?_
  rintro e w1 ⟨rfl, hx⟩
  replace hb : Below w.heap.size w w1 := Below.trans (by (repeat (first | exact Below.refl _ _ | assumption | refine Below.drew ?_ | refine below_drewN ?_ _ | refine Below.setCell ?_ (by first | omega | (simp <;> omega)) _ | refine Below.alloc ?_ (by have := hb.size; first | omega | (simp <;> omega)) _))) (hx.mono (by have := hb.size; first | omega | (simp <;> omega)))
  clear hx
  go_wp2_with fail
  refine (D2 _).mono ?_
  rintro e w2 ⟨rfl, hx⟩
  replace hb : Below w.heap.size w w2 := Below.trans (by (repeat (first | exact Below.refl _ _ | assumption | refine Below.drew ?_ | refine below_drewN ?_ _ | refine Below.setCell ?_ (by first | omega | (simp <;> omega)) _ | refine Below.alloc ?_ (by have := hb.size; first | omega | (simp <;> omega)) _))) (hx.mono (by have := hb.size; first | omega | (simp <;> omega)))
  clear hx
  go_wp2_with fail
  refine (D3 _).mono ?_
  rintro e w3 ⟨rfl, hx⟩
  replace hb : Below w.heap.size w w3 := Below.trans (by (repeat (first | exact Below.refl _ _ | assumption | refine Below.drew ?_ | refine below_drewN ?_ _ | refine Below.setCell ?_ (by first | omega | (simp <;> omega)) _ | refine Below.alloc ?_ (by have := hb.size; first | omega | (simp <;> omega)) _))) (hx.mono (by have := hb.size; first | omega | (simp <;> omega)))
  clear hx
  go_wp2_with fail
  go_ret2
  refine Ret.mk ?_ hb
  rw [HT.out]
  show Value.tuple #[.string ((⟨([] : List UInt8).toArray⟩ : ByteArray) ++ ⟨t1.toArray⟩ ++ ⟨([46] : List UInt8).toArray⟩ ++ ⟨t2.toArray⟩ ++ ⟨t3.toArray⟩), .int .i64 0] = _
  rw [bytes_app, bytes_app, bytes_app, bytes_app]
  rfl
end Go.Proofs.YtlkefcbkpohpgaaDoor
