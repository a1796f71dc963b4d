/-
  The reference's parser: the operator of a level.
-/
import Derived.Test.YthnlenbfknbmcaaGreatDoorParR3
namespace Go.Proofs.YthnlenbfknbmcaaGreatDoor
open Go.RowKit Go.Shelf
set_option maxRecDepth 100000
set_option linter.unusedVariables false
set_option linter.unusedSimpArgs false
variable {W0 : World} {ad : Option Addr} {cap : Nat} {L : List Tok}

set_option maxHeartbeats 1600000
theorem rop_any (hE : REnv W0 ad cap L) (n : Nat) (h1 : 1 ≤ n) (h5 : n ≤ 5) (i : Nat) (b : Bool) (w : World) (hW : Below W0.heap.size W0 w) : Calls Tryz.prog 73 #[pv ad cap L i b, .int .i64 n] w (Ret (.int .i64 (if b then 0 else (opL n (L.drop i) : Nat) : Nat)) w) := by
  have hb : Below w.heap.size w (w.alloc (.cells #[.slice ad L.length cap, .int .i64 (i : Nat), .bool b] 67)) := balloc (Below.refl _ _) _
  cases b with
  | true =>
    clear hE hW
    go_enter Tryz.func73, Tryz.ntmps73
    go_wp2_with fail
    go_ret
    exact Ret.mk rfl hb
  | false =>
    by_cases hi : i < L.length
    · obtain ⟨a, rfl, d0, d1, d2, hab⟩ := hE.reads hW hi
      rw [List.drop_eq_getElem_cons hi]
      have hd : decide ((L.length : Int) ≤ (i : Int)) = false := by simpa using hi
      have hix : ¬ ((i : Int) < 0) := by omega
      generalize L[i] = x at *
      generalize L.drop (i + 1) = r at *
      obtain ⟨xk, xn, xt⟩ := x
      simp only at d0 d1 d2
      clear hE hW
      rcases (show n = 1 ∨ n = 2 ∨ n = 3 ∨ n = 4 ∨ n = 5 by omega) with rfl | rfl | rfl | rfl | rfl
      · by_cases e0 : xt = [111, 114]
        · have ho : Hid (opL 1 (⟨xk, xn, xt⟩ :: r) = 14) := Lib.hid (by rw [opF_cons]; simp [wOr, wAnd, e0])
          generalize opL 1 (⟨xk, xn, xt⟩ :: r) = oo at *
          have e0b : (xt == [111, 114]) = true := by simpa using e0
          clear e0
          go_enter Tryz.func73, Tryz.ntmps73
          go_wp2_with fail
          go_ret
          exact Ret.mk (by rw [ho.out]; rfl) hb
        · have ho : Hid (opL 1 (⟨xk, xn, xt⟩ :: r) = 0) := Lib.hid (by rw [opF_cons]; simp [wOr, wAnd, e0])
          generalize opL 1 (⟨xk, xn, xt⟩ :: r) = oo at *
          have e0b : (xt == [111, 114]) = false := by simpa using e0
          clear e0
          go_enter Tryz.func73, Tryz.ntmps73
          go_wp2_with fail
          go_ret
          exact Ret.mk (by rw [ho.out]; rfl) hb
      · by_cases e0 : xt = [97, 110, 100]
        · have ho : Hid (opL 2 (⟨xk, xn, xt⟩ :: r) = 13) := Lib.hid (by rw [opF_cons]; simp [wOr, wAnd, e0])
          generalize opL 2 (⟨xk, xn, xt⟩ :: r) = oo at *
          have e0b : (xt == [97, 110, 100]) = true := by simpa using e0
          clear e0
          go_enter Tryz.func73, Tryz.ntmps73
          go_wp2_with fail
          go_ret
          exact Ret.mk (by rw [ho.out]; rfl) hb
        · have ho : Hid (opL 2 (⟨xk, xn, xt⟩ :: r) = 0) := Lib.hid (by rw [opF_cons]; simp [wOr, wAnd, e0])
          generalize opL 2 (⟨xk, xn, xt⟩ :: r) = oo at *
          have e0b : (xt == [97, 110, 100]) = false := by simpa using e0
          clear e0
          go_enter Tryz.func73, Tryz.ntmps73
          go_wp2_with fail
          go_ret
          exact Ret.mk (by rw [ho.out]; rfl) hb
      · by_cases e0 : xt = [60]
        · have ho : Hid (opL 3 (⟨xk, xn, xt⟩ :: r) = 11) := Lib.hid (by rw [opF_cons]; simp [wOr, wAnd, e0])
          generalize opL 3 (⟨xk, xn, xt⟩ :: r) = oo at *
          have e0b : (xt == [60]) = true := by simpa using e0
          clear e0
          go_enter Tryz.func73, Tryz.ntmps73
          go_wp2_with fail
          go_ret
          exact Ret.mk (by rw [ho.out]; rfl) hb
        · by_cases e1 : xt = [61]
          · have ho : Hid (opL 3 (⟨xk, xn, xt⟩ :: r) = 12) := Lib.hid (by rw [opF_cons]; simp [wOr, wAnd, e0, e1])
            generalize opL 3 (⟨xk, xn, xt⟩ :: r) = oo at *
            have e0b : (xt == [60]) = false := by simpa using e0
            have e1b : (xt == [61]) = true := by simpa using e1
            clear e0 e1
            go_enter Tryz.func73, Tryz.ntmps73
            go_wp2_with fail
            go_ret
            exact Ret.mk (by rw [ho.out]; rfl) hb
          · have ho : Hid (opL 3 (⟨xk, xn, xt⟩ :: r) = 0) := Lib.hid (by rw [opF_cons]; simp [wOr, wAnd, e0, e1])
            generalize opL 3 (⟨xk, xn, xt⟩ :: r) = oo at *
            have e0b : (xt == [60]) = false := by simpa using e0
            have e1b : (xt == [61]) = false := by simpa using e1
            clear e0 e1
            go_enter Tryz.func73, Tryz.ntmps73
            go_wp2_with fail
            go_ret
            exact Ret.mk (by rw [ho.out]; rfl) hb
      · by_cases e0 : xt = [43]
        · have ho : Hid (opL 4 (⟨xk, xn, xt⟩ :: r) = 4) := Lib.hid (by rw [opF_cons]; simp [wOr, wAnd, e0])
          generalize opL 4 (⟨xk, xn, xt⟩ :: r) = oo at *
          have e0b : (xt == [43]) = true := by simpa using e0
          clear e0
          go_enter Tryz.func73, Tryz.ntmps73
          go_wp2_with fail
          go_ret
          exact Ret.mk (by rw [ho.out]; rfl) hb
        · by_cases e1 : xt = [45]
          · have ho : Hid (opL 4 (⟨xk, xn, xt⟩ :: r) = 5) := Lib.hid (by rw [opF_cons]; simp [wOr, wAnd, e0, e1])
            generalize opL 4 (⟨xk, xn, xt⟩ :: r) = oo at *
            have e0b : (xt == [43]) = false := by simpa using e0
            have e1b : (xt == [45]) = true := by simpa using e1
            clear e0 e1
            go_enter Tryz.func73, Tryz.ntmps73
            go_wp2_with fail
            go_ret
            exact Ret.mk (by rw [ho.out]; rfl) hb
          · have ho : Hid (opL 4 (⟨xk, xn, xt⟩ :: r) = 0) := Lib.hid (by rw [opF_cons]; simp [wOr, wAnd, e0, e1])
            generalize opL 4 (⟨xk, xn, xt⟩ :: r) = oo at *
            have e0b : (xt == [43]) = false := by simpa using e0
            have e1b : (xt == [45]) = false := by simpa using e1
            clear e0 e1
            go_enter Tryz.func73, Tryz.ntmps73
            go_wp2_with fail
            go_ret
            exact Ret.mk (by rw [ho.out]; rfl) hb
      · by_cases e0 : xt = [42]
        · have ho : Hid (opL 5 (⟨xk, xn, xt⟩ :: r) = 6) := Lib.hid (by rw [opF_cons]; simp [wOr, wAnd, e0])
          generalize opL 5 (⟨xk, xn, xt⟩ :: r) = oo at *
          have e0b : (xt == [42]) = true := by simpa using e0
          clear e0
          go_enter Tryz.func73, Tryz.ntmps73
          go_wp2_with fail
          go_ret
          exact Ret.mk (by rw [ho.out]; rfl) hb
        · by_cases e1 : xt = [47]
          · have ho : Hid (opL 5 (⟨xk, xn, xt⟩ :: r) = 7) := Lib.hid (by rw [opF_cons]; simp [wOr, wAnd, e0, e1])
            generalize opL 5 (⟨xk, xn, xt⟩ :: r) = oo at *
            have e0b : (xt == [42]) = false := by simpa using e0
            have e1b : (xt == [47]) = true := by simpa using e1
            clear e0 e1
            go_enter Tryz.func73, Tryz.ntmps73
            go_wp2_with fail
            go_ret
            exact Ret.mk (by rw [ho.out]; rfl) hb
          · have ho : Hid (opL 5 (⟨xk, xn, xt⟩ :: r) = 0) := Lib.hid (by rw [opF_cons]; simp [wOr, wAnd, e0, e1])
            generalize opL 5 (⟨xk, xn, xt⟩ :: r) = oo at *
            have e0b : (xt == [42]) = false := by simpa using e0
            have e1b : (xt == [47]) = false := by simpa using e1
            clear e0 e1
            go_enter Tryz.func73, Tryz.ntmps73
            go_wp2_with fail
            go_ret
            exact Ret.mk (by rw [ho.out]; rfl) hb
    · rw [List.drop_of_length_le (by omega)]
      have hd : decide ((L.length : Int) ≤ (i : Int)) = true := by simpa using hi
      clear hE hW
      go_enter Tryz.func73, Tryz.ntmps73
      go_wp2_with fail
      go_ret
      exact Ret.mk rfl hb
end Go.Proofs.YthnlenbfknbmcaaGreatDoor
