/-
  The walk of the reference's Parse.
-/
import Derived.Test.YtnjaedbekogeaaaDoorMonRText
namespace Go.Proofs.YtnjaedbekogeaaaDoor
open Go.RowKit Go.Shelf
set_option maxRecDepth 100000

set_option maxHeartbeats 2000000 in
theorem rparse_any (s : List UInt8) (hs : s.length ≤ 1000) (w : World) : Calls Tryd.prog 20 #[.string ⟨s.toArray⟩] w (Ret (.tuple #[.int .i64 (parseF s).1, .int .i64 (parseF s).2]) w) := by
  have hsz : (⟨s.toArray⟩ : ByteArray).size = s.length := by simp [ByteArray.size]
  go_enter Tryd.func20, Tryd.ntmps20
  go_wp2_with fail
  go_loopw [4, 5] (fun n i wr => ∃ (k : Nat) (x : Int), k ≤ s.length ∧ n = .int .i64 x ∧ i = .int .i64 k ∧ dgs 0 s = dgs x (s.drop k) ∧ 0 ≤ x ∧ x ≤ 10000000009 ∧ wr = w)
    (fun _ i _ => s.length - (intOf i).toNat)
  case atStart => exact ⟨0, 0, by omega, rfl, rfl, by simp, by omega, by omega, rfl⟩
  case round =>
    obtain ⟨k, x, hk, rfl, rfl, hd, hx0, hx1, rfl⟩ := hrel
    by_cases hkl : k < s.length
    · rw [List.drop_eq_getElem_cons hkl] at hd
      have q0 : decide ((k : Int) < s.length) = true := by simp; omega
      have e0 : ∀ h, (⟨s.toArray⟩ : ByteArray)[k]'h = s[k] := fun _ => rfl
      replace hd := Lib.hid hd
      go_wp2_with fail
      all_goals simp only [e0] at *
      · refine ⟨⟨k + 1, _, by omega, rfl, by go_num, by rw [hd.out, dgs, if_pos ⟨by omega, by omega, by omega⟩], by omega, by omega, trivial⟩, by simp [intOf]; omega⟩
      all_goals refine ⟨⟨k + 1, x, by omega, rfl, by go_num, by rw [hd.out, dgs, if_neg (by omega)], by omega, by omega, trivial⟩, by simp [intOf]; omega⟩
    · rw [List.drop_eq_nil_of_le (by omega)] at hd
      have hx : dgs 0 s = x := hd
      have q0 : decide ((k : Int) < s.length) = false := by simp; omega
      clear hd
      obtain rfl : k = s.length := by omega
      by_cases h0 : s.length = 0
      · have hp : pN s = x := by rw [← hx, List.length_eq_zero_iff.1 h0]; rfl
        have q1 : decide (0 < (s.length : Int)) = false := by rw [decide_eq_false_iff_not]; omega
        clear hx
        go_wp2_with fail
        rw [← hp]
        clear hp
        generalize hvv : pN s = v at *
        have HV := Lib.hid hvv
        refine (rtext_any v _).mono ?_
        cases hw : wthB v 1000000000 with
        | false =>
          have ht : textF v = ([], 1) := by simp [textF, hw]
          have HP : Hid (parseF s = (0, 7)) := Lib.hid (by unfold parseF; rw [HV.out, if_neg (by simp [hw])])
          rw [ht]
          rintro e w3 ⟨rfl, hx3⟩
          clear ht hw hvv
          go_wp2_with fail
          go_ret2
          exact Ret.mk (by rw [HP.out]; rfl) hx3
        | true =>
          have ht : textF v = (txtOf v, 0) := by simp [textF, hw]
          rw [ht]
          rintro e w3 ⟨rfl, hx3⟩
          clear ht
          by_cases hts : txtOf v = s
          · have HP : Hid (parseF s = (v, 0)) := Lib.hid (by unfold parseF; rw [HV.out, if_pos ⟨hw, hts⟩])
            have he : (txtOf v == s) = true := by simpa using hts
            clear hw hts hvv
            go_wp2_with fail
            go_ret2
            exact Ret.mk (by rw [HP.out]; rfl) hx3
          · have HP : Hid (parseF s = (0, 7)) := Lib.hid (by unfold parseF; rw [HV.out, if_neg (fun h => hts h.2)])
            have he : (txtOf v == s) = false := by simpa using hts
            clear hw hts hvv
            go_wp2_with fail
            go_ret2
            exact Ret.mk (by rw [HP.out]; rfl) hx3
      · have q1 : decide (0 < (s.length : Int)) = true := by rw [decide_eq_true_iff]; omega
        have hh : s.head? = some s[0] := by rw [List.head?_eq_getElem?]; exact List.getElem?_eq_getElem (by omega)
        obtain ⟨b, hb0⟩ : ∃ b, b = s[0] := ⟨_, rfl⟩
        have e0 : ∀ h, (⟨s.toArray⟩ : ByteArray)[0]'h = b := fun _ => hb0.symm
        rw [← hb0] at hh
        clear hb0
        by_cases h45 : b = 45
        · have hp : pN s = -x := by rw [← hx]; unfold pN; rw [hh, h45, if_pos rfl]
          have q2 : ((b.toNat : Int) == 45) = true := by rw [h45]; rfl
          clear hx hh h45
          go_wp2_with fail
          rw [← hp]
          clear hp
          generalize hvv : pN s = v at *
          have HV := Lib.hid hvv
          refine (rtext_any v _).mono ?_
          cases hw : wthB v 1000000000 with
          | false =>
            have ht : textF v = ([], 1) := by simp [textF, hw]
            have HP : Hid (parseF s = (0, 7)) := Lib.hid (by unfold parseF; rw [HV.out, if_neg (by simp [hw])])
            rw [ht]
            rintro e w3 ⟨rfl, hx3⟩
            clear ht hw hvv
            go_wp2_with fail
            go_ret2
            exact Ret.mk (by rw [HP.out]; rfl) hx3
          | true =>
            have ht : textF v = (txtOf v, 0) := by simp [textF, hw]
            rw [ht]
            rintro e w3 ⟨rfl, hx3⟩
            clear ht
            by_cases hts : txtOf v = s
            · have HP : Hid (parseF s = (v, 0)) := Lib.hid (by unfold parseF; rw [HV.out, if_pos ⟨hw, hts⟩])
              have he : (txtOf v == s) = true := by simpa using hts
              clear hw hts hvv
              go_wp2_with fail
              go_ret2
              exact Ret.mk (by rw [HP.out]; rfl) hx3
            · have HP : Hid (parseF s = (0, 7)) := Lib.hid (by unfold parseF; rw [HV.out, if_neg (fun h => hts h.2)])
              have he : (txtOf v == s) = false := by simpa using hts
              clear hw hts hvv
              go_wp2_with fail
              go_ret2
              exact Ret.mk (by rw [HP.out]; rfl) hx3
        · have hp : pN s = x := by rw [← hx]; unfold pN; rw [hh, if_neg (by simpa using h45)]
          have q2 : ((b.toNat : Int) == 45) = false := by
            rw [beq_eq_false_iff_ne]
            intro e
            exact h45 (UInt8.toNat.inj (by simpa using (by omega : b.toNat = 45)))
          clear hx hh h45
          go_wp2_with fail
          rw [← hp]
          clear hp
          generalize hvv : pN s = v at *
          have HV := Lib.hid hvv
          refine (rtext_any v _).mono ?_
          cases hw : wthB v 1000000000 with
          | false =>
            have ht : textF v = ([], 1) := by simp [textF, hw]
            have HP : Hid (parseF s = (0, 7)) := Lib.hid (by unfold parseF; rw [HV.out, if_neg (by simp [hw])])
            rw [ht]
            rintro e w3 ⟨rfl, hx3⟩
            clear ht hw hvv
            go_wp2_with fail
            go_ret2
            exact Ret.mk (by rw [HP.out]; rfl) hx3
          | true =>
            have ht : textF v = (txtOf v, 0) := by simp [textF, hw]
            rw [ht]
            rintro e w3 ⟨rfl, hx3⟩
            clear ht
            by_cases hts : txtOf v = s
            · have HP : Hid (parseF s = (v, 0)) := Lib.hid (by unfold parseF; rw [HV.out, if_pos ⟨hw, hts⟩])
              have he : (txtOf v == s) = true := by simpa using hts
              clear hw hts hvv
              go_wp2_with fail
              go_ret2
              exact Ret.mk (by rw [HP.out]; rfl) hx3
            · have HP : Hid (parseF s = (0, 7)) := Lib.hid (by unfold parseF; rw [HV.out, if_neg (fun h => hts h.2)])
              have he : (txtOf v == s) = false := by simpa using hts
              clear hw hts hvv
              go_wp2_with fail
              go_ret2
              exact Ret.mk (by rw [HP.out]; rfl) hx3
end Go.Proofs.YtnjaedbekogeaaaDoor
