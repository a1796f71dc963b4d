/-
  The reference's small functions: letter, digit, sign, digits.
-/
import Derived.Test.YtfnclecfldddeaaDoorLexJoin2
namespace Go.Proofs.YtfnclecfldddeaaDoor
open Go.RowKit Go.Shelf
set_option maxRecDepth 100000

theorem rletter_any (c : UInt8) (w : World) : Calls Tryd.prog 27 #[.int .u8 c.toNat] w (Same (.bool (letB c)) w) := by
  by_cases hA : (97 : Int) ≤ c.toNat
  · have hA' : decide ((c.toNat : Int) ≥ 97) = true := by simpa using hA
    go_enter Tryd.func27, Tryd.ntmps27
    go_wp2_with fail
    go_ret
    exact Same.mk (boolV (by unfold letB; simp; omega)) rfl
  · have hA' : decide ((c.toNat : Int) ≥ 97) = false := by simpa using hA
    have hA2 : decide (97 ≤ (c.toNat : Int)) = false := by simpa using hA
    go_enter Tryd.func27, Tryd.ntmps27
    go_wp2_with fail
    go_ret
    exact Same.mk (boolV (by unfold letB; simp; omega)) rfl
theorem rletter_at {b : Bool} (c : UInt8) (w : World) (h : letB c = b) : Calls Tryd.prog 27 #[.int .u8 c.toNat] w (Same (.bool b) w) := by subst h; exact rletter_any c w
theorem rdigit_any (c : UInt8) (w : World) : Calls Tryd.prog 38 #[.int .u8 c.toNat] w (Same (.bool (digB c)) w) := by
  by_cases hA : (48 : Int) ≤ c.toNat
  · have hA' : decide ((c.toNat : Int) ≥ 48) = true := by simpa using hA
    go_enter Tryd.func38, Tryd.ntmps38
    go_wp2_with fail
    go_ret
    exact Same.mk (boolV (by unfold digB; simp; omega)) rfl
  · have hA' : decide ((c.toNat : Int) ≥ 48) = false := by simpa using hA
    have hA2 : decide (48 ≤ (c.toNat : Int)) = false := by simpa using hA
    go_enter Tryd.func38, Tryd.ntmps38
    go_wp2_with fail
    go_ret
    exact Same.mk (boolV (by unfold digB; simp; omega)) rfl
theorem rdigit_at {b : Bool} (c : UInt8) (w : World) (h : digB c = b) : Calls Tryd.prog 38 #[.int .u8 c.toNat] w (Same (.bool b) w) := by subst h; exact rdigit_any c w

theorem sgn_drop {c : UInt8} {k : Nat} (h : sgnB c = (signs.drop k).contains c) (hk : k < signs.length) : sgnB c = (signs[k] == c || (signs.drop (k + 1)).contains c) := by
  rw [h, List.drop_eq_getElem_cons hk, List.contains_cons]
  congr 1
  rw [Bool.eq_iff_iff]; simp; exact eq_comm
set_option maxHeartbeats 1000000 in
theorem rsign_any (c : UInt8) (w : World) : Calls Tryd.prog 26 #[.int .u8 c.toNat] w (Same (.bool (sgnB c)) w) := by
  have hzz : (⟨#[123, 125, 40, 41, 59, 44, 43, 45, 42, 47, 60, 61, 37]⟩ : ByteArray).size = 13 := rfl
  have hlen : signs.length = 13 := rfl
  go_enter Tryd.func26, Tryd.ntmps26
  go_wp2_with fail
  go_loop [4] (fun i => ∃ k : Nat, k ≤ 13 ∧ i = .int .i64 k ∧ sgnB c = (signs.drop k).contains c) (fun i => 13 - (intOf i).toNat)
  case atStart => exact ⟨0, by omega, rfl, rfl⟩
  case round =>
    obtain ⟨k, hk, rfl, hr⟩ := hrel
    by_cases hkl : k < 13
    · have hlt : k < signs.length := by omega
      obtain ⟨d, hdd⟩ : ∃ d, signs[k] = d := ⟨_, rfl⟩
      have hd := sgn_drop hr hlt
      rw [hdd] at hd
      have hkz : k < (⟨#[123, 125, 40, 41, 59, 44, 43, 45, 42, 47, 60, 61, 37]⟩ : ByteArray).size := by rw [hzz]; exact hkl
      have hel : (⟨#[123, 125, 40, 41, 59, 44, 43, 45, 42, 47, 60, 61, 37]⟩ : ByteArray)[k] = d := by rw [← hdd]; rfl
      have HD2 := Lib.hid hd
      clear hr hd
      clear hdd
      generalize (⟨#[123, 125, 40, 41, 59, 44, 43, 45, 42, 47, 60, 61, 37]⟩ : ByteArray) = S at *
      by_cases he : d = c
      · subst he
        have HR : Hid (sgnB d = true) := Lib.hid (by rw [HD2.out]; simp)
        clear HD2
        go_wp2_with fail
        go_ret
        exact Same.mk (by rw [HR.out]; rfl) rfl
      · have he' : (((d.toNat : Nat) : Int) == ((c.toNat : Nat) : Int)) = false := by
          rw [beq_eq_false_iff_ne]; intro e; exact he (UInt8.toNat_inj.1 (by omega))
        have HR : Hid (sgnB c = (signs.drop (k + 1)).contains c) := Lib.hid (by rw [HD2.out, show (d == c) = false by simpa using he]; rfl)
        clear HD2 he
        go_wp2_with fail
        go_round
        case rel => exact ⟨k + 1, by omega, by go_num, HR.out⟩
        case measure => simp [intOf]; omega
    · have hk2 : k = 13 := by omega
      subst hk2
      have HR : Hid (sgnB c = false) := Lib.hid (by rw [hr]; rfl)
      clear hr
      go_wp2_with fail
      go_ret
      exact Same.mk (by rw [HR.out]; rfl) rfl

theorem bget (s : List UInt8) (n : Nat) (c : UInt8) (hc : s[n]? = some c) (h : n < (⟨s.toArray⟩ : ByteArray).size) : (⟨s.toArray⟩ : ByteArray)[n] = c := by
  rw [byt]
  have hn : n < s.length := by rw [bsz] at h; exact h
  rw [List.getElem?_eq_getElem hn] at hc; exact Option.some.inj hc
set_option maxHeartbeats 1000000 in
/-- how many digits follow one another from a place on -/
theorem rdigits_any (s : List UInt8) (hs : s.length ≤ 1000000) (p : Nat) (hp : p ≤ s.length) (w : World) : Calls Tryd.prog 28 #[.string ⟨s.toArray⟩, .int .i64 p] w (Same (.int .i64 (nDig (s.drop p))) w) := by
  have hz := bsz s
  have hget := bget s
  generalize (⟨s.toArray⟩ : ByteArray) = S at *
  have HZ := Lib.hid hz
  have hz2 : S.size ≤ 1000000 := by omega
  have HG := Lib.hid hget
  clear hget hz
  go_enter Tryd.func28, Tryd.ntmps28
  go_wp2_with fail
  go_loop [5] (fun n => ∃ k : Nat, p + k ≤ s.length ∧ n = .int .i64 k ∧ ((s.drop p).take k).all digB = true) (fun n => s.length - (intOf n).toNat)
  case atStart => exact ⟨0, by omega, rfl, by simp⟩
  case round =>
    obtain ⟨k, hk, rfl, hall⟩ := hrel
    by_cases hkl : p + k < s.length
    · have hlt : p + k < S.size := by rw [HZ.out]; exact hkl
      have hel := HG.out (p + k) _ (List.getElem?_eq_getElem hkl) hlt
      have hdl : k < (s.drop p).length := by rw [List.length_drop]; omega
      have hd : (s.drop p)[k] = s[p + k] := by rw [List.getElem_drop]
      have hlt' : decide ((p : Int) + (k : Int) < (S.size : Int)) = true := by simp; omega
      generalize s[p + k] = c at hel hd
      have hA := Lib.hid hall
      have HDl := Lib.hid hd
      clear hall hd
      have hnn : ((p : Int) + (k : Int)).toNat = p + k := by omega
      cases hc : digB c with
      | true =>
        have HC := Lib.hid hc
        clear hc
        go_wp2_with fail
        refine (rdigit_at _ _ HC.out).mono ?_
        rintro e w' ⟨rfl, rfl⟩
        go_wp2_with fail
        go_round
        case rel => exact ⟨k + 1, by omega, by go_num, all_step hA.out hdl (by rw [HDl.out]; exact HC.out)⟩
        case measure => simp [intOf]; omega
      | false =>
        have HC := Lib.hid hc
        have HQ : Hid (nDig (s.drop p) = k) := Lib.hid (tw_stop hA.out hdl (by rw [HDl.out]; exact hc))
        clear hc
        go_wp2_with fail
        refine (rdigit_at _ _ HC.out).mono ?_
        rintro e w' ⟨rfl, rfl⟩
        go_wp2_with fail
        go_ret
        exact Same.mk (by rw [HQ.out]; rfl) rfl
    · have hk2 : p + k = s.length := by omega
      have hlt' : decide ((p : Int) + (k : Int) < (S.size : Int)) = false := by simp; have := HZ.out; omega
      have HQ : Hid (nDig (s.drop p) = k) := Lib.hid (by
        unfold nDig
        rw [List.take_of_length_le (by rw [List.length_drop]; omega)] at hall
        rw [tw_full hall, List.length_drop]; omega)
      clear hall hk2
      go_wp2_with fail
      go_ret
      exact Same.mk (by rw [HQ.out]; rfl) rfl
end Go.Proofs.YtfnclecfldddeaaDoor
