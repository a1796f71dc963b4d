/-
  The walk of longest; the kinds of the program are those of the plain lexer.
-/
import Derived.Test.YtfnclecfldddeaaDoorLexKind3
namespace Go.Proofs.YtfnclecfldddeaaDoor
open Go.RowKit Go.Shelf
set_option maxRecDepth 100000

theorem bext (s : List UInt8) (a b : Nat) : (⟨s.toArray⟩ : ByteArray).extract a b = ⟨((s.take b).drop a).toArray⟩ := by
  apply ByteArray.ext
  rw [ByteArray.data_extract]
  apply Array.ext'
  rw [Array.toList_extract]
  simp [List.drop_take]
theorem bfrom (s : List UInt8) (a : Nat) : (⟨s.toArray⟩ : ByteArray).extract a (⟨s.toArray⟩ : ByteArray).size = ⟨(s.drop a).toArray⟩ := by
  rw [bext, bsz, List.take_length]
theorem bupto (s : List UInt8) (b : Nat) : (⟨s.toArray⟩ : ByteArray).extract 0 b = ⟨(s.take b).toArray⟩ := by
  rw [bext, List.drop_zero]

set_option maxHeartbeats 400000 in
theorem longest_any (s : List UInt8) (hne : s ≠ []) (hs : s.length ≤ 1000000) (w : World) : Calls Tryd.prog 33 #[.string ⟨s.toArray⟩] w (Ret (.string ⟨(s.take (sizeF s)).toArray⟩) w) := by
  have hz := bsz s
  have hl1 : 1 ≤ s.length := by
    cases s with
    | nil => exact absurd rfl hne
    | cons c r => simp
  have hln : nLet s ≤ s.length := tw_len _
  have hdn : nDig s ≤ s.length := tw_len _
  have hrl := run_letter s (by omega)
  have hrd := run_digit s (by omega)
  have hfr := bfrom s (nDig s)
  have hfr2 := bfrom s (nDig s + 1)
  have hup := bupto s
  have hpt := prefix_any (s.drop (nDig s))
  have hrd2 := run_digit (s.drop (nDig s + 1)) (by rw [List.length_drop]; omega)
  have hd2n : nDig (s.drop (nDig s + 1)) ≤ s.length - (nDig s + 1) := by have := tw_len (p := digB) (s.drop (nDig s + 1)); rw [List.length_drop] at this; exact this
  have hptl : ptB (s.drop (nDig s)) = true → nDig s < s.length := by
    intro h
    have hc : s.drop (nDig s) ≠ [] := by intro e; rw [e] at h; revert h; decide
    have := List.length_pos_iff.2 hc
    rw [List.length_drop] at this; omega
  have hsz : sizeF s = if nLet s ≠ 0 then nLet s else if nDig s = 0 then 1 else if ptB (s.drop (nDig s)) = true then nDig s + 1 + nDig (s.drop (nDig s + 1)) else nDig s := by
    cases s with
    | nil => exact absurd rfl hne
    | cons c r =>
      have e0 : nLet (c :: r) ≠ 0 ↔ letB c = true := by
        unfold nLet; rw [List.takeWhile_cons]; cases letB c <;> simp
      have e1 : ptB ((c :: r).drop (nDig (c :: r))) = true ↔ (c :: r)[nDig (c :: r)]? = some 46 := by
        unfold ptB; rw [beq_iff_eq, List.head?_drop]
      have unf : sizeF (c :: r) = if letB c then nLet (c :: r) else if nDig (c :: r) = 0 then 1 else if (c :: r)[nDig (c :: r)]? = some 46 then nDig (c :: r) + 1 + nDig ((c :: r).drop (nDig (c :: r) + 1)) else nDig (c :: r) := rfl
      rw [unf]
      by_cases hc : letB c = true
      · rw [if_pos hc, if_pos (e0.2 hc)]
      · rw [if_neg hc, if_neg (fun h => hc (e0.1 h))]
        by_cases hp : (c :: r)[nDig (c :: r)]? = some 46
        · rw [if_pos hp, if_pos (e1.2 hp)]
        · rw [if_neg hp, if_neg (fun h => hp (e1.1 h))]
  rw [hsz]
  clear hsz hne
  obtain ⟨S, hS⟩ : ∃ S, (⟨s.toArray⟩ : ByteArray) = S := ⟨_, rfl⟩
  obtain ⟨D, hD⟩ : ∃ D, (⟨(s.drop (nDig s)).toArray⟩ : ByteArray) = D := ⟨_, rfl⟩
  obtain ⟨E, hE⟩ : ∃ E, (⟨(s.drop (nDig s + 1)).toArray⟩ : ByteArray) = E := ⟨_, rfl⟩
  simp only [hS, hD, hE] at *
  rw [← hz] at hl1 hln hdn hptl hd2n hs
  clear hS hD hE hz
  have HUP := Lib.hid hup
  clear hup
  generalize nDig (s.drop (nDig s + 1)) = k at *
  generalize ptB (s.drop (nDig s)) = p at *
  generalize nDig s = m at *
  generalize nLet s = n at *
  by_cases h0 : n = 0
  · subst h0
    by_cases h1 : m = 0
    · subst h1
      have HU := Lib.hid (HUP.out 1)
      clear hfr hfr2 hpt hrd2 hd2n hptl
      go_enter Tryd.func33, Tryd.ntmps33
      go_wp2_with fail
      refine (hrl _).mono ?_
      rintro e w1 ⟨rfl, hx⟩
      go_wp2_with fail
      refine (hrd _).mono ?_
      rintro e w2 ⟨rfl, hx2⟩
      go_wp2_with fail
      go_ret
      exact Ret.mk (by simp [HU.out]) (hx.trans (hx2.mono hx.size))
    · have h1' : (((m : Nat) : Int) == 0) = false := by rw [beq_eq_false_iff_ne]; omega
      cases p with
      | false =>
        have HU := Lib.hid (HUP.out m)
        clear hfr2 hrd2 hd2n hptl
        go_enter Tryd.func33, Tryd.ntmps33
        go_wp2_with fail
        refine (hrl _).mono ?_
        rintro e w1 ⟨rfl, hx⟩
        go_wp2_with fail
        refine (hrd _).mono ?_
        rintro e w2 ⟨rfl, hx2⟩
        go_wp2_with fail
        refine (hpt _).mono ?_
        rintro e w3 ⟨rfl, rfl⟩
        go_wp2_with fail
        go_ret
        exact Ret.mk (by simp only [HU.out]; first | rfl | simp [h1]) (hx.trans (hx2.mono hx.size))
      | true =>
        have hm := hptl rfl
        have HU := Lib.hid (HUP.out (m + 1 + k))
        have hw : ((m : Int) + (1 + (k : Int))).toNat = m + 1 + k := by omega
        have hmk : m + 1 + k ≤ S.size := by omega
        clear hptl
        go_enter Tryd.func33, Tryd.ntmps33
        go_wp2_with fail
        refine (hrl _).mono ?_
        rintro e w1 ⟨rfl, hx⟩
        go_wp2_with fail
        refine (hrd _).mono ?_
        rintro e w2 ⟨rfl, hx2⟩
        go_wp2_with fail
        refine (hpt _).mono ?_
        rintro e w3 ⟨rfl, rfl⟩
        go_wp2_with fail
        refine (hrd2 _).mono ?_
        rintro e w3 ⟨rfl, hx3⟩
        have hb := hx.trans (hx2.mono hx.size)
        go_wp2_with fail
        go_ret
        exact Ret.mk (by simp only [HU.out]; first | rfl | simp [h1]) (hb.trans (hx3.mono hb.size))
  · have h0' : decide ((n : Int) > 0) = true := by simp; omega
    have HU := Lib.hid (HUP.out n)
    clear hfr hfr2 hpt hrd2 hd2n hptl hrd
    go_enter Tryd.func33, Tryd.ntmps33
    go_wp2_with fail
    refine (hrl _).mono ?_
    rintro e w1 ⟨rfl, hx⟩
    go_wp2_with fail
    go_ret
    exact Ret.mk (by simp only [HU.out]; first | rfl | simp [h0]) hx
end Go.Proofs.YtfnclecfldddeaaDoor
