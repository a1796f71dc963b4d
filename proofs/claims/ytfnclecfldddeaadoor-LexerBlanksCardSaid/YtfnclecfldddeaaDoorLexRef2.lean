/-
  The reference's size and Kind.
-/
import Derived.Test.YtfnclecfldddeaaDoorLexRef
namespace Go.Proofs.YtfnclecfldddeaaDoor
open Go.RowKit Go.Shelf
set_option maxRecDepth 100000

set_option maxHeartbeats 2000000 in
theorem rsize_any (s : List UInt8) (hs : s.length ≤ 1000000) (p : Nat) (hp : p < s.length) (w : World) : Calls Tryd.prog 20 #[.string ⟨s.toArray⟩, .int .i64 p] w (Same (.int .i64 (sizeF (s.drop p))) w) := by
  have hz := bsz s
  have hget := bget s
  obtain ⟨c, r, hd⟩ : ∃ c r, s.drop p = c :: r := by
    cases h : s.drop p with
    | nil => have := congrArg List.length h; rw [List.length_drop] at this; simp at this; omega
    | cons c r => exact ⟨c, r, rfl⟩
  have hc0 : s[p]? = some c := by
    have : (s.drop p)[0]? = s[p + 0]? := List.getElem?_drop
    rw [hd] at this; simpa using this.symm
  have hdn : nDig (s.drop p) ≤ s.length - p := by have := tw_len (p := digB) (s.drop p); rw [List.length_drop] at this; exact this
  have hrd := rdigits_any s hs p (by omega)
  have hrd2 := fun (h : p + nDig (s.drop p) < s.length) w => rdigits_any s hs (p + nDig (s.drop p) + 1) (by omega) w
  have hsz : sizeF (s.drop p) = if letB c then nLet (s.drop p) else if nDig (s.drop p) = 0 then 1 else if s[p + nDig (s.drop p)]? = some 46 then nDig (s.drop p) + 1 + nDig (s.drop (p + nDig (s.drop p) + 1)) else nDig (s.drop p) := by
    have e1 : (s.drop p)[nDig (s.drop p)]? = s[p + nDig (s.drop p)]? := List.getElem?_drop
    have e2 : (s.drop p).drop (nDig (s.drop p) + 1) = s.drop (p + nDig (s.drop p) + 1) := by rw [List.drop_drop]; congr 1
    rw [← e1, ← e2]
    generalize s.drop p = q at *
    subst hd
    rfl
  have hel : ∀ h : p < (⟨s.toArray⟩ : ByteArray).size, (⟨s.toArray⟩ : ByteArray)[p] = c := fun h => hget p c hc0 h
  obtain ⟨R, hR⟩ : ∃ R, sizeF (s.drop p) = R := ⟨_, rfl⟩
  rw [hR]
  have HR0 := Lib.hid (hR.symm.trans hsz)
  clear hsz hR
  have hdl : ∀ k, k < s.length - p → (s.drop p)[k]? = s[p + k]? := fun k _ => List.getElem?_drop
  have hql : (s.drop p).length = s.length - p := List.length_drop
  have hd2l : nDig (s.drop (p + nDig (s.drop p) + 1)) ≤ s.length := by have := tw_len (p := digB) (s.drop (p + nDig (s.drop p) + 1)); rw [List.length_drop] at this; unfold nDig at *; omega
  clear hd hc0
  generalize (⟨s.toArray⟩ : ByteArray) = S at *
  have hpS : p < S.size := by omega
  have hel0 := hel hpS
  have HZ := Lib.hid hz
  have hz2 : S.size ≤ 1000000 := by omega
  have HG := Lib.hid hget
  have HDL := Lib.hid hdl
  have HQL := Lib.hid hql
  clear hget hz hel hdl hql
  cases hc : letB c with
  | true =>
    have HC := Lib.hid hc
    clear hc hrd hrd2 hdn hd2l
    go_enter Tryd.func20, Tryd.ntmps20
    go_wp2_with fail
    refine (rletter_at _ _ HC.out).mono ?_
    rintro e w' ⟨rfl, rfl⟩
    go_wp2_with fail
    go_loop [5] (fun n => ∃ k : Nat, p + k ≤ s.length ∧ n = .int .i64 k ∧ ((s.drop p).take k).all letB = true) (fun n => s.length - (intOf n).toNat)
    case atStart => exact ⟨0, by omega, rfl, by simp⟩
    case round =>
      obtain ⟨k, hk, rfl, hall⟩ := hrel
      by_cases hkl : p + k < s.length
      · have hlt : p + k < S.size := by rw [HZ.out]; exact hkl
        obtain ⟨d, hd⟩ : ∃ d, s[p + k]? = some d := ⟨_, List.getElem?_eq_getElem hkl⟩
        have hel := HG.out (p + k) d hd hlt
        have hdl : k < (s.drop p).length := by rw [HQL.out]; omega
        have hdd : (s.drop p)[k] = d := by
          have := HDL.out k (by omega); rw [hd, List.getElem?_eq_getElem hdl] at this; exact Option.some.inj this
        have hlt' : decide ((p : Int) + (k : Int) < (S.size : Int)) = true := by simp; omega
        have hA := Lib.hid hall
        have HDl := Lib.hid hdd
        clear hall hdd hd
        have hnn : ((p : Int) + (k : Int)).toNat = p + k := by omega
        cases hcd : letB d with
        | true =>
          have HCd := Lib.hid hcd
          clear hcd
          go_wp2_with fail
          refine (rletter_at _ _ HCd.out).mono ?_
          rintro e w' ⟨rfl, rfl⟩
          go_wp2_with fail
          go_round
          case rel => exact ⟨k + 1, by omega, by go_num, all_step hA.out hdl (by rw [HDl.out]; exact HCd.out)⟩
          case measure => simp [intOf]; omega
        | false =>
          have HCd := Lib.hid hcd
          have HQ : Hid (nLet (s.drop p) = k) := Lib.hid (tw_stop hA.out hdl (by rw [HDl.out]; exact hcd))
          clear hcd
          go_wp2_with fail
          refine (rletter_at _ _ HCd.out).mono ?_
          rintro e w' ⟨rfl, rfl⟩
          go_wp2_with fail
          go_ret
          exact Same.mk (by rw [HR0.out, HC.out, if_pos rfl, HQ.out]; rfl) rfl
      · have hk2 : p + k = s.length := by omega
        have hlt' : decide ((p : Int) + (k : Int) < (S.size : Int)) = false := by simp; have := HZ.out; omega
        have HQ : Hid (nLet (s.drop p) = k) := Lib.hid (by
          unfold nLet
          rw [List.take_of_length_le (by rw [HQL.out]; omega)] at hall
          rw [tw_full hall, HQL.out]; omega)
        clear hall hk2
        go_wp2_with fail
        go_ret
        exact Same.mk (by rw [HR0.out, HC.out, if_pos rfl, HQ.out]; rfl) rfl
  | false =>
    have HC := Lib.hid hc
    clear hc
    generalize hm : nDig (s.drop p) = m at *
    have hm0 := Lib.hid hm
    clear hm
    by_cases h0 : m = 0
    · subst h0
      clear hrd2 hd2l
      go_enter Tryd.func20, Tryd.ntmps20
      go_wp2_with fail
      refine (rletter_at _ _ HC.out).mono ?_
      rintro e w' ⟨rfl, rfl⟩
      go_wp2_with fail
      refine (hrd _).mono ?_
      rintro e w' ⟨rfl, rfl⟩
      go_wp2_with fail
      go_ret
      exact Same.mk (by rw [HR0.out, HC.out, if_neg (by simp)]; simp) rfl
    · have h0' : (((m : Nat) : Int) == 0) = false := by rw [beq_eq_false_iff_ne]; omega
      generalize hkk : nDig (s.drop (p + m + 1)) = q at *
      clear hkk
      by_cases hl : p + m < s.length
      · have hlt : p + m < S.size := by rw [HZ.out]; exact hl
        obtain ⟨d, hd⟩ : ∃ d, s[p + m]? = some d := ⟨_, List.getElem?_eq_getElem hl⟩
        have hel := HG.out (p + m) d hd hlt
        have hlt' : decide ((p : Int) + (m : Int) < (S.size : Int)) = true := by simp; omega
        have hnn : ((p : Int) + (m : Int)).toNat = p + m := by omega
        have hrd3 := hrd2 hl
        clear hrd2
        by_cases h46 : d = 46
        · subst h46
          have HR : Hid ((if s[p + m]? = some 46 then m + 1 + q else m) = m + 1 + q) := Lib.hid (by rw [if_pos hd])
          clear hd
          have e46 : (((46 : UInt8).toNat : Int) == 46) = true := rfl
          go_enter Tryd.func20, Tryd.ntmps20
          go_wp2_with fail
          refine (rletter_at _ _ HC.out).mono ?_
          rintro e w' ⟨rfl, rfl⟩
          go_wp2_with fail
          refine (hrd _).mono ?_
          rintro e w' ⟨rfl, rfl⟩
          go_wp2_with fail
          refine (hrd3 _).mono ?_
          rintro e w' ⟨rfl, rfl⟩
          go_wp2_with fail
          go_ret
          exact Same.mk (by rw [HR0.out, HC.out, if_neg (by simp), if_neg h0, HR.out]; first | rfl | (simp; omega)) rfl
        · have h46' : (((d.toNat : Nat) : Int) == 46) = false := by
            rw [beq_eq_false_iff_ne]; intro e; exact h46 (UInt8.toNat_inj.1 (by show d.toNat = 46; omega))
          have HR : Hid ((if s[p + m]? = some 46 then m + 1 + q else m) = m) := Lib.hid (by rw [if_neg (by rw [hd]; intro e; exact h46 (Option.some.inj e))])
          clear hd h46 hrd3
          go_enter Tryd.func20, Tryd.ntmps20
          go_wp2_with fail
          refine (rletter_at _ _ HC.out).mono ?_
          rintro e w' ⟨rfl, rfl⟩
          go_wp2_with fail
          refine (hrd _).mono ?_
          rintro e w' ⟨rfl, rfl⟩
          go_wp2_with fail
          go_ret
          exact Same.mk (by rw [HR0.out, HC.out, if_neg (by simp), if_neg h0, HR.out]; first | rfl | (simp; omega)) rfl
      · have hlt' : decide ((p : Int) + (m : Int) < (S.size : Int)) = false := by simp; have := HZ.out; omega
        have HR : Hid ((if s[p + m]? = some 46 then m + 1 + q else m) = m) := Lib.hid (by rw [if_neg (by rw [List.getElem?_eq_none (by omega)]; simp)])
        clear hrd2 hl
        go_enter Tryd.func20, Tryd.ntmps20
        go_wp2_with fail
        refine (rletter_at _ _ HC.out).mono ?_
        rintro e w' ⟨rfl, rfl⟩
        go_wp2_with fail
        refine (hrd _).mono ?_
        rintro e w' ⟨rfl, rfl⟩
        go_wp2_with fail
        go_ret
        exact Same.mk (by rw [HR0.out, HC.out, if_neg (by simp), if_neg h0, HR.out]; first | rfl | (simp; omega)) rfl
end Go.Proofs.YtfnclecfldddeaaDoor
