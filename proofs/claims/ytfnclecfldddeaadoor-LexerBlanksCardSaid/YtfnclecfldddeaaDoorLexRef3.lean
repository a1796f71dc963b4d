/-
  The reference's Kind.
-/
import Derived.Test.YtfnclecfldddeaaDoorLexRef2
namespace Go.Proofs.YtfnclecfldddeaaDoor
open Go.RowKit Go.Shelf
set_option maxRecDepth 100000

theorem cents_snoc (l : List UInt8) (d : UInt8) : cents (l ++ [d]) = if digB d then 10 * cents l + (d.toNat - 48) else cents l := by
  unfold cents
  rw [List.filter_append, List.filter_cons, List.filter_nil]
  split
  · rw [List.foldl_append]; rfl
  · rw [List.append_nil]
theorem cents_lt (l : List UInt8) : ∀ k, cents (l.take k) < 10 ^ k := by
  intro k
  induction k with
  | zero => simp [cents]
  | succ k ih =>
    rw [List.take_add_one]
    cases h : l[k]? with
    | none =>
      have e : (none : Option UInt8).toList = [] := rfl
      rw [e, List.append_nil, Nat.pow_succ]; omega
    | some d =>
      have e : (some d).toList = [d] := rfl
      rw [e, cents_snoc, Nat.pow_succ]
      split
      · next hd =>
        have := (dig_iff d).1 hd
        omega
      · omega
/-- the loop over all bytes but the point -/
theorem cents_step {t : List UInt8} {n k : Nat} {d : UInt8} (hd : t[k]? = some d) (h46 : k = n → d = 46) (hdig : k ≠ n → digB d = true) : cents (t.take (k + 1)) = if k = n then cents (t.take k) else 10 * cents (t.take k) + (d.toNat - 48) := by
  rw [List.take_add_one, hd]
  have e : (some d).toList = [d] := rfl
  rw [e, cents_snoc]
  by_cases h : k = n
  · rw [if_pos h, if_neg (by rw [h46 h]; decide)]
  · rw [if_neg h, if_pos (hdig h)]

theorem rsign_at {b : Bool} (c : UInt8) (w : World) (h : sgnB c = b) : Calls Tryd.prog 26 #[.int .u8 c.toNat] w (Same (.bool b) w) := by subst h; exact rsign_any c w
section
variable (c : UInt8) (r : List UInt8)
set_option maxHeartbeats 2000000 in
theorem rkind_sign (hs : (c :: r).length = 1) (hc : sgnB c = true) (w : World) : Calls Tryd.prog 18 #[.string ⟨(c :: r).toArray⟩] w (Same (.int .i64 (kindF (c :: r))) w) := by
  have hs2 : (c :: r).length ≤ 1000000 := by omega
  have hz := bsz (c :: r)
  have hget := bget (c :: r)
  have hne : (⟨(c :: r).toArray⟩ : ByteArray).toList.isEmpty = false := by rw [Lib.toList_data]; rfl
  have hl1 : 1 ≤ (c :: r).length := by simp
  have hKF : kindF (c :: r) = if (c :: r).length = 1 ∧ sgnB c = true then 4 else if letB c then (if (c :: r).all letB then 1 else 0)
    else if nDig (c :: r) < 1 ∨ 9 < nDig (c :: r) ∨ 1 < nDig (c :: r) ∧ c = 48 then 0 else if nDig (c :: r) = (c :: r).length then 2
    else if (c :: r)[nDig (c :: r)]? ≠ some 46 ∨ (c :: r).length ≠ nDig (c :: r) + 3 ∨ nDig ((c :: r).drop (nDig (c :: r) + 1)) ≠ 2 then 0 else if 1000000000 < cents (c :: r) then 0 else 3 := rfl
  have HC := Lib.hid hc
  clear hc
  obtain ⟨R, hR⟩ : ∃ R : Nat, kindF (c :: r) = R := ⟨_, rfl⟩
  rw [hR]
  have HR := Lib.hid (hR.symm.trans hKF)
  have hel := hget 0 c rfl
  clear hR hKF
  generalize c :: r = t at *
  generalize (⟨t.toArray⟩ : ByteArray) = S at *
  have hz2 : S.size ≤ 1000000 := by omega
  have hpS : 0 < S.size := by omega
  have hel0 := hel hpS
  have HZ := Lib.hid hz
  have HG := Lib.hid hget
  clear hz hget hel
  have hb1 : (((S.size : Nat) : Int) == 1) = true := by rw [beq_iff_eq, HZ.out, hs]; rfl
  have HS := Lib.hid hs
  clear hs
  go_enter Tryd.func18, Tryd.ntmps18
  go_wp2_with fail
  refine (rsign_at _ _ HC.out).mono ?_
  rintro e w' ⟨rfl, rfl⟩
  go_wp2_with fail
  go_ret
  exact Same.mk (by rw [HR.out, if_pos ⟨HS.out, HC.out⟩]; rfl) rfl
set_option maxHeartbeats 4000000 in
/-- letters: all of them, or not -/
theorem rkind_name (hs : (c :: r).length ≤ 1000000) (hc : letB c = true) (w : World) : Calls Tryd.prog 18 #[.string ⟨(c :: r).toArray⟩] w (Same (.int .i64 (kindF (c :: r))) w) := by
  have hsgn : sgnB c = false := by
    rw [Bool.eq_false_iff]; intro h
    simp only [sgnB, signs, List.contains_eq_mem, List.mem_cons, List.not_mem_nil, or_false, decide_eq_true_eq] at h
    rcases h with rfl | rfl | rfl | rfl | rfl | rfl | rfl | rfl | rfl | rfl | rfl | rfl | rfl <;> revert hc <;> decide
  have hz := bsz (c :: r)
  have hget := bget (c :: r)
  have hne : (⟨(c :: r).toArray⟩ : ByteArray).toList.isEmpty = false := by rw [Lib.toList_data]; rfl
  have hl1 : 1 ≤ (c :: r).length := by simp
  have hKF : kindF (c :: r) = if (c :: r).length = 1 ∧ sgnB c = true then 4 else if letB c then (if (c :: r).all letB then 1 else 0)
    else if nDig (c :: r) < 1 ∨ 9 < nDig (c :: r) ∨ 1 < nDig (c :: r) ∧ c = 48 then 0 else if nDig (c :: r) = (c :: r).length then 2
    else if (c :: r)[nDig (c :: r)]? ≠ some 46 ∨ (c :: r).length ≠ nDig (c :: r) + 3 ∨ nDig ((c :: r).drop (nDig (c :: r) + 1)) ≠ 2 then 0 else if 1000000000 < cents (c :: r) then 0 else 3 := rfl
  have HC := Lib.hid hc
  have HS := Lib.hid hsgn
  clear hc hsgn
  obtain ⟨R, hR⟩ : ∃ R : Nat, kindF (c :: r) = R := ⟨_, rfl⟩
  rw [hR]
  have HR := Lib.hid (hR.symm.trans hKF)
  have hel := hget 0 c rfl
  clear hR hKF
  generalize c :: r = t at *
  generalize (⟨t.toArray⟩ : ByteArray) = S at *
  have hz2 : S.size ≤ 1000000 := by omega
  have hpS : 0 < S.size := by omega
  have hel0 := hel hpS
  have HZ := Lib.hid hz
  have HG := Lib.hid hget
  clear hz hget hel
  go_enter Tryd.func18, Tryd.ntmps18
  cases hb1 : (((S.size : Nat) : Int) == 1)
  case' false => go_wp2_with fail
  case' true =>
    have hS1 := HS.out
    have HS1 := Lib.hid hS1
    clear hS1
    go_wp2_with fail
    refine (rsign_at _ _ HS1.out).mono ?_
    rintro e w' ⟨rfl, rfl⟩
    go_wp2_with fail
  all_goals
    refine (rletter_at _ _ HC.out).mono ?_
    rintro e w' ⟨rfl, rfl⟩
    go_wp2_with fail
    go_loop [3] (fun i => ∃ k : Nat, k ≤ t.length ∧ i = .int .i64 k ∧ (t.take k).all letB = true) (fun i => t.length - (intOf i).toNat)
    case atStart => exact ⟨0, by omega, rfl, by simp⟩
    case round =>
      obtain ⟨k, hk, rfl, hall⟩ := hrel
      by_cases hkl : k < t.length
      · have hlt : k < S.size := by rw [HZ.out]; exact hkl
        obtain ⟨d, hd⟩ : ∃ d, t[k]? = some d := ⟨_, List.getElem?_eq_getElem hkl⟩
        have hel := HG.out k d hd hlt
        have hdd : t[k] = d := by rw [List.getElem?_eq_getElem hkl] at hd; exact Option.some.inj hd
        have hA := Lib.hid hall
        have HDl := Lib.hid hdd
        clear hall hdd hd
        cases hcd : letB d with
        | true =>
          have HCd := Lib.hid hcd
          clear hcd
          go_wp2_with fail
          refine (rletter_at _ _ HCd.out).mono ?_
          rintro e w' ⟨rfl, rfl⟩
          go_wp2_with fail
          go_round
          case rel => exact ⟨k + 1, by omega, by go_num, all_step hA.out hkl (by rw [HDl.out]; exact HCd.out)⟩
          case measure => simp [intOf]; omega
        | false =>
          have HCd := Lib.hid hcd
          have HQ : Hid (t.all letB = false) := Lib.hid (by
            rw [Bool.eq_false_iff]; intro h
            have := (List.all_eq_true.1 h) _ (List.getElem_mem hkl)
            rw [HDl.out, hcd] at this; cases this)
          clear hcd
          go_wp2_with fail
          refine (rletter_at _ _ HCd.out).mono ?_
          rintro e w' ⟨rfl, rfl⟩
          go_wp2_with fail
          go_ret
          exact Same.mk (by rw [HR.out, if_neg (by rw [HS.out]; simp), HC.out, if_pos rfl, HQ.out]; rfl) rfl
      · have hk2 : k = t.length := by omega
        have hlt' : decide (k < S.size) = false := by rw [HZ.out]; simp; omega
        have HQ : Hid (t.all letB = true) := Lib.hid (by rw [hk2, List.take_length] at hall; exact hall)
        have hSk : S.size ≤ k := by rw [HZ.out]; omega
        clear hall hk2 hkl
        go_wp2_with fail
        go_ret
        exact Same.mk (by rw [HR.out, if_neg (by rw [HS.out]; simp), HC.out, if_pos rfl, HQ.out]; rfl) rfl
set_option maxHeartbeats 8000000 in
/-- digits, or nothing that begins a token -/
theorem rkind_digs (hs : (c :: r).length ≤ 1000000) (hc : letB c = false) (hsg : (c :: r).length = 1 → sgnB c = false) (w : World) : Calls Tryd.prog 18 #[.string ⟨(c :: r).toArray⟩] w (Same (.int .i64 (kindF (c :: r))) w) := by
  have hz := bsz (c :: r)
  have hget := bget (c :: r)
  have hne : (⟨(c :: r).toArray⟩ : ByteArray).toList.isEmpty = false := by rw [Lib.toList_data]; rfl
  have hl1 : 1 ≤ (c :: r).length := by simp
  have hKF : kindF (c :: r) = if (c :: r).length = 1 ∧ sgnB c = true then 4 else if letB c then (if (c :: r).all letB then 1 else 0)
    else if nDig (c :: r) < 1 ∨ 9 < nDig (c :: r) ∨ 1 < nDig (c :: r) ∧ c = 48 then 0 else if nDig (c :: r) = (c :: r).length then 2
    else if (c :: r)[nDig (c :: r)]? ≠ some 46 ∨ (c :: r).length ≠ nDig (c :: r) + 3 ∨ nDig ((c :: r).drop (nDig (c :: r) + 1)) ≠ 2 then 0 else if 1000000000 < cents (c :: r) then 0 else 3 := rfl
  have HC := Lib.hid hc
  have hdg := rdigits_any (c :: r) hs 0 (by simp)
  rw [List.drop_zero] at hdg
  have hdg2 := fun (h : nDig (c :: r) < (c :: r).length) w => rdigits_any (c :: r) hs (nDig (c :: r) + 1) (by omega) w
  have hnl : nDig (c :: r) ≤ (c :: r).length := tw_len _
  obtain ⟨hdA, _⟩ := digs_of (c :: r)
  have hpre : ¬ ((c :: r).length = 1 ∧ sgnB c = true) := fun h => by rw [hsg h.1] at h; cases h.2
  have HSG := Lib.hid hsg
  clear hc hsg
  obtain ⟨R, hR⟩ : ∃ R : Nat, kindF (c :: r) = R := ⟨_, rfl⟩
  rw [hR]
  have HR := Lib.hid (hR.symm.trans hKF)
  have hel := hget 0 c rfl
  clear hR hKF
  generalize c :: r = t at *
  generalize (⟨t.toArray⟩ : ByteArray) = S at *
  have hz2 : S.size ≤ 1000000 := by omega
  have hpS : 0 < S.size := by omega
  have hel0 := hel hpS
  have HZ := Lib.hid hz
  have HG := Lib.hid hget
  clear hz hget hel
  have HPR := Lib.hid hpre
  have HDA := Lib.hid hdA
  clear hpre hdA
  go_enter Tryd.func18, Tryd.ntmps18
  cases hb1 : (((S.size : Nat) : Int) == 1)
  case' false => go_wp2_with fail
  case' true =>
    have hS1 := HSG.out (by rw [beq_iff_eq] at hb1; have := HZ.out; omega)
    have HS1 := Lib.hid hS1
    clear hS1
    go_wp2_with fail
    refine (rsign_at _ _ HS1.out).mono ?_
    rintro e w' ⟨rfl, rfl⟩
    go_wp2_with fail
  all_goals
    refine (rletter_at _ _ HC.out).mono ?_
    rintro e w' ⟨rfl, rfl⟩
    go_wp2_with fail
    refine (hdg _).mono ?_
    rintro e w' ⟨rfl, rfl⟩
    obtain ⟨n, hn⟩ : ∃ n, nDig t = n := ⟨_, rfl⟩
    rw [hn] at hnl
    have hdg3 := hdg2
    rw [hn] at hdg3 HR HDA ⊢
    clear hdg hdg2 hn
    by_cases a1 : n < 1
    · have a1' : decide (n < 1) = true := by simpa using a1
      have a1'' : decide ((n : Int) < 1) = true := by simp; omega
      go_wp2_with fail
      go_ret
      exact Same.mk (by rw [HR.out, if_neg HPR.out, HC.out, if_neg (by simp), if_pos (.inl a1)]; rfl) rfl
    have a1' : decide ((n : Int) < 1) = false := by simp; omega
    by_cases a2 : 9 < n
    · have a2' : decide ((n : Int) > 9) = true := by simp; omega
      have a2'' : decide (9 < (n : Int)) = true := a2'
      go_wp2_with fail
      go_ret
      exact Same.mk (by rw [HR.out, if_neg HPR.out, HC.out, if_neg (by simp), if_pos (.inr (.inl a2))]; rfl) rfl
    have a2' : decide (9 < (n : Int)) = false := by simp; omega
    have HN : Hid (n < 1 ∨ 9 < n ∨ 1 < n ∧ c = 48 ↔ 1 < n ∧ c = 48) := Lib.hid ⟨fun h => by rcases h with h | h | h <;> first | exact h | omega, fun h => .inr (.inr h)⟩
    by_cases a3 : 1 < n ∧ c = 48
    · obtain ⟨a3a, rfl⟩ := a3
      have a3' : decide (1 < (n : Int)) = true := by simp; omega
      have e48 : (((48 : UInt8).toNat : Int) == 48) = true := rfl
      go_wp2_with fail
      go_ret
      exact Same.mk (by rw [HR.out, if_neg HPR.out, HC.out, if_neg (by simp), if_pos (by first | exact .inr (.inr ⟨a3a, rfl⟩) | (simp; omega))]; rfl) rfl
    have HA3 : Hid (¬ (n < 1 ∨ 9 < n ∨ 1 < n ∧ c = 48)) := Lib.hid (fun h => a3 (HN.out.1 h))
    have a3x : (decide (1 < (n : Int)) && ((c.toNat : Int) == 48)) = false := by
      rw [Bool.and_eq_false_iff]
      by_cases h1 : 1 < n
      · refine .inr ?_
        rw [beq_eq_false_iff_ne]; intro e; exact a3 ⟨h1, UInt8.toNat_inj.1 (by show c.toNat = 48; omega)⟩
      · exact .inl (by simp; omega)
    have a3y : decide (1 < (n : Int)) = false ∨ (decide (1 < (n : Int)) = true ∧ ((c.toNat : Int) == 48) = false) := by
      cases h : decide (1 < (n : Int)) with
      | false => exact .inl rfl
      | true => rw [h] at a3x; exact .inr ⟨rfl, a3x⟩
    clear a3x a3 HN
    by_cases b1 : n = t.length
    · have b1' : (((n : Nat) : Int) == ((S.size : Nat) : Int)) = true := by rw [beq_iff_eq, HZ.out, b1]
      have HB := Lib.hid b1
      clear b1 hdg3
      rcases a3y with a3y | ⟨a3y, a3z⟩
      all_goals
        go_wp2_with fail
        go_ret
        exact Same.mk (by rw [HR.out, if_neg HPR.out, HC.out, if_neg (by simp), if_neg HA3.out, if_pos HB.out]; rfl) rfl
    have b1' : (((n : Nat) : Int) == ((S.size : Nat) : Int)) = false := by rw [beq_eq_false_iff_ne, HZ.out]; omega
    have HB := Lib.hid b1
    have hnlt : n < t.length := by omega
    have hnS : n < S.size := by rw [HZ.out]; exact hnlt
    clear b1
    have hdg4 := hdg3 hnlt
    obtain ⟨d, hd⟩ : ∃ d, t[n]? = some d := ⟨_, List.getElem?_eq_getElem hnlt⟩
    have hel := HG.out n d hd hnS
    have HD := Lib.hid hd
    clear hdg3 hd
    by_cases c1 : d = 46
    · subst c1
      have e46 : (((46 : UInt8).toNat : Int) != 46) = false := rfl
      by_cases c2 : t.length = n + 3
      · have c2' : (((S.size : Nat) : Int) != (n : Int) + 3) = false := by rw [bne_eq_false_iff_eq, HZ.out, c2]; omega
        have hn9 : n ≤ 9 := by omega
        have HC2 := Lib.hid c2
        clear c2
        obtain ⟨q, hq⟩ : ∃ q, nDig (t.drop (n + 1)) = q := ⟨_, rfl⟩
        rw [hq] at hdg4 HR
        by_cases c3 : q = 2
        · subst c3
          have hall : ∀ k d, t[k]? = some d → (k = n → d = 46) ∧ (k ≠ n → digB d = true) := by
            intro k d hk
            refine ⟨fun e => by rw [e, HD.out] at hk; exact (Option.some.inj hk).symm, fun e => ?_⟩
            have hkl := (List.getElem?_eq_some_iff.1 hk).1
            have hkd : t[k] = d := (List.getElem?_eq_some_iff.1 hk).2
            rcases Nat.lt_or_ge k n with h | h
            · refine HDA.out d ?_
              rw [List.mem_take_iff_getElem]
              exact ⟨k, by omega, hkd⟩
            · have hdr : (t.drop (n + 1)).takeWhile digB = t.drop (n + 1) := (List.takeWhile_prefix digB).eq_of_length (by show nDig _ = _; rw [hq, List.length_drop, HC2.out]; omega)
              have hm : d ∈ t.drop (n + 1) := by
                rw [List.mem_iff_getElem]
                exact ⟨k - (n + 1), by rw [List.length_drop]; omega, by rw [List.getElem_drop]; rw [← hkd]; congr 1; omega⟩
              rw [← hdr] at hm; exact tw_mem hm
          have HALL := Lib.hid hall
          have hl12 : t.length ≤ 12 := by rw [HC2.out]; omega
          clear hall hq
          rcases a3y with a3y | ⟨a3y, a3z⟩
          all_goals
            go_wp2_with fail
            refine (hdg4 _).mono ?_
            rintro e w' ⟨rfl, rfl⟩
            go_wp2_with fail
            go_loop [5, 6] (fun v i => ∃ k : Nat, k ≤ t.length ∧ i = .int .i64 k ∧ v = .int .i64 (cents (t.take k) : Nat)) (fun _ i => t.length - (intOf i).toNat)
            case atStart => exact ⟨0, by omega, rfl, rfl⟩
            case round =>
              obtain ⟨k, hk, rfl, rfl⟩ := hrel
              have hclt := cents_lt t k
              have hpow : 10 ^ k ≤ 10 ^ 12 := Nat.pow_le_pow_right (by omega) (by omega)
              have hcb : cents (t.take k) < 1000000000000 := by omega
              clear hclt hpow
              by_cases hkl : k < t.length
              · have hlt : k < S.size := by rw [HZ.out]; exact hkl
                obtain ⟨x, hx⟩ : ∃ x, t[k]? = some x := ⟨_, List.getElem?_eq_getElem hkl⟩
                have hel2 := HG.out k x hx hlt
                obtain ⟨g1, g2⟩ := HALL.out k x hx
                have hst := cents_step hx g1 g2
                generalize hcv : cents (t.take k) = v at *
                have HV := Lib.hid hcv
                clear hcv
                by_cases hkn : k = n
                · have hkn' : (((k : Nat) : Int) != ((n : Nat) : Int)) = false := by rw [bne_eq_false_iff_eq, hkn]
                  have HST : Hid (cents (t.take (k + 1)) = v) := Lib.hid (by rw [hst, if_pos hkn])
                  clear hst hkn g1 g2 hx
                  go_wp2_with fail
                  go_round
                  case rel => exact ⟨k + 1, by omega, by go_num, by rw [HST.out]⟩
                  case measure => simp [intOf]; omega
                · have hkn' : (((k : Nat) : Int) != ((n : Nat) : Int)) = true := by rw [bne_iff_ne]; omega
                  obtain ⟨x1, x2⟩ := (dig_iff x).1 (g2 hkn)
                  have HST : Hid (cents (t.take (k + 1)) = 10 * v + (x.toNat - 48)) := Lib.hid (by rw [hst, if_neg hkn])
                  clear hst hkn g1 g2 hx
                  go_wp2_with fail
                  go_round
                  case rel => exact ⟨k + 1, by omega, by go_num, by rw [HST.out]; congr 1; omega⟩
                  case measure => simp [intOf]; omega
              · have hk2 : k = t.length := by omega
                subst hk2
                rw [List.take_length] at hcb ⊢
                have hSk : S.size ≤ t.length := by rw [HZ.out]; omega
                by_cases hov : 1000000000 < cents t
                · have hov' : decide (1000000000 < ((cents t : Nat) : Int)) = true := by simp; omega
                  have HF : Hid (R = 0) := Lib.hid (by rw [HR.out, if_neg HPR.out, HC.out, if_neg (by simp), if_neg HA3.out, if_neg HB.out, if_neg (by rintro (h | h | h); exact h HD.out; exact h HC2.out; exact h rfl), if_pos hov])
                  clear hov
                  go_wp2_with fail
                  go_ret
                  exact Same.mk (by rw [HF.out]; rfl) rfl
                · have hov' : decide (1000000000 < ((cents t : Nat) : Int)) = false := by simp; omega
                  have HF : Hid (R = 3) := Lib.hid (by rw [HR.out, if_neg HPR.out, HC.out, if_neg (by simp), if_neg HA3.out, if_neg HB.out, if_neg (by rintro (h | h | h); exact h HD.out; exact h HC2.out; exact h rfl), if_neg hov])
                  clear hov
                  go_wp2_with fail
                  go_ret
                  exact Same.mk (by rw [HF.out]; rfl) rfl
        · have c3' : (((q : Nat) : Int) != 2) = true := by rw [bne_iff_ne]; omega
          have HF : Hid (R = 0) := Lib.hid (by rw [HR.out, if_neg HPR.out, HC.out, if_neg (by simp), if_neg HA3.out, if_neg HB.out, if_pos (.inr (.inr c3))])
          clear c3 hq
          rcases a3y with a3y | ⟨a3y, a3z⟩
          all_goals
            go_wp2_with fail
            refine (hdg4 _).mono ?_
            rintro e w' ⟨rfl, rfl⟩
            go_wp2_with fail
            go_ret
            exact Same.mk (by rw [HF.out]; rfl) rfl
      · have c2' : (((S.size : Nat) : Int) != (n : Int) + 3) = true := by rw [bne_iff_ne, HZ.out]; omega
        have HF : Hid (R = 0) := Lib.hid (by rw [HR.out, if_neg HPR.out, HC.out, if_neg (by simp), if_neg HA3.out, if_neg HB.out, if_pos (.inr (.inl c2))])
        clear c2 hdg4
        rcases a3y with a3y | ⟨a3y, a3z⟩
        all_goals
          go_wp2_with fail
          go_ret
          exact Same.mk (by rw [HF.out]; rfl) rfl
    · have e46 : (((d.toNat : Nat) : Int) != 46) = true := by
        rw [bne_iff_ne]; intro e; exact c1 (UInt8.toNat_inj.1 (by show d.toNat = 46; omega))
      have HF : Hid (R = 0) := Lib.hid (by rw [HR.out, if_neg HPR.out, HC.out, if_neg (by simp), if_neg HA3.out, if_neg HB.out, if_pos (.inl (by rw [HD.out]; intro e; exact c1 (Option.some.inj e)))])
      clear c1 hdg4
      rcases a3y with a3y | ⟨a3y, a3z⟩
      all_goals
        go_wp2_with fail
        go_ret
        exact Same.mk (by rw [HF.out]; rfl) rfl
end
theorem rkind_any (t : List UInt8) (ht : t.length ≤ 1000000) (w : World) : Calls Tryd.prog 18 #[.string ⟨t.toArray⟩] w (Same (.int .i64 (kindF t)) w) := by
  cases t with
  | nil =>
    go_enter Tryd.func18, Tryd.ntmps18
    go_wp2_with fail
    go_ret
    exact Same.mk rfl rfl
  | cons c r =>
    cases hc : letB c with
    | true => exact rkind_name c r ht hc w
    | false =>
      by_cases h : (c :: r).length = 1 ∧ sgnB c = true
      · exact rkind_sign c r h.1 h.2 w
      · exact rkind_digs c r ht hc (fun h1 => by rw [Bool.eq_false_iff]; exact fun h2 => h ⟨h1, h2⟩) w
end Go.Proofs.YtfnclecfldddeaaDoor
