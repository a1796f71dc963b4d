/-
  Tokens joined, and the reference's tokens.
-/
import Derived.Test.YthnlenbfknbmcaaGreatDoorQd
import Derived.IntWalk
import Derived.Deep.RegionHeld3
import Derived.Test.YthnlenbfknbmcaaGreatDoorQa
namespace Go.Proofs.YthnlenbfknbmcaaGreatDoor
open Go.RowKit Go.Shelf
set_option maxRecDepth 100000

/-- what stands before a token -/
def gapT (index : Nat) (lines : Int) : List UInt8 := if lines = 0 ∧ 0 < index then [32] else List.replicate (min lines.toNat 20000) 10
theorem belD {w0 w : World} (h : Below w0.heap.size w0 w) (n : Nat) : Below w0.heap.size w0 (w.drewN n) := h.trans ((below_drewN w n).mono h.size)
/-- whether tokens can be joined, behind a line -/
def rightR (line : Int) : List RT → Bool
  | [] => true
  | x :: r => decide (line ≤ x.n) && decide (x.k ≠ 0) && decide (x.k = kindF x.t) && rightR x.n r
def canF (l : List RT) : Bool := decide (l.length ≤ 5000) && rightR 1 l
theorem right_drop {L : Int} {l : List RT} {k : Nat} (hk : k < l.length) : rightR L (l.drop k) = (decide (L ≤ (l[k]).n) && decide ((l[k]).k ≠ 0) && decide ((l[k]).k = kindF (l[k]).t) && rightR (l[k]).n (l.drop (k + 1))) := by
  rw [List.drop_eq_getElem_cons hk]; rfl
/-- the line behind so many tokens -/
def lineR (l : List RT) (k : Nat) : Int := match k with | 0 => 1 | k + 1 => match l[k]? with | some x => x.n | none => 1
theorem line_succ {l : List RT} {k : Nat} (hk : k < l.length) : lineR l (k + 1) = (l[k]).n := by simp [lineR, hk]

end Go.Proofs.YthnlenbfknbmcaaGreatDoor
namespace Go.Proofs.YthnlenbfknbmcaaGreatDoor
open Go.RowKit Go.Shelf
set_option maxRecDepth 100000

def joinL (i : Nat) (line : Int) (acc : List UInt8) : List RT → List UInt8 × Nat
  | [] => (acc, 0)
  | x :: r => if 20000 < acc.length + (gapT i (x.n - line)).length + x.t.length then ([], 2) else joinL (i + 1) x.n (acc ++ gapT i (x.n - line) ++ x.t) r
def joinP (l : List RT) : List UInt8 × Nat := if canF l = true then joinL 0 1 [] l else ([], 1)
theorem joinL_drop {i : Nat} {line : Int} {acc : List UInt8} {l : List RT} {k : Nat} (hk : k < l.length) : joinL i line acc (l.drop k) =
    if 20000 < acc.length + (gapT i ((l[k]).n - line)).length + (l[k]).t.length then ([], 2) else joinL (i + 1) (l[k]).n (acc ++ gapT i ((l[k]).n - line) ++ (l[k]).t) (l.drop (k + 1)) := by
  rw [List.drop_eq_getElem_cons hk]; rfl
theorem bld_below {B b : Nat} {l : List UInt8} {w w1 : World} (h : Bld B b l w) (hb : Below w.heap.size w w1) : Bld B b l w1 := by
  have key : ∀ p, Lib.BuilderAtF 140 5 B b p (Lib.byteCells l) w → Lib.BuilderAtF 140 5 B b p (Lib.byteCells l) w1 := by
    rintro p ⟨hB, v, hbk, ⟨h0, h1⟩, hne⟩
    refine ⟨hB, v, (hb.block _ (Array.getElem?_eq_some_iff.1 hbk).1).trans hbk, ⟨h0, ?_⟩, hne⟩
    rcases h1 with h1 | ⟨g, cap, cur, fz, hv, hg, hh, hr⟩
    · exact .inl h1
    · exact .inr ⟨g, cap, cur, fz, hv, hg, (hb.block _ (Array.getElem?_eq_some_iff.1 hh).1).trans hh, hr⟩
  rcases h with h | h
  · exact .inl (key _ h)
  · exact .inr (key _ h)
theorem bld_lt {B b : Nat} {l : List UInt8} {w : World} (h : Bld B b l w) : b < w.heap.size := by
  rcases h with ⟨_, v, hbk, _⟩ | ⟨_, v, hbk, _⟩ <;> exact (Array.getElem?_eq_some_iff.1 hbk).1
theorem gap_len (i : Nat) (n : Int) : (gapT i n).length ≤ 20000 := by
  unfold gapT; split <;> simp; omega
theorem right_lo {L : Int} {x : RT} {l : List RT} (h : rightR L (x :: l) = true) : L ≤ x.n ∧ rightR x.n l = true := by
  simp only [rightR, Bool.and_eq_true, decide_eq_true_eq] at h
  exact ⟨h.1.1.1, h.2⟩

end Go.Proofs.YthnlenbfknbmcaaGreatDoor
namespace Go.Proofs.YthnlenbfknbmcaaGreatDoor
open Go.RowKit Go.Shelf
set_option maxRecDepth 100000

theorem rletter_any (c : UInt8) (w : World) : Calls Tryz.prog 69 #[.int .u8 c.toNat] w (Same (.bool (letB c)) w) := by
  by_cases hA : (97 : Int) ≤ c.toNat
  · have hA' : decide ((c.toNat : Int) ≥ 97) = true := by simpa using hA
    go_enter Tryz.func69, Tryz.ntmps69
    go_wp2_with fail
    go_ret
    exact Same.mk (boolV (by unfold letB; simp; omega)) rfl
  · have hA' : decide ((c.toNat : Int) ≥ 97) = false := by simpa using hA
    have hA2 : decide (97 ≤ (c.toNat : Int)) = false := by simpa using hA
    go_enter Tryz.func69, Tryz.ntmps69
    go_wp2_with fail
    go_ret
    exact Same.mk (boolV (by unfold letB; simp; omega)) rfl
theorem rletter_at {b : Bool} (c : UInt8) (w : World) (h : letB c = b) : Calls Tryz.prog 69 #[.int .u8 c.toNat] w (Same (.bool b) w) := by subst h; exact rletter_any c w
theorem rdigit_any (c : UInt8) (w : World) : Calls Tryz.prog 93 #[.int .u8 c.toNat] w (Same (.bool (digB c)) w) := by
  by_cases hA : (48 : Int) ≤ c.toNat
  · have hA' : decide ((c.toNat : Int) ≥ 48) = true := by simpa using hA
    go_enter Tryz.func93, Tryz.ntmps93
    go_wp2_with fail
    go_ret
    exact Same.mk (boolV (by unfold digB; simp; omega)) rfl
  · have hA' : decide ((c.toNat : Int) ≥ 48) = false := by simpa using hA
    have hA2 : decide (48 ≤ (c.toNat : Int)) = false := by simpa using hA
    go_enter Tryz.func93, Tryz.ntmps93
    go_wp2_with fail
    go_ret
    exact Same.mk (boolV (by unfold digB; simp; omega)) rfl
theorem rdigit_at {b : Bool} (c : UInt8) (w : World) (h : digB c = b) : Calls Tryz.prog 93 #[.int .u8 c.toNat] w (Same (.bool b) w) := by subst h; exact rdigit_any c w

theorem sgn_drop {c : UInt8} {k : Nat} (h : sgnB c = (signs.drop k).contains c) (hk : k < signs.length) : sgnB c = (signs[k] == c || (signs.drop (k + 1)).contains c) := by
  rw [h, List.drop_eq_getElem_cons hk, List.contains_cons]
  congr 1
  rw [Bool.eq_iff_iff]; simp; exact eq_comm
set_option maxHeartbeats 1000000 in
theorem rsign_any (c : UInt8) (w : World) : Calls Tryz.prog 71 #[.int .u8 c.toNat] w (Same (.bool (sgnB c)) w) := by
  have hzz : (⟨#[123, 125, 40, 41, 59, 44, 43, 45, 42, 47, 60, 61, 37]⟩ : ByteArray).size = 13 := rfl
  have hlen : signs.length = 13 := rfl
  go_enter Tryz.func71, Tryz.ntmps71
  go_wp2_with fail
  go_loop [4] (fun i => ∃ k : Nat, k ≤ 13 ∧ i = .int .i64 k ∧ sgnB c = (signs.drop k).contains c) (fun i => 13 - (intOf i).toNat)
  case atStart => exact ⟨0, by omega, rfl, rfl⟩
  case round =>
    obtain ⟨k, hk, rfl, hr⟩ := hrel
    by_cases hkl : k < 13
    · have hlt : k < signs.length := by omega
      obtain ⟨d, hdd⟩ : ∃ d, signs[k] = d := ⟨_, rfl⟩
      have hd := sgn_drop hr hlt
      rw [hdd] at hd
      have hkz : k < (⟨#[123, 125, 40, 41, 59, 44, 43, 45, 42, 47, 60, 61, 37]⟩ : ByteArray).size := by rw [hzz]; exact hkl
      have hel : (⟨#[123, 125, 40, 41, 59, 44, 43, 45, 42, 47, 60, 61, 37]⟩ : ByteArray)[k] = d := by rw [← hdd]; rfl
      have HD2 := Lib.hid hd
      clear hr hd
      clear hdd
      generalize (⟨#[123, 125, 40, 41, 59, 44, 43, 45, 42, 47, 60, 61, 37]⟩ : ByteArray) = S at *
      by_cases he : d = c
      · subst he
        have HR : Hid (sgnB d = true) := Lib.hid (by rw [HD2.out]; simp)
        clear HD2
        go_wp2_with fail
        go_ret
        exact Same.mk (by rw [HR.out]; rfl) rfl
      · have he' : (((d.toNat : Nat) : Int) == ((c.toNat : Nat) : Int)) = false := by
          rw [beq_eq_false_iff_ne]; intro e; exact he (UInt8.toNat_inj.1 (by omega))
        have HR : Hid (sgnB c = (signs.drop (k + 1)).contains c) := Lib.hid (by rw [HD2.out, show (d == c) = false by simpa using he]; rfl)
        clear HD2 he
        go_wp2_with fail
        go_round
        case rel => exact ⟨k + 1, by omega, by go_num, HR.out⟩
        case measure => simp [intOf]; omega
    · have hk2 : k = 13 := by omega
      subst hk2
      have HR : Hid (sgnB c = false) := Lib.hid (by rw [hr]; rfl)
      clear hr
      go_wp2_with fail
      go_ret
      exact Same.mk (by rw [HR.out]; rfl) rfl

theorem bget (s : List UInt8) (n : Nat) (c : UInt8) (hc : s[n]? = some c) (h : n < (⟨s.toArray⟩ : ByteArray).size) : (⟨s.toArray⟩ : ByteArray)[n] = c := by
  rw [byt]
  have hn : n < s.length := by rw [bsz] at h; exact h
  rw [List.getElem?_eq_getElem hn] at hc; exact Option.some.inj hc
set_option maxHeartbeats 1000000 in
/-- how many digits follow one another from a place on -/
theorem rdigits_any (s : List UInt8) (hs : s.length ≤ 1000000) (p : Nat) (hp : p ≤ s.length) (w : World) : Calls Tryz.prog 70 #[.string ⟨s.toArray⟩, .int .i64 p] w (Same (.int .i64 (nDig (s.drop p))) w) := by
  have hz := bsz s
  have hget := bget s
  generalize (⟨s.toArray⟩ : ByteArray) = S at *
  have HZ := Lib.hid hz
  have hz2 : S.size ≤ 1000000 := by omega
  have HG := Lib.hid hget
  clear hget hz
  go_enter Tryz.func70, Tryz.ntmps70
  go_wp2_with fail
  go_loop [5] (fun n => ∃ k : Nat, p + k ≤ s.length ∧ n = .int .i64 k ∧ ((s.drop p).take k).all digB = true) (fun n => s.length - (intOf n).toNat)
  case atStart => exact ⟨0, by omega, rfl, by simp⟩
  case round =>
    obtain ⟨k, hk, rfl, hall⟩ := hrel
    by_cases hkl : p + k < s.length
    · have hlt : p + k < S.size := by rw [HZ.out]; exact hkl
      have hel := HG.out (p + k) _ (List.getElem?_eq_getElem hkl) hlt
      have hdl : k < (s.drop p).length := by rw [List.length_drop]; omega
      have hd : (s.drop p)[k] = s[p + k] := by rw [List.getElem_drop]
      have hlt' : decide ((p : Int) + (k : Int) < (S.size : Int)) = true := by simp; omega
      generalize s[p + k] = c at hel hd
      have hA := Lib.hid hall
      have HDl := Lib.hid hd
      clear hall hd
      have hnn : ((p : Int) + (k : Int)).toNat = p + k := by omega
      cases hc : digB c with
      | true =>
        have HC := Lib.hid hc
        clear hc
        go_wp2_with fail
        refine (rdigit_at _ _ HC.out).mono ?_
        rintro e w' ⟨rfl, rfl⟩
        go_wp2_with fail
        go_round
        case rel => exact ⟨k + 1, by omega, by go_num, all_step hA.out hdl (by rw [HDl.out]; exact HC.out)⟩
        case measure => simp [intOf]; omega
      | false =>
        have HC := Lib.hid hc
        have HQ : Hid (nDig (s.drop p) = k) := Lib.hid (tw_stop hA.out hdl (by rw [HDl.out]; exact hc))
        clear hc
        go_wp2_with fail
        refine (rdigit_at _ _ HC.out).mono ?_
        rintro e w' ⟨rfl, rfl⟩
        go_wp2_with fail
        go_ret
        exact Same.mk (by rw [HQ.out]; rfl) rfl
    · have hk2 : p + k = s.length := by omega
      have hlt' : decide ((p : Int) + (k : Int) < (S.size : Int)) = false := by simp; have := HZ.out; omega
      have HQ : Hid (nDig (s.drop p) = k) := Lib.hid (by
        unfold nDig
        rw [List.take_of_length_le (by rw [List.length_drop]; omega)] at hall
        rw [tw_full hall, List.length_drop]; omega)
      clear hall hk2
      go_wp2_with fail
      go_ret
      exact Same.mk (by rw [HQ.out]; rfl) rfl
end Go.Proofs.YthnlenbfknbmcaaGreatDoor
namespace Go.Proofs.YthnlenbfknbmcaaGreatDoor
open Go.RowKit Go.Shelf
set_option maxRecDepth 100000

set_option maxHeartbeats 2000000 in
theorem rsize_any (s : List UInt8) (hs : s.length ≤ 1000000) (p : Nat) (hp : p < s.length) (w : World) : Calls Tryz.prog 46 #[.string ⟨s.toArray⟩, .int .i64 p] w (Same (.int .i64 (sizeF (s.drop p))) w) := by
  have hz := bsz s
  have hget := bget s
  obtain ⟨c, r, hd⟩ : ∃ c r, s.drop p = c :: r := by
    cases h : s.drop p with
    | nil => have := congrArg List.length h; rw [List.length_drop] at this; simp at this; omega
    | cons c r => exact ⟨c, r, rfl⟩
  have hc0 : s[p]? = some c := by
    have : (s.drop p)[0]? = s[p + 0]? := List.getElem?_drop
    rw [hd] at this; simpa using this.symm
  have hdn : nDig (s.drop p) ≤ s.length - p := by have := tw_len (p := digB) (s.drop p); rw [List.length_drop] at this; exact this
  have hrd := rdigits_any s hs p (by omega)
  have hrd2 := fun (h : p + nDig (s.drop p) < s.length) w => rdigits_any s hs (p + nDig (s.drop p) + 1) (by omega) w
  have hsz : sizeF (s.drop p) = if letB c then nLet (s.drop p) else if nDig (s.drop p) = 0 then 1 else if s[p + nDig (s.drop p)]? = some 46 then nDig (s.drop p) + 1 + nDig (s.drop (p + nDig (s.drop p) + 1)) else nDig (s.drop p) := by
    have e1 : (s.drop p)[nDig (s.drop p)]? = s[p + nDig (s.drop p)]? := List.getElem?_drop
    have e2 : (s.drop p).drop (nDig (s.drop p) + 1) = s.drop (p + nDig (s.drop p) + 1) := by rw [List.drop_drop]; congr 1
    rw [← e1, ← e2]
    generalize s.drop p = q at *
    subst hd
    rfl
  have hel : ∀ h : p < (⟨s.toArray⟩ : ByteArray).size, (⟨s.toArray⟩ : ByteArray)[p] = c := fun h => hget p c hc0 h
  obtain ⟨R, hR⟩ : ∃ R, sizeF (s.drop p) = R := ⟨_, rfl⟩
  rw [hR]
  have HR0 := Lib.hid (hR.symm.trans hsz)
  clear hsz hR
  have hdl : ∀ k, k < s.length - p → (s.drop p)[k]? = s[p + k]? := fun k _ => List.getElem?_drop
  have hql : (s.drop p).length = s.length - p := List.length_drop
  have hd2l : nDig (s.drop (p + nDig (s.drop p) + 1)) ≤ s.length := by have := tw_len (p := digB) (s.drop (p + nDig (s.drop p) + 1)); rw [List.length_drop] at this; unfold nDig at *; omega
  clear hd hc0
  generalize (⟨s.toArray⟩ : ByteArray) = S at *
  have hpS : p < S.size := by omega
  have hel0 := hel hpS
  have HZ := Lib.hid hz
  have hz2 : S.size ≤ 1000000 := by omega
  have HG := Lib.hid hget
  have HDL := Lib.hid hdl
  have HQL := Lib.hid hql
  clear hget hz hel hdl hql
  cases hc : letB c with
  | true =>
    have HC := Lib.hid hc
    clear hc hrd hrd2 hdn hd2l
    go_enter Tryz.func46, Tryz.ntmps46
    go_wp2_with fail
    refine (rletter_at _ _ HC.out).mono ?_
    rintro e w' ⟨rfl, rfl⟩
    go_wp2_with fail
    go_loop [5] (fun n => ∃ k : Nat, p + k ≤ s.length ∧ n = .int .i64 k ∧ ((s.drop p).take k).all letB = true) (fun n => s.length - (intOf n).toNat)
    case atStart => exact ⟨0, by omega, rfl, by simp⟩
    case round =>
      obtain ⟨k, hk, rfl, hall⟩ := hrel
      by_cases hkl : p + k < s.length
      · have hlt : p + k < S.size := by rw [HZ.out]; exact hkl
        obtain ⟨d, hd⟩ : ∃ d, s[p + k]? = some d := ⟨_, List.getElem?_eq_getElem hkl⟩
        have hel := HG.out (p + k) d hd hlt
        have hdl : k < (s.drop p).length := by rw [HQL.out]; omega
        have hdd : (s.drop p)[k] = d := by
          have := HDL.out k (by omega); rw [hd, List.getElem?_eq_getElem hdl] at this; exact Option.some.inj this
        have hlt' : decide ((p : Int) + (k : Int) < (S.size : Int)) = true := by simp; omega
        have hA := Lib.hid hall
        have HDl := Lib.hid hdd
        clear hall hdd hd
        have hnn : ((p : Int) + (k : Int)).toNat = p + k := by omega
        cases hcd : letB d with
        | true =>
          have HCd := Lib.hid hcd
          clear hcd
          go_wp2_with fail
          refine (rletter_at _ _ HCd.out).mono ?_
          rintro e w' ⟨rfl, rfl⟩
          go_wp2_with fail
          go_round
          case rel => exact ⟨k + 1, by omega, by go_num, all_step hA.out hdl (by rw [HDl.out]; exact HCd.out)⟩
          case measure => simp [intOf]; omega
        | false =>
          have HCd := Lib.hid hcd
          have HQ : Hid (nLet (s.drop p) = k) := Lib.hid (tw_stop hA.out hdl (by rw [HDl.out]; exact hcd))
          clear hcd
          go_wp2_with fail
          refine (rletter_at _ _ HCd.out).mono ?_
          rintro e w' ⟨rfl, rfl⟩
          go_wp2_with fail
          go_ret
          exact Same.mk (by rw [HR0.out, HC.out, if_pos rfl, HQ.out]; rfl) rfl
      · have hk2 : p + k = s.length := by omega
        have hlt' : decide ((p : Int) + (k : Int) < (S.size : Int)) = false := by simp; have := HZ.out; omega
        have HQ : Hid (nLet (s.drop p) = k) := Lib.hid (by
          unfold nLet
          rw [List.take_of_length_le (by rw [HQL.out]; omega)] at hall
          rw [tw_full hall, HQL.out]; omega)
        clear hall hk2
        go_wp2_with fail
        go_ret
        exact Same.mk (by rw [HR0.out, HC.out, if_pos rfl, HQ.out]; rfl) rfl
  | false =>
    have HC := Lib.hid hc
    clear hc
    generalize hm : nDig (s.drop p) = m at *
    have hm0 := Lib.hid hm
    clear hm
    by_cases h0 : m = 0
    · subst h0
      clear hrd2 hd2l
      go_enter Tryz.func46, Tryz.ntmps46
      go_wp2_with fail
      refine (rletter_at _ _ HC.out).mono ?_
      rintro e w' ⟨rfl, rfl⟩
      go_wp2_with fail
      refine (hrd _).mono ?_
      rintro e w' ⟨rfl, rfl⟩
      go_wp2_with fail
      go_ret
      exact Same.mk (by rw [HR0.out, HC.out, if_neg (by simp)]; simp) rfl
    · have h0' : (((m : Nat) : Int) == 0) = false := by rw [beq_eq_false_iff_ne]; omega
      generalize hkk : nDig (s.drop (p + m + 1)) = q at *
      clear hkk
      by_cases hl : p + m < s.length
      · have hlt : p + m < S.size := by rw [HZ.out]; exact hl
        obtain ⟨d, hd⟩ : ∃ d, s[p + m]? = some d := ⟨_, List.getElem?_eq_getElem hl⟩
        have hel := HG.out (p + m) d hd hlt
        have hlt' : decide ((p : Int) + (m : Int) < (S.size : Int)) = true := by simp; omega
        have hnn : ((p : Int) + (m : Int)).toNat = p + m := by omega
        have hrd3 := hrd2 hl
        clear hrd2
        by_cases h46 : d = 46
        · subst h46
          have HR : Hid ((if s[p + m]? = some 46 then m + 1 + q else m) = m + 1 + q) := Lib.hid (by rw [if_pos hd])
          clear hd
          have e46 : (((46 : UInt8).toNat : Int) == 46) = true := rfl
          go_enter Tryz.func46, Tryz.ntmps46
          go_wp2_with fail
          refine (rletter_at _ _ HC.out).mono ?_
          rintro e w' ⟨rfl, rfl⟩
          go_wp2_with fail
          refine (hrd _).mono ?_
          rintro e w' ⟨rfl, rfl⟩
          go_wp2_with fail
          refine (hrd3 _).mono ?_
          rintro e w' ⟨rfl, rfl⟩
          go_wp2_with fail
          go_ret
          exact Same.mk (by rw [HR0.out, HC.out, if_neg (by simp), if_neg h0, HR.out]; first | rfl | (simp; omega)) rfl
        · have h46' : (((d.toNat : Nat) : Int) == 46) = false := by
            rw [beq_eq_false_iff_ne]; intro e; exact h46 (UInt8.toNat_inj.1 (by show d.toNat = 46; omega))
          have HR : Hid ((if s[p + m]? = some 46 then m + 1 + q else m) = m) := Lib.hid (by rw [if_neg (by rw [hd]; intro e; exact h46 (Option.some.inj e))])
          clear hd h46 hrd3
          go_enter Tryz.func46, Tryz.ntmps46
          go_wp2_with fail
          refine (rletter_at _ _ HC.out).mono ?_
          rintro e w' ⟨rfl, rfl⟩
          go_wp2_with fail
          refine (hrd _).mono ?_
          rintro e w' ⟨rfl, rfl⟩
          go_wp2_with fail
          go_ret
          exact Same.mk (by rw [HR0.out, HC.out, if_neg (by simp), if_neg h0, HR.out]; first | rfl | (simp; omega)) rfl
      · have hlt' : decide ((p : Int) + (m : Int) < (S.size : Int)) = false := by simp; have := HZ.out; omega
        have HR : Hid ((if s[p + m]? = some 46 then m + 1 + q else m) = m) := Lib.hid (by rw [if_neg (by rw [List.getElem?_eq_none (by omega)]; simp)])
        clear hrd2 hl
        go_enter Tryz.func46, Tryz.ntmps46
        go_wp2_with fail
        refine (rletter_at _ _ HC.out).mono ?_
        rintro e w' ⟨rfl, rfl⟩
        go_wp2_with fail
        refine (hrd _).mono ?_
        rintro e w' ⟨rfl, rfl⟩
        go_wp2_with fail
        go_ret
        exact Same.mk (by rw [HR0.out, HC.out, if_neg (by simp), if_neg h0, HR.out]; first | rfl | (simp; omega)) rfl
end Go.Proofs.YthnlenbfknbmcaaGreatDoor
namespace Go.Proofs.YthnlenbfknbmcaaGreatDoor
open Go.RowKit Go.Shelf
set_option maxRecDepth 100000

theorem cents_lt (l : List UInt8) : ∀ k, cents (l.take k) < 10 ^ k := by
  intro k
  induction k with
  | zero => simp [cents]
  | succ k ih =>
    rw [List.take_add_one]
    cases h : l[k]? with
    | none =>
      have e : (none : Option UInt8).toList = [] := rfl
      rw [e, List.append_nil, Nat.pow_succ]; omega
    | some d =>
      have e : (some d).toList = [d] := rfl
      rw [e, cents_snoc, Nat.pow_succ]
      split
      · next hd =>
        have := (dig_iff d).1 hd
        omega
      · omega
/-- the loop over all bytes but the point -/
theorem cents_step {t : List UInt8} {n k : Nat} {d : UInt8} (hd : t[k]? = some d) (h46 : k = n → d = 46) (hdig : k ≠ n → digB d = true) : cents (t.take (k + 1)) = if k = n then cents (t.take k) else 10 * cents (t.take k) + (d.toNat - 48) := by
  rw [List.take_add_one, hd]
  have e : (some d).toList = [d] := rfl
  rw [e, cents_snoc]
  by_cases h : k = n
  · rw [if_pos h, if_neg (by rw [h46 h]; decide)]
  · rw [if_neg h, if_pos (hdig h)]

theorem rsign_at {b : Bool} (c : UInt8) (w : World) (h : sgnB c = b) : Calls Tryz.prog 71 #[.int .u8 c.toNat] w (Same (.bool b) w) := by subst h; exact rsign_any c w
section
variable (c : UInt8) (r : List UInt8)
set_option maxHeartbeats 2000000 in
theorem rkind_sign (hs : (c :: r).length = 1) (hc : sgnB c = true) (w : World) : Calls Tryz.prog 47 #[.string ⟨(c :: r).toArray⟩] w (Same (.int .i64 (kindF (c :: r))) w) := by
  have hs2 : (c :: r).length ≤ 1000000 := by omega
  have hz := bsz (c :: r)
  have hget := bget (c :: r)
  have hne : (⟨(c :: r).toArray⟩ : ByteArray).toList.isEmpty = false := by rw [Lib.toList_data]; rfl
  have hl1 : 1 ≤ (c :: r).length := by simp
  have hKF : kindF (c :: r) = if (c :: r).length = 1 ∧ sgnB c = true then 4 else if letB c then (if (c :: r).all letB then 1 else 0)
    else if nDig (c :: r) < 1 ∨ 9 < nDig (c :: r) ∨ 1 < nDig (c :: r) ∧ c = 48 then 0 else if nDig (c :: r) = (c :: r).length then 2
    else if (c :: r)[nDig (c :: r)]? ≠ some 46 ∨ (c :: r).length ≠ nDig (c :: r) + 3 ∨ nDig ((c :: r).drop (nDig (c :: r) + 1)) ≠ 2 then 0 else if 1000000000 < cents (c :: r) then 0 else 3 := rfl
  have HC := Lib.hid hc
  clear hc
  obtain ⟨R, hR⟩ : ∃ R : Nat, kindF (c :: r) = R := ⟨_, rfl⟩
  rw [hR]
  have HR := Lib.hid (hR.symm.trans hKF)
  have hel := hget 0 c rfl
  clear hR hKF
  generalize c :: r = t at *
  generalize (⟨t.toArray⟩ : ByteArray) = S at *
  have hz2 : S.size ≤ 1000000 := by omega
  have hpS : 0 < S.size := by omega
  have hel0 := hel hpS
  have HZ := Lib.hid hz
  have HG := Lib.hid hget
  clear hz hget hel
  have hb1 : (((S.size : Nat) : Int) == 1) = true := by rw [beq_iff_eq, HZ.out, hs]; rfl
  have HS := Lib.hid hs
  clear hs
  go_enter Tryz.func47, Tryz.ntmps47
  go_wp2_with fail
  refine (rsign_at _ _ HC.out).mono ?_
  rintro e w' ⟨rfl, rfl⟩
  go_wp2_with fail
  go_ret
  exact Same.mk (by rw [HR.out, if_pos ⟨HS.out, HC.out⟩]; rfl) rfl
set_option maxHeartbeats 4000000 in
/-- letters: all of them, or not -/
theorem rkind_name (hs : (c :: r).length ≤ 1000000) (hc : letB c = true) (w : World) : Calls Tryz.prog 47 #[.string ⟨(c :: r).toArray⟩] w (Same (.int .i64 (kindF (c :: r))) w) := by
  have hsgn : sgnB c = false := by
    rw [Bool.eq_false_iff]; intro h
    simp only [sgnB, signs, List.contains_eq_mem, List.mem_cons, List.not_mem_nil, or_false, decide_eq_true_eq] at h
    rcases h with rfl | rfl | rfl | rfl | rfl | rfl | rfl | rfl | rfl | rfl | rfl | rfl | rfl <;> revert hc <;> decide
  have hz := bsz (c :: r)
  have hget := bget (c :: r)
  have hne : (⟨(c :: r).toArray⟩ : ByteArray).toList.isEmpty = false := by rw [Lib.toList_data]; rfl
  have hl1 : 1 ≤ (c :: r).length := by simp
  have hKF : kindF (c :: r) = if (c :: r).length = 1 ∧ sgnB c = true then 4 else if letB c then (if (c :: r).all letB then 1 else 0)
    else if nDig (c :: r) < 1 ∨ 9 < nDig (c :: r) ∨ 1 < nDig (c :: r) ∧ c = 48 then 0 else if nDig (c :: r) = (c :: r).length then 2
    else if (c :: r)[nDig (c :: r)]? ≠ some 46 ∨ (c :: r).length ≠ nDig (c :: r) + 3 ∨ nDig ((c :: r).drop (nDig (c :: r) + 1)) ≠ 2 then 0 else if 1000000000 < cents (c :: r) then 0 else 3 := rfl
  have HC := Lib.hid hc
  have HS := Lib.hid hsgn
  clear hc hsgn
  obtain ⟨R, hR⟩ : ∃ R : Nat, kindF (c :: r) = R := ⟨_, rfl⟩
  rw [hR]
  have HR := Lib.hid (hR.symm.trans hKF)
  have hel := hget 0 c rfl
  clear hR hKF
  generalize c :: r = t at *
  generalize (⟨t.toArray⟩ : ByteArray) = S at *
  have hz2 : S.size ≤ 1000000 := by omega
  have hpS : 0 < S.size := by omega
  have hel0 := hel hpS
  have HZ := Lib.hid hz
  have HG := Lib.hid hget
  clear hz hget hel
  go_enter Tryz.func47, Tryz.ntmps47
  cases hb1 : (((S.size : Nat) : Int) == 1)
  case' false => go_wp2_with fail
  case' true =>
    have hS1 := HS.out
    have HS1 := Lib.hid hS1
    clear hS1
    go_wp2_with fail
    refine (rsign_at _ _ HS1.out).mono ?_
    rintro e w' ⟨rfl, rfl⟩
    go_wp2_with fail
  all_goals
    refine (rletter_at _ _ HC.out).mono ?_
    rintro e w' ⟨rfl, rfl⟩
    go_wp2_with fail
    go_loop [3] (fun i => ∃ k : Nat, k ≤ t.length ∧ i = .int .i64 k ∧ (t.take k).all letB = true) (fun i => t.length - (intOf i).toNat)
    case atStart => exact ⟨0, by omega, rfl, by simp⟩
    case round =>
      obtain ⟨k, hk, rfl, hall⟩ := hrel
      by_cases hkl : k < t.length
      · have hlt : k < S.size := by rw [HZ.out]; exact hkl
        obtain ⟨d, hd⟩ : ∃ d, t[k]? = some d := ⟨_, List.getElem?_eq_getElem hkl⟩
        have hel := HG.out k d hd hlt
        have hdd : t[k] = d := by rw [List.getElem?_eq_getElem hkl] at hd; exact Option.some.inj hd
        have hA := Lib.hid hall
        have HDl := Lib.hid hdd
        clear hall hdd hd
        cases hcd : letB d with
        | true =>
          have HCd := Lib.hid hcd
          clear hcd
          go_wp2_with fail
          refine (rletter_at _ _ HCd.out).mono ?_
          rintro e w' ⟨rfl, rfl⟩
          go_wp2_with fail
          go_round
          case rel => exact ⟨k + 1, by omega, by go_num, all_step hA.out hkl (by rw [HDl.out]; exact HCd.out)⟩
          case measure => simp [intOf]; omega
        | false =>
          have HCd := Lib.hid hcd
          have HQ : Hid (t.all letB = false) := Lib.hid (by
            rw [Bool.eq_false_iff]; intro h
            have := (List.all_eq_true.1 h) _ (List.getElem_mem hkl)
            rw [HDl.out, hcd] at this; cases this)
          clear hcd
          go_wp2_with fail
          refine (rletter_at _ _ HCd.out).mono ?_
          rintro e w' ⟨rfl, rfl⟩
          go_wp2_with fail
          go_ret
          exact Same.mk (by rw [HR.out, if_neg (by rw [HS.out]; simp), HC.out, if_pos rfl, HQ.out]; rfl) rfl
      · have hk2 : k = t.length := by omega
        have hlt' : decide (k < S.size) = false := by rw [HZ.out]; simp; omega
        have HQ : Hid (t.all letB = true) := Lib.hid (by rw [hk2, List.take_length] at hall; exact hall)
        have hSk : S.size ≤ k := by rw [HZ.out]; omega
        clear hall hk2 hkl
        go_wp2_with fail
        go_ret
        exact Same.mk (by rw [HR.out, if_neg (by rw [HS.out]; simp), HC.out, if_pos rfl, HQ.out]; rfl) rfl
set_option maxHeartbeats 8000000 in
/-- digits, or nothing that begins a token -/
theorem rkind_digs (hs : (c :: r).length ≤ 1000000) (hc : letB c = false) (hsg : (c :: r).length = 1 → sgnB c = false) (w : World) : Calls Tryz.prog 47 #[.string ⟨(c :: r).toArray⟩] w (Same (.int .i64 (kindF (c :: r))) w) := by
  have hz := bsz (c :: r)
  have hget := bget (c :: r)
  have hne : (⟨(c :: r).toArray⟩ : ByteArray).toList.isEmpty = false := by rw [Lib.toList_data]; rfl
  have hl1 : 1 ≤ (c :: r).length := by simp
  have hKF : kindF (c :: r) = if (c :: r).length = 1 ∧ sgnB c = true then 4 else if letB c then (if (c :: r).all letB then 1 else 0)
    else if nDig (c :: r) < 1 ∨ 9 < nDig (c :: r) ∨ 1 < nDig (c :: r) ∧ c = 48 then 0 else if nDig (c :: r) = (c :: r).length then 2
    else if (c :: r)[nDig (c :: r)]? ≠ some 46 ∨ (c :: r).length ≠ nDig (c :: r) + 3 ∨ nDig ((c :: r).drop (nDig (c :: r) + 1)) ≠ 2 then 0 else if 1000000000 < cents (c :: r) then 0 else 3 := rfl
  have HC := Lib.hid hc
  have hdg := rdigits_any (c :: r) hs 0 (by simp)
  rw [List.drop_zero] at hdg
  have hdg2 := fun (h : nDig (c :: r) < (c :: r).length) w => rdigits_any (c :: r) hs (nDig (c :: r) + 1) (by omega) w
  have hnl : nDig (c :: r) ≤ (c :: r).length := tw_len _
  obtain ⟨hdA, _⟩ := digs_of (c :: r)
  have hpre : ¬ ((c :: r).length = 1 ∧ sgnB c = true) := fun h => by rw [hsg h.1] at h; cases h.2
  have HSG := Lib.hid hsg
  clear hc hsg
  obtain ⟨R, hR⟩ : ∃ R : Nat, kindF (c :: r) = R := ⟨_, rfl⟩
  rw [hR]
  have HR := Lib.hid (hR.symm.trans hKF)
  have hel := hget 0 c rfl
  clear hR hKF
  generalize c :: r = t at *
  generalize (⟨t.toArray⟩ : ByteArray) = S at *
  have hz2 : S.size ≤ 1000000 := by omega
  have hpS : 0 < S.size := by omega
  have hel0 := hel hpS
  have HZ := Lib.hid hz
  have HG := Lib.hid hget
  clear hz hget hel
  have HPR := Lib.hid hpre
  have HDA := Lib.hid hdA
  clear hpre hdA
  go_enter Tryz.func47, Tryz.ntmps47
  cases hb1 : (((S.size : Nat) : Int) == 1)
  case' false => go_wp2_with fail
  case' true =>
    have hS1 := HSG.out (by rw [beq_iff_eq] at hb1; have := HZ.out; omega)
    have HS1 := Lib.hid hS1
    clear hS1
    go_wp2_with fail
    refine (rsign_at _ _ HS1.out).mono ?_
    rintro e w' ⟨rfl, rfl⟩
    go_wp2_with fail
  all_goals
    refine (rletter_at _ _ HC.out).mono ?_
    rintro e w' ⟨rfl, rfl⟩
    go_wp2_with fail
    refine (hdg _).mono ?_
    rintro e w' ⟨rfl, rfl⟩
    obtain ⟨n, hn⟩ : ∃ n, nDig t = n := ⟨_, rfl⟩
    rw [hn] at hnl
    have hdg3 := hdg2
    rw [hn] at hdg3 HR HDA ⊢
    clear hdg hdg2 hn
    by_cases a1 : n < 1
    · have a1' : decide (n < 1) = true := by simpa using a1
      have a1'' : decide ((n : Int) < 1) = true := by simp; omega
      go_wp2_with fail
      go_ret
      exact Same.mk (by rw [HR.out, if_neg HPR.out, HC.out, if_neg (by simp), if_pos (.inl a1)]; rfl) rfl
    have a1' : decide ((n : Int) < 1) = false := by simp; omega
    by_cases a2 : 9 < n
    · have a2' : decide ((n : Int) > 9) = true := by simp; omega
      have a2'' : decide (9 < (n : Int)) = true := a2'
      go_wp2_with fail
      go_ret
      exact Same.mk (by rw [HR.out, if_neg HPR.out, HC.out, if_neg (by simp), if_pos (.inr (.inl a2))]; rfl) rfl
    have a2' : decide (9 < (n : Int)) = false := by simp; omega
    have HN : Hid (n < 1 ∨ 9 < n ∨ 1 < n ∧ c = 48 ↔ 1 < n ∧ c = 48) := Lib.hid ⟨fun h => by rcases h with h | h | h <;> first | exact h | omega, fun h => .inr (.inr h)⟩
    by_cases a3 : 1 < n ∧ c = 48
    · obtain ⟨a3a, rfl⟩ := a3
      have a3' : decide (1 < (n : Int)) = true := by simp; omega
      have e48 : (((48 : UInt8).toNat : Int) == 48) = true := rfl
      go_wp2_with fail
      go_ret
      exact Same.mk (by rw [HR.out, if_neg HPR.out, HC.out, if_neg (by simp), if_pos (by first | exact .inr (.inr ⟨a3a, rfl⟩) | (simp; omega))]; rfl) rfl
    have HA3 : Hid (¬ (n < 1 ∨ 9 < n ∨ 1 < n ∧ c = 48)) := Lib.hid (fun h => a3 (HN.out.1 h))
    have a3x : (decide (1 < (n : Int)) && ((c.toNat : Int) == 48)) = false := by
      rw [Bool.and_eq_false_iff]
      by_cases h1 : 1 < n
      · refine .inr ?_
        rw [beq_eq_false_iff_ne]; intro e; exact a3 ⟨h1, UInt8.toNat_inj.1 (by show c.toNat = 48; omega)⟩
      · exact .inl (by simp; omega)
    have a3y : decide (1 < (n : Int)) = false ∨ (decide (1 < (n : Int)) = true ∧ ((c.toNat : Int) == 48) = false) := by
      cases h : decide (1 < (n : Int)) with
      | false => exact .inl rfl
      | true => rw [h] at a3x; exact .inr ⟨rfl, a3x⟩
    clear a3x a3 HN
    by_cases b1 : n = t.length
    · have b1' : (((n : Nat) : Int) == ((S.size : Nat) : Int)) = true := by rw [beq_iff_eq, HZ.out, b1]
      have HB := Lib.hid b1
      clear b1 hdg3
      rcases a3y with a3y | ⟨a3y, a3z⟩
      all_goals
        go_wp2_with fail
        go_ret
        exact Same.mk (by rw [HR.out, if_neg HPR.out, HC.out, if_neg (by simp), if_neg HA3.out, if_pos HB.out]; rfl) rfl
    have b1' : (((n : Nat) : Int) == ((S.size : Nat) : Int)) = false := by rw [beq_eq_false_iff_ne, HZ.out]; omega
    have HB := Lib.hid b1
    have hnlt : n < t.length := by omega
    have hnS : n < S.size := by rw [HZ.out]; exact hnlt
    clear b1
    have hdg4 := hdg3 hnlt
    obtain ⟨d, hd⟩ : ∃ d, t[n]? = some d := ⟨_, List.getElem?_eq_getElem hnlt⟩
    have hel := HG.out n d hd hnS
    have HD := Lib.hid hd
    clear hdg3 hd
    by_cases c1 : d = 46
    · subst c1
      have e46 : (((46 : UInt8).toNat : Int) != 46) = false := rfl
      by_cases c2 : t.length = n + 3
      · have c2' : (((S.size : Nat) : Int) != (n : Int) + 3) = false := by rw [bne_eq_false_iff_eq, HZ.out, c2]; omega
        have hn9 : n ≤ 9 := by omega
        have HC2 := Lib.hid c2
        clear c2
        obtain ⟨q, hq⟩ : ∃ q, nDig (t.drop (n + 1)) = q := ⟨_, rfl⟩
        rw [hq] at hdg4 HR
        by_cases c3 : q = 2
        · subst c3
          have hall : ∀ k d, t[k]? = some d → (k = n → d = 46) ∧ (k ≠ n → digB d = true) := by
            intro k d hk
            refine ⟨fun e => by rw [e, HD.out] at hk; exact (Option.some.inj hk).symm, fun e => ?_⟩
            have hkl := (List.getElem?_eq_some_iff.1 hk).1
            have hkd : t[k] = d := (List.getElem?_eq_some_iff.1 hk).2
            rcases Nat.lt_or_ge k n with h | h
            · refine HDA.out d ?_
              rw [List.mem_take_iff_getElem]
              exact ⟨k, by omega, hkd⟩
            · have hdr : (t.drop (n + 1)).takeWhile digB = t.drop (n + 1) := (List.takeWhile_prefix digB).eq_of_length (by show nDig _ = _; rw [hq, List.length_drop, HC2.out]; omega)
              have hm : d ∈ t.drop (n + 1) := by
                rw [List.mem_iff_getElem]
                exact ⟨k - (n + 1), by rw [List.length_drop]; omega, by rw [List.getElem_drop]; rw [← hkd]; congr 1; omega⟩
              rw [← hdr] at hm; exact tw_mem hm
          have HALL := Lib.hid hall
          have hl12 : t.length ≤ 12 := by rw [HC2.out]; omega
          clear hall hq
          rcases a3y with a3y | ⟨a3y, a3z⟩
          all_goals
            go_wp2_with fail
            refine (hdg4 _).mono ?_
            rintro e w' ⟨rfl, rfl⟩
            go_wp2_with fail
            go_loop [5, 6] (fun v i => ∃ k : Nat, k ≤ t.length ∧ i = .int .i64 k ∧ v = .int .i64 (cents (t.take k) : Nat)) (fun _ i => t.length - (intOf i).toNat)
            case atStart => exact ⟨0, by omega, rfl, rfl⟩
            case round =>
              obtain ⟨k, hk, rfl, rfl⟩ := hrel
              have hclt := cents_lt t k
              have hpow : 10 ^ k ≤ 10 ^ 12 := Nat.pow_le_pow_right (by omega) (by omega)
              have hcb : cents (t.take k) < 1000000000000 := by omega
              clear hclt hpow
              by_cases hkl : k < t.length
              · have hlt : k < S.size := by rw [HZ.out]; exact hkl
                obtain ⟨x, hx⟩ : ∃ x, t[k]? = some x := ⟨_, List.getElem?_eq_getElem hkl⟩
                have hel2 := HG.out k x hx hlt
                obtain ⟨g1, g2⟩ := HALL.out k x hx
                have hst := cents_step hx g1 g2
                generalize hcv : cents (t.take k) = v at *
                have HV := Lib.hid hcv
                clear hcv
                by_cases hkn : k = n
                · have hkn' : (((k : Nat) : Int) != ((n : Nat) : Int)) = false := by rw [bne_eq_false_iff_eq, hkn]
                  have HST : Hid (cents (t.take (k + 1)) = v) := Lib.hid (by rw [hst, if_pos hkn])
                  clear hst hkn g1 g2 hx
                  go_wp2_with fail
                  go_round
                  case rel => exact ⟨k + 1, by omega, by go_num, by rw [HST.out]⟩
                  case measure => simp [intOf]; omega
                · have hkn' : (((k : Nat) : Int) != ((n : Nat) : Int)) = true := by rw [bne_iff_ne]; omega
                  obtain ⟨x1, x2⟩ := (dig_iff x).1 (g2 hkn)
                  have HST : Hid (cents (t.take (k + 1)) = 10 * v + (x.toNat - 48)) := Lib.hid (by rw [hst, if_neg hkn])
                  clear hst hkn g1 g2 hx
                  go_wp2_with fail
                  go_round
                  case rel => exact ⟨k + 1, by omega, by go_num, by rw [HST.out]; congr 1; omega⟩
                  case measure => simp [intOf]; omega
              · have hk2 : k = t.length := by omega
                subst hk2
                rw [List.take_length] at hcb ⊢
                have hSk : S.size ≤ t.length := by rw [HZ.out]; omega
                by_cases hov : 1000000000 < cents t
                · have hov' : decide (1000000000 < ((cents t : Nat) : Int)) = true := by simp; omega
                  have HF : Hid (R = 0) := Lib.hid (by rw [HR.out, if_neg HPR.out, HC.out, if_neg (by simp), if_neg HA3.out, if_neg HB.out, if_neg (by rintro (h | h | h); exact h HD.out; exact h HC2.out; exact h rfl), if_pos hov])
                  clear hov
                  go_wp2_with fail
                  go_ret
                  exact Same.mk (by rw [HF.out]; rfl) rfl
                · have hov' : decide (1000000000 < ((cents t : Nat) : Int)) = false := by simp; omega
                  have HF : Hid (R = 3) := Lib.hid (by rw [HR.out, if_neg HPR.out, HC.out, if_neg (by simp), if_neg HA3.out, if_neg HB.out, if_neg (by rintro (h | h | h); exact h HD.out; exact h HC2.out; exact h rfl), if_neg hov])
                  clear hov
                  go_wp2_with fail
                  go_ret
                  exact Same.mk (by rw [HF.out]; rfl) rfl
        · have c3' : (((q : Nat) : Int) != 2) = true := by rw [bne_iff_ne]; omega
          have HF : Hid (R = 0) := Lib.hid (by rw [HR.out, if_neg HPR.out, HC.out, if_neg (by simp), if_neg HA3.out, if_neg HB.out, if_pos (.inr (.inr c3))])
          clear c3 hq
          rcases a3y with a3y | ⟨a3y, a3z⟩
          all_goals
            go_wp2_with fail
            refine (hdg4 _).mono ?_
            rintro e w' ⟨rfl, rfl⟩
            go_wp2_with fail
            go_ret
            exact Same.mk (by rw [HF.out]; rfl) rfl
      · have c2' : (((S.size : Nat) : Int) != (n : Int) + 3) = true := by rw [bne_iff_ne, HZ.out]; omega
        have HF : Hid (R = 0) := Lib.hid (by rw [HR.out, if_neg HPR.out, HC.out, if_neg (by simp), if_neg HA3.out, if_neg HB.out, if_pos (.inr (.inl c2))])
        clear c2 hdg4
        rcases a3y with a3y | ⟨a3y, a3z⟩
        all_goals
          go_wp2_with fail
          go_ret
          exact Same.mk (by rw [HF.out]; rfl) rfl
    · have e46 : (((d.toNat : Nat) : Int) != 46) = true := by
        rw [bne_iff_ne]; intro e; exact c1 (UInt8.toNat_inj.1 (by show d.toNat = 46; omega))
      have HF : Hid (R = 0) := Lib.hid (by rw [HR.out, if_neg HPR.out, HC.out, if_neg (by simp), if_neg HA3.out, if_neg HB.out, if_pos (.inl (by rw [HD.out]; intro e; exact c1 (Option.some.inj e)))])
      clear c1 hdg4
      rcases a3y with a3y | ⟨a3y, a3z⟩
      all_goals
        go_wp2_with fail
        go_ret
        exact Same.mk (by rw [HF.out]; rfl) rfl
end
theorem rkind_any (t : List UInt8) (ht : t.length ≤ 1000000) (w : World) : Calls Tryz.prog 47 #[.string ⟨t.toArray⟩] w (Same (.int .i64 (kindF t)) w) := by
  cases t with
  | nil =>
    go_enter Tryz.func47, Tryz.ntmps47
    go_wp2_with fail
    go_ret
    exact Same.mk rfl rfl
  | cons c r =>
    cases hc : letB c with
    | true => exact rkind_name c r ht hc w
    | false =>
      by_cases h : (c :: r).length = 1 ∧ sgnB c = true
      · exact rkind_sign c r h.1 h.2 w
      · exact rkind_digs c r ht hc (fun h1 => by rw [Bool.eq_false_iff]; exact fun h2 => h ⟨h1, h2⟩) w
end Go.Proofs.YthnlenbfknbmcaaGreatDoor
namespace Go.Proofs.YthnlenbfknbmcaaGreatDoor
open Go.RowKit Go.Shelf
set_option maxRecDepth 100000

theorem app_cons (l : List Tok) (x : Tok) (y : List Tok × Nat × Nat) : appF l (consF x y) = appF (l ++ [x]) y := by
  unfold appF consF
  by_cases h : y.2.1 = 0
  · rw [if_pos h, if_pos rfl, if_pos h, List.append_assoc]; rfl
  · rw [if_neg h, if_neg h, if_neg h]
theorem app_err (l : List Tok) (e n : Nat) (h : e ≠ 0) : appF l ([], e, n) = ([], e, n) := by unfold appF; rw [if_neg h]
theorem app_end (l : List Tok) : appF l ([], 0, 0) = (l, 0, 0) := by unfold appF; rw [if_pos rfl, List.append_nil]
theorem dw_drop (p : UInt8 → Bool) : ∀ s : List UInt8, s.dropWhile p = s.drop (s.takeWhile p).length
  | [] => rfl
  | c :: r => by
    rw [List.dropWhile_cons, List.takeWhile_cons]
    by_cases h : p c = true
    · rw [if_pos h, if_pos h, List.length_cons, List.drop_succ_cons, dw_drop p r]
    · rw [if_neg h, if_neg h]; rfl
def feedB (c : UInt8) : Bool := c != 10
theorem take_drop (s : List UInt8) (p n : Nat) : (s.take (p + n)).drop p = (s.drop p).take n := by rw [List.drop_take]; congr 1; omega

set_option maxHeartbeats 8000000 in
theorem rtoks_main (s : List UInt8) (hs : s.length ≤ 20000) (w : World) : Calls Tryz.prog 27 #[.string ⟨s.toArray⟩] w (TokEnd s w) := by
  have hz := bsz s
  have hget := bget s
  have hcut : ∀ p n, (⟨s.toArray⟩ : ByteArray).extract p (p + n) = ⟨((s.drop p).take n).toArray⟩ := fun p n => by rw [bext, take_drop]
  have hsize := fun p hp w => rsize_any s (by omega) p hp w
  have htp : tokP s = toksF 1 0 s := by unfold tokP; rw [if_neg (by omega)]
  have hstart : toksF 1 0 s = appF [] (toksF 1 ([] : List Tok).length (s.drop 0)) := by rw [List.drop_zero]; exact (app_nil (by omega)).symm
  generalize (⟨s.toArray⟩ : ByteArray) = S at *
  have HZ := Lib.hid hz
  have hz2 : S.size ≤ 20000 := by omega
  have HG := Lib.hid hget
  have HCUT := Lib.hid hcut
  have HTP := Lib.hid htp
  have HS0 := Lib.hid hstart
  obtain ⟨i0, hi, hz0, hz1, hzz⟩ := info_parts Tryz.infoTok
  clear hz hget hcut htp hstart
  go_enter Tryz.func27, Tryz.ntmps27
  go_wp2_with fail
  go_loopw [5, 6, 7] (fun v lv pv wr => ∃ (p line : Nat) (out : List Tok), pv = .int .i64 p ∧ lv = .int .i64 line ∧ p ≤ s.length ∧ line ≤ p + 1 ∧ out.length ≤ 5000 ∧ wr.ownsRow w.heap.size 87 3 v out.length ((out.map Tok.rt).flatMap rtC) ∧ Below w.heap.size w wr ∧
      toksF 1 0 s = appF out (toksF line out.length (s.drop p))) (fun _ _ pv _ => s.length - (intOf pv).toNat)
  case atStart => exact ⟨0, 1, [], rfl, rfl, by omega, by omega, by simp, World.ownsRow_nil _ _ _ _, Below.refl _ _, HS0.out⟩
  case round =>
    obtain ⟨p, line, out, rfl, rfl, hp, hline, hout, hown, hb, hacc⟩ := hrel
    have hbs := hb.size
    by_cases hpl : p < s.length
    · have hlt : p < S.size := by rw [HZ.out]; exact hpl
      obtain ⟨c, hc⟩ : ∃ c, s[p]? = some c := ⟨_, List.getElem?_eq_getElem hpl⟩
      have hel := HG.out p c hc hlt
      have hdc : s.drop p = c :: s.drop (p + 1) := by
        rw [List.drop_eq_getElem_cons hpl]
        rw [List.getElem?_eq_getElem hpl] at hc; rw [Option.some.inj hc]
      have hsz := hsize p hpl
      have HDC := Lib.hid hdc
      have HACC := Lib.hid hacc
      clear hc hdc hacc
      by_cases h32 : c = 32
      · subst h32
        have e32 : (((32 : UInt8).toNat : Int) == 32) = true := rfl
        have HN : Hid (toksF 1 0 s = appF out (toksF line out.length (s.drop (p + 1)))) := Lib.hid (by rw [HACC.out, HDC.out, toks_blank])
        clear hsz
        go_wp2_with fail
        go_roundw
        case rel => exact ⟨p + 1, line, out, by go_num, rfl, by omega, by omega, hout, hown, hb, HN.out⟩
        case measure => simp [intOf]; omega
      have n32 : (((c.toNat : Nat) : Int) == 32) = false := by rw [beq_eq_false_iff_ne]; intro e; exact h32 (UInt8.toNat_inj.1 (by show c.toNat = 32; omega))
      by_cases h10 : c = 10
      · subst h10
        have e10 : (((10 : UInt8).toNat : Int) == 10) = true := rfl
        have HN : Hid (toksF 1 0 s = appF out (toksF (line + 1) out.length (s.drop (p + 1)))) := Lib.hid (by rw [HACC.out, HDC.out, toks_feed])
        clear hsz h32
        go_wp2_with fail
        go_roundw
        case rel => exact ⟨p + 1, line + 1, out, by go_num, by go_num, by omega, by omega, hout, hown, hb, HN.out⟩
        case measure => simp [intOf]; omega
      have n10 : (((c.toNat : Nat) : Int) == 10) = false := by rw [beq_eq_false_iff_ne]; intro e; exact h10 (UInt8.toNat_inj.1 (by show c.toNat = 10; omega))
      by_cases h35 : c = 35
      · subst h35
        have e35 : (((35 : UInt8).toNat : Int) == 35) = true := rfl
        have HN : Hid (toksF 1 0 s = appF out (toksF line out.length ((s.drop p).dropWhile feedB))) := Lib.hid (by
          rw [HACC.out]; conv => lhs; rw [HDC.out, toks_note]
          rw [HDC.out, List.dropWhile_cons, if_pos (by decide)]; rfl)
        clear hsz h32 h10
        go_wp2_with fail
        have hpos : 1 ≤ ((s.drop p).takeWhile feedB).length := by rw [HDC.out, List.takeWhile_cons, if_pos (by decide)]; simp
        go_loop [7] (fun at_ => ∃ j : Nat, p ≤ j ∧ j ≤ s.length ∧ at_ = .int .i64 j ∧ ((s.drop p).take (j - p)).all feedB = true) (fun at_ => s.length - (intOf at_).toNat)
        case atStart => exact ⟨p, Nat.le_refl _, hp, rfl, by simp⟩
        case round =>
          obtain ⟨j, hpj, hjl, rfl, hall⟩ := hrel
          by_cases hjlt : j < s.length
          · have hjS : j < S.size := by rw [HZ.out]; exact hjlt
            obtain ⟨d, hd⟩ : ∃ d, s[j]? = some d := ⟨_, List.getElem?_eq_getElem hjlt⟩
            have hel2 := HG.out j d hd hjS
            have hdl : j - p < (s.drop p).length := by rw [List.length_drop]; omega
            have hdd : (s.drop p)[j - p] = d := by
              have h1 : (s.drop p)[j - p]? = s[j]? := by rw [List.getElem?_drop]; congr 1; omega
              rw [hd, List.getElem?_eq_getElem hdl] at h1; exact Option.some.inj h1
            have HA := Lib.hid hall
            have HDd := Lib.hid hdd
            clear hall hdd hd
            by_cases hd10 : d = 10
            · subst hd10
              have e10 : (((10 : UInt8).toNat : Int) != 10) = false := rfl
              have hjp : ((s.drop p).takeWhile feedB).length = j - p := tw_stop HA.out hdl (by rw [HDd.out]; rfl)
              have HN2 : Hid (toksF 1 0 s = appF out (toksF line out.length (s.drop j))) := Lib.hid (by rw [HN.out, dw_drop, hjp, List.drop_drop]; congr 3; omega)
              have hjgt : p < j := by omega
              clear hjp hpos
              go_wp2_with fail
              go_roundw
              case rel =>
                first
                | exact ⟨j, line, out, rfl, rfl, by omega, by omega, hout, hown, hb, HN2.out⟩
                | (repeat apply Exists.intro); exact ⟨⟨j, line, out, rfl, rfl, by omega, by omega, hout, hown, hb, HN2.out⟩, rfl⟩
              case measure => simp [intOf]; omega
            · have n10 : (((d.toNat : Nat) : Int) != 10) = true := by rw [bne_iff_ne]; intro e; exact hd10 (UInt8.toNat_inj.1 (by show d.toNat = 10; omega))
              have hfd : feedB d = true := by simp [feedB, hd10]
              have HF := Lib.hid hfd
              clear hd10 hfd
              go_wp2_with fail
              go_round
              case rel =>
                refine ⟨j + 1, by omega, by omega, by go_num, ?_⟩
                rw [show j + 1 - p = (j - p) + 1 by omega]
                exact all_step HA.out hdl (by rw [HDd.out]; exact HF.out)
              case measure => simp [intOf]; omega
          · have hje : j = s.length := by omega
            have hjp : ((s.drop p).takeWhile feedB).length = j - p := by
              rw [List.take_of_length_le (by rw [List.length_drop]; omega)] at hall
              rw [tw_full hall, List.length_drop]; omega
            have HN2 : Hid (toksF 1 0 s = appF out (toksF line out.length (s.drop j))) := Lib.hid (by rw [HN.out, dw_drop, hjp, List.drop_drop]; congr 3; omega)
            have hjgt : p < j := by omega
            have hjS : decide (j < S.size) = false := by rw [HZ.out]; simp; omega
            have hjle : s.length ≤ j := by omega
            clear hjp hpos hall hje hjlt
            go_wp2_with fail
            go_roundw
            case rel =>
              first
              | exact ⟨j, line, out, rfl, rfl, by omega, by omega, hout, hown, hb, HN2.out⟩
              | (repeat apply Exists.intro); exact ⟨⟨j, line, out, rfl, rfl, by omega, by omega, hout, hown, hb, HN2.out⟩, rfl⟩
            case measure => simp [intOf]; omega
      have n35 : (((c.toNat : Nat) : Int) == 35) = false := by rw [beq_eq_false_iff_ne]; intro e; exact h35 (UInt8.toNat_inj.1 (by show c.toNat = 35; omega))
      have hqne : s.drop p ≠ [] := by rw [HDC.out]; simp
      have hql : (s.drop p).length = s.length - p := List.length_drop
      have hz1' := size_pos hqne
      have hzs := size_le _ hqne
      have hTe : toksF line out.length (s.drop p) = if kindF ((s.drop p).take (sizeF (s.drop p))) = 0 then ([], 8, line) else if out.length = 5000 then ([], 2, line) else
          consF ⟨kindF ((s.drop p).take (sizeF (s.drop p))), line, (s.drop p).take (sizeF (s.drop p))⟩ (toksF line (out.length + 1) ((s.drop p).drop (sizeF (s.drop p)))) := by
        rw [HDC.out]; exact toks_eq _ _ h32 h10 h35
      have hTl : ((s.drop p).take (sizeF (s.drop p))).length ≤ 20000 := by rw [List.length_take]; omega
      have hkd := rkind_any ((s.drop p).take (sizeF (s.drop p))) (by omega)
      have hct := HCUT.out p (sizeF (s.drop p))
      rw [List.drop_drop] at hTe
      obtain ⟨n, hn⟩ : ∃ n, sizeF (s.drop p) = n := ⟨_, rfl⟩
      rw [hn] at hsz hz1' hzs hTe hTl hkd hct
      obtain ⟨T, hT⟩ : ∃ T, (s.drop p).take n = T := ⟨_, rfl⟩
      rw [hT] at hTe hTl hkd hct
      obtain ⟨TB, hTB⟩ : ∃ TB, (⟨T.toArray⟩ : ByteArray) = TB := ⟨_, rfl⟩
      rw [hTB] at hkd hct
      have HTB := Lib.hid hTB
      have HTE := Lib.hid hTe
      have hpn : p + n ≤ S.size := by rw [HZ.out]; omega
      have hpn2 : p + n ≤ s.length := by omega
      have hnn : ((p : Int) + (n : Int)).toNat = p + n := by omega
      clear hTe hTB hT hn hqne h32 h10 h35 hql
      obtain ⟨ad, cap, rfl⟩ := lown_shape hown
      by_cases hk : kindF T = 0
      · have hk' : (((kindF T : Nat) : Int) == 0) = true := by rw [beq_iff_eq]; omega
        have HF : Hid (tokP s = ([], 8, line)) := Lib.hid (by rw [HTP.out, HACC.out, HTE.out, if_pos hk]; exact app_err _ _ _ (by omega))
        clear hk
        go_wp2_with fail
        refine (hsz _).mono ?_
        rintro e w2 ⟨rfl, rfl⟩
        go_wp2_with fail
        refine (hkd _).mono ?_
        rintro e w2 ⟨rfl, rfl⟩
        go_wp2_with fail
        go_ret3
        exact tok_end HF.out (World.ownsRow_nil _ _ _ _) hb
      · have hk' : (((kindF T : Nat) : Int) == 0) = false := by rw [beq_eq_false_iff_ne]; omega
        by_cases h5 : out.length = 5000
        · have h5' : (((out.length : Nat) : Int) == 5000) = true := by rw [beq_iff_eq]; omega
          have HF : Hid (tokP s = ([], 2, line)) := Lib.hid (by rw [HTP.out, HACC.out, HTE.out, if_neg hk, if_pos h5]; exact app_err _ _ _ (by omega))
          clear hk h5
          go_wp2_with fail
          refine (hsz _).mono ?_
          rintro e w2 ⟨rfl, rfl⟩
          go_wp2_with fail
          refine (hkd _).mono ?_
          rintro e w2 ⟨rfl, rfl⟩
          go_wp2_with fail
          go_ret3
          exact tok_end HF.out (World.ownsRow_nil _ _ _ _) hb
        · have h5' : (((out.length : Nat) : Int) == 5000) = false := by rw [beq_eq_false_iff_ne]; omega
          have hlt5 : out.length < 5000 := by omega
          have HF : Hid (toksF 1 0 s = appF (out ++ [⟨kindF T, line, T⟩]) (toksF line (out ++ [(⟨kindF T, line, T⟩ : Tok)]).length (s.drop (p + n)))) := Lib.hid (by
            rw [HACC.out, HTE.out, if_neg hk, if_neg h5, app_cons]; simp)
          clear hk h5
          go_wp2_with fail
          refine (hsz _).mono ?_
          rintro e w2 ⟨rfl, rfl⟩
          go_wp2_with fail
          refine (hkd _).mono ?_
          rintro e w2 ⟨rfl, rfl⟩
          go_wp2_with (at_builtin; refine wpList_append_own _ rfl _ _ 56 rfl w.heap.size 87 i0 (.agg #[.int .i64 0, .int .i64 0, .string ⟨#[]⟩]) 3 32 Tryz.underlying56 hi hz0 hz1 hzz rfl (by decide) _ _ _ rfl (hown.alloc _) ⟨wr.heap.size, 0, none⟩ 1 1 [.int .i64 (kindF T), .int .i64 line, .string TB] rfl rfl (by intro j u hj; match j, hj with | 0, hj => (simp at hj; subst hj; simp [Addr.add]) | 1, hj => (simp at hj; subst hj; simp [Addr.add]) | 2, hj => (simp at hj; subst hj; simp [Addr.add])) (by intro u hu; simp at hu; rcases hu with rfl | rfl | rfl <;> rfl) (by unfold maxLen; omega) (by omega) (by simp; omega) ?_; intro v' w1 hown' hgrow _)
          go_roundw
          case rel =>
            refine ⟨p + n, line, out ++ [⟨kindF T, line, T⟩], by go_num, rfl, by omega, by omega, by simp; omega, ?_, (hb.alloc hbs _).grown hgrow (by simp; omega) (fun k hk => (lown_row hown k hk).1), HF.out⟩
            have hl : (out ++ [(⟨kindF T, line, T⟩ : Tok)]).length = out.length + 1 := by simp
            have hf : ((out ++ [(⟨kindF T, line, T⟩ : Tok)]).map Tok.rt).flatMap rtC = (out.map Tok.rt).flatMap rtC ++ [.int .i64 (kindF T), .int .i64 line, .string TB] := by
              rw [← HTB.out]; simp [Tok.rt, rtC]
            rw [hl, hf]; exact hown'
          case measure => simp [intOf]; omega
    · have hpe : p = s.length := by omega
      have HF : Hid (tokP s = (out, 0, 0)) := Lib.hid (by rw [HTP.out, hacc, hpe, List.drop_of_length_le (Nat.le_refl _), toks_nil]; exact app_end _)
      have hSp : decide (p < S.size) = false := by rw [HZ.out]; simp; omega
      clear hacc hpe
      go_wp2_with fail
      go_ret3
      exact tok_end (e := 0) (n := 0) HF.out hown hb
set_option maxHeartbeats 1000000 in
theorem rtoks_far (s : List UInt8) (hs : 20000 < s.length) (w : World) : Calls Tryz.prog 27 #[.string ⟨s.toArray⟩] w (TokEnd s w) := by
  have hz := bsz s
  have HC : Hid (tokP s = ([], 2, 0)) := Lib.hid (by unfold tokP; rw [if_pos hs])
  generalize (⟨s.toArray⟩ : ByteArray) = S at *
  have hz' : decide ((S.size : Int) > 20000) = true := by rw [decide_eq_true_eq, hz]; omega
  have hz2 : decide (20000 < (S.size : Int)) = true := hz'
  clear hz hs
  go_enter Tryz.func27, Tryz.ntmps27
  go_wp2_with fail
  go_ret3
  exact tok_end (e := 2) (n := 0) HC.out (World.ownsRow_nil _ _ _ _) (Below.refl _ _)
theorem rtoks_any (s : List UInt8) (w : World) : Calls Tryz.prog 27 #[.string ⟨s.toArray⟩] w (TokEnd s w) := by
  by_cases h : 20000 < s.length
  · exact rtoks_far s h w
  · exact rtoks_main s (by omega) w
end Go.Proofs.YthnlenbfknbmcaaGreatDoor
