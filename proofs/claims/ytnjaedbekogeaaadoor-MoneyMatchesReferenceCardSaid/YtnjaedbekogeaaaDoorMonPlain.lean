/-
  Money, plain: exchanges, weights, amounts' texts and what strings are read as. No program in sight.
-/
import Derived.Test.YtnjaedbekogeaaaDoorRatioPlain
import Derived.Lib.ItoaNum
import Derived.Lib.AtoiTie
import Derived.Lib.Replace
namespace Go.Proofs.YtnjaedbekogeaaaDoor
open Go.RowKit

structure Ex where
  f : Int
  t : Int
  n : Int
  d : Int

def cur (c : Int) : Bool := decide (1 ≤ c ∧ c ≤ 9)
def exB (x : Ex) : Bool := cur x.f && cur x.t && decide (x.f ≠ x.t) && vldB x.n x.d && decide (0 < x.n)
/-- the same two currencies -/
def keyB (a b : Int) (x : Ex) : Bool := x.f == a && x.t == b
def okEx (seen : List Ex) : List Ex → Bool
  | [] => true
  | x :: r => !(seen.any (keyB x.f x.t)) && exB x && okEx (seen ++ [x]) r
def vldX (l : List Ex) : Bool := decide (l.length ≤ 30) && okEx [] l
def rateOf (l : List Ex) (a b : Int) : Option Ex := l.find? (keyB a b)
def convF (l : List Ex) (c k to : Int) : (Int × Int) × Int :=
  if vldX l && wthB c 1000000000 && cur k && cur to then
    if k = to then ((c, k), 0) else
    match rateOf l k to with
    | none => ((0, 0), 4)
    | some x => if wthB (rndF (c * x.n) x.d 3) 1000000000 then ((rndF (c * x.n) x.d 3, to), 0) else ((0, 0), 3)
  else ((0, 0), 1)

theorem okEx_mem : ∀ (l seen : List Ex), okEx seen l = true → ∀ x ∈ l, exB x = true
  | [], _, _, x, hx => by cases hx
  | y :: r, seen, h, x, hx => by
    simp only [okEx, Bool.and_eq_true] at h
    rcases List.mem_cons.1 hx with rfl | hx
    · exact h.1.2
    · exact okEx_mem r _ h.2 x hx
theorem exB_vld {x : Ex} (h : exB x = true) : vldB x.n x.d = true := by simp [exB] at h; exact h.1.2
theorem exB_pos {x : Ex} (h : exB x = true) : 0 < x.n := by simp [exB] at h; exact h.2
theorem rateOf_some {l : List Ex} {a b : Int} {x : Ex} (h : rateOf l a b = some x) : x ∈ l ∧ x.f = a ∧ x.t = b := by
  have h1 := List.mem_of_find?_eq_some h
  have h2 := List.find?_some h
  simp [keyB] at h2
  exact ⟨h1, h2.1, h2.2⟩
theorem vldX_rate {l : List Ex} {a b : Int} {x : Ex} (hv : vldX l = true) (h : rateOf l a b = some x) : exB x = true := by
  simp only [vldX, Bool.and_eq_true] at hv
  exact okEx_mem l _ hv.2 x (rateOf_some h).1

/-- weights -/
def wOk (x : Int) : Bool := decide (0 ≤ x ∧ x ≤ 1000000)
def wts (l : List Int) : Bool := decide (l.length ≤ 1000) && l.all wOk && decide (0 < l.sum)
def sumF (l : List Int) : Int × Bool := if decide (l.length ≤ 1000) && l.all wOk then (l.sum, decide (0 < l.sum)) else (0, false)
def partsF (c T : Int) : Int → List Int → List Int
  | _, [] => []
  | s, x :: r => (c * (s + x) / T - c * s / T) :: partsF c T (s + x) r
def shareF (c : Int) (l : List Int) : List Int × Int := if wthB c 1000000000 && wts l then (partsF c l.sum 0 l, 0) else ([], 1)
theorem partsF_len (c T : Int) : ∀ (s : Int) (l : List Int), (partsF c T s l).length = l.length
  | _, [] => rfl
  | s, x :: r => by simp [partsF, partsF_len c T (s + x) r]
theorem sum_bd : ∀ (l : List Int), l.all wOk = true → 0 ≤ l.sum ∧ l.sum ≤ 1000000 * l.length
  | [], _ => by simp
  | x :: r, h => by
    simp only [List.all_cons, Bool.and_eq_true] at h
    have := sum_bd r h.2
    have h1 : 0 ≤ x ∧ x ≤ 1000000 := by simpa [wOk] using h.1
    simp; omega

/-- texts -/
def dg (k : Nat) : UInt8 := UInt8.ofNat (48 + k)
def txtOf (c : Int) : List UInt8 := (if c < 0 then [45] else []) ++ Lib.decDigits (c.natAbs / 100) ++ [46, dg (c.natAbs / 10 % 10), dg (c.natAbs % 10)]
def dgs : Int → List UInt8 → Int
  | n, [] => n
  | n, x :: r => dgs (if 48 ≤ x.toNat ∧ x.toNat ≤ 57 ∧ n ≤ 1000000000 then 10 * n + ((x.toNat : Int) - 48) else n) r
def pN (s : List UInt8) : Int := if s.head? = some 45 then -(dgs 0 s) else dgs 0 s
def textF (c : Int) : List UInt8 × Int := if wthB c 1000000000 then (txtOf c, 0) else ([], 1)
def parseF (s : List UInt8) : Int × Int := if wthB (pN s) 1000000000 = true ∧ txtOf (pN s) = s then (pN s, 0) else (0, 7)

theorem dg_nat {k : Nat} (h : k < 10) : (dg k).toNat = 48 + k := by unfold dg; simp; omega
theorem dgs_app : ∀ (a b : List UInt8) (n : Int), dgs n (a ++ b) = dgs (dgs n a) b
  | [], _, _ => rfl
  | x :: a, b, n => by simp only [List.cons_append, dgs]; exact dgs_app a b _
theorem dgs_one {n : Int} {k : Nat} (hk : k < 10) (hn : n ≤ 1000000000) : dgs n [dg k] = 10 * n + k := by
  simp only [dgs, dg_nat hk]
  rw [if_pos (by omega)]
  omega
theorem dgs_dec (u : Nat) : u ≤ 10000000009 → dgs 0 (Lib.decDigits u) = u := by
  induction u using Nat.strongRecOn with
  | _ u ih =>
    intro hu
    rw [Lib.decDigits]
    split
    · next h => have := dgs_one (n := 0) h (by omega); unfold dg at this; rw [this]; omega
    · next h =>
      rw [dgs_app, ih (u / 10) (by omega) (by omega)]
      have := dgs_one (n := ((u / 10 : Nat) : Int)) (k := u % 10) (by omega) (by omega)
      unfold dg at this
      rw [this]
      omega
theorem dec_dig (u : Nat) : ∀ x ∈ Lib.decDigits u, 48 ≤ x.toNat ∧ x.toNat ≤ 57 := by
  induction u using Nat.strongRecOn with
  | _ u ih =>
    rw [Lib.decDigits]
    split
    · next h =>
      intro x hx
      have hx := List.mem_singleton.1 hx
      have := dg_nat h
      unfold dg at this
      rw [hx, this]; omega
    · next h =>
      intro x hx
      rcases List.mem_append.1 hx with hx | hx
      · exact ih _ (by omega) x hx
      · have hx := List.mem_singleton.1 hx
        have := dg_nat (k := u % 10) (by omega)
        unfold dg at this
        rw [hx, this]; omega
theorem dec_ne (u : Nat) : ∃ x r, Lib.decDigits u = x :: r ∧ 48 ≤ x.toNat ∧ x.toNat ≤ 57 := by
  cases h : Lib.decDigits u with
  | nil => rw [Lib.decDigits] at h; split at h <;> simp at h
  | cons x r => exact ⟨x, r, rfl, dec_dig u x (by rw [h]; simp)⟩
theorem dec_len : ∀ (k u : Nat), u < 10 ^ (k + 1) → (Lib.decDigits u).length ≤ k + 1 := by
  intro k
  induction k with
  | zero => intro u h; rw [Lib.decDigits, dif_pos (by omega)]; simp
  | succ k ih =>
    intro u h
    rw [Lib.decDigits]
    split
    · simp
    · have := ih (u / 10) (by rw [Nat.pow_succ] at h; omega)
      simp; omega
theorem pN_txt (c : Int) (hc : wthB c 1000000000 = true) : pN (txtOf c) = c := by
  have hc : -1000000000 ≤ c ∧ c ≤ 1000000000 := by simpa [wthB] using hc
  have key : dgs 0 (Lib.decDigits (c.natAbs / 100) ++ [46, dg (c.natAbs / 10 % 10), dg (c.natAbs % 10)]) = c.natAbs := by
    rw [dgs_app, dgs_dec _ (by omega)]
    have e1 : ∀ n : Int, dgs n [46, dg (c.natAbs / 10 % 10), dg (c.natAbs % 10)] = dgs (dgs n [dg (c.natAbs / 10 % 10)]) [dg (c.natAbs % 10)] := fun n => rfl
    rw [e1, dgs_one (n := ((c.natAbs / 100 : Nat) : Int)) (by omega) (by omega), dgs_one (by omega) (by omega)]
    omega
  by_cases h : c < 0
  · unfold pN txtOf
    rw [if_pos h]
    rw [if_pos (by simp)]
    simp only [List.cons_append, List.nil_append] at key ⊢
    rw [show dgs 0 (45 :: (Lib.decDigits (c.natAbs / 100) ++ [46, dg (c.natAbs / 10 % 10), dg (c.natAbs % 10)])) = dgs 0 (Lib.decDigits (c.natAbs / 100) ++ [46, dg (c.natAbs / 10 % 10), dg (c.natAbs % 10)]) from rfl, key]
    omega
  · unfold pN txtOf
    rw [if_neg h, List.nil_append]
    obtain ⟨x, r, hx, hx1, hx2⟩ := dec_ne (c.natAbs / 100)
    rw [if_neg (by rw [hx]; simp; rintro rfl; revert hx1; decide), key]
    omega

theorem decFrom_app : ∀ (a b : List UInt8) (n : Nat), Lib.decFrom n (a ++ b) = (Lib.decFrom n a).bind fun m => Lib.decFrom m b
  | [], _, _ => rfl
  | x :: a, b, n => by
    simp only [List.cons_append, Lib.decFrom]
    cases Lib.digitVal x with
    | none => rfl
    | some d => exact decFrom_app a b _
theorem decFrom_one {n k : Nat} (hk : k < 10) : Lib.decFrom n [dg k] = some (n * 10 + k) := by
  simp only [Lib.decFrom, Lib.digitVal, dg_nat hk]
  rw [if_pos (by omega)]
  simp only [Option.some.injEq]
  omega
theorem decFrom_dec (u : Nat) : Lib.decFrom 0 (Lib.decDigits u) = some u := by
  induction u using Nat.strongRecOn with
  | _ u ih =>
    rw [Lib.decDigits]
    split
    · next h => have := decFrom_one (n := 0) h; unfold dg at this; rw [this]; simp
    · next h =>
      rw [decFrom_app, ih (u / 10) (by omega)]
      have := decFrom_one (n := u / 10) (k := u % 10) (by omega)
      unfold dg at this
      simp only [Option.bind_some, this, Option.some.injEq]
      omega
theorem decNat_txt (m : Nat) : Lib.decNat (Lib.decDigits (m / 100) ++ [dg (m / 10 % 10), dg (m % 10)]) = some m := by
  obtain ⟨x, r, hx, _, _⟩ := dec_ne (m / 100)
  unfold Lib.decNat
  rw [if_neg (by rw [hx]; simp), decFrom_app, decFrom_dec]
  have e1 : ∀ n : Nat, Lib.decFrom n [dg (m / 10 % 10), dg (m % 10)] = (Lib.decFrom n [dg (m / 10 % 10)]).bind fun k => Lib.decFrom k [dg (m % 10)] := fun n => decFrom_app [_] [_] n
  simp only [Option.bind_some, e1, decFrom_one (k := m / 10 % 10) (by omega), decFrom_one (k := m % 10) (by omega), Option.some.injEq]
  omega

/-- the first point is left out -/
def cutP (s : List UInt8) : List UInt8 := Lib.replace s [46] [] 1
theorem index_pt : ∀ (a b : List UInt8), (∀ x ∈ a, x ≠ 46) → Lib.index (a ++ 46 :: b) [46] = (a.length : Int)
  | [], b, _ => by simp [Lib.index, List.isPrefixOf]
  | x :: a, b, h => by
    have h1 : x ≠ 46 := h x (by simp)
    have ih := index_pt a b (fun y hy => h y (by simp [hy]))
    rw [List.cons_append, Lib.index]
    rw [if_neg (by simp [List.isPrefixOf]; exact Ne.symm h1), ih, if_neg (by rw [beq_iff_eq]; omega)]
    simp
theorem cutP_at (a b : List UInt8) (h : ∀ x ∈ a, x ≠ 46) : cutP (a ++ 46 :: b) = a ++ b := by
  have hi := index_pt a b h
  have hc : 1 ≤ Lib.count (a ++ 46 :: b) [46] := by
    unfold Lib.count
    rw [Lib.countFrom]
    rw [hi]
    rw [if_neg (by rw [beq_iff_eq]; omega)]
    omega
  unfold cutP Lib.replace
  rw [if_neg (by simp)]
  have hn : Lib.replaceNum (a ++ 46 :: b) [46] 1 = 1 := by unfold Lib.replaceNum; rw [if_neg (by omega)]; rfl
  rw [hn, Lib.replaceK_hit _ _ 0 _ a.length hi, Lib.replaceK]
  simp
theorem atoi_txt (c : Int) (hc : wthB c 1000000000 = true) : Lib.atoiAll (cutP (txtOf c)) = .ok c := by
  have hc : -1000000000 ≤ c ∧ c ≤ 1000000000 := by simpa [wthB] using hc
  have hl : (Lib.decDigits (c.natAbs / 100)).length ≤ 8 := dec_len 7 _ (by omega)
  obtain ⟨x, r, hx, hx1, hx2⟩ := dec_ne (c.natAbs / 100)
  have hd := decNat_txt c.natAbs
  have e0 : cutP (txtOf c) = (if c < 0 then [45] else []) ++ Lib.decDigits (c.natAbs / 100) ++ [dg (c.natAbs / 10 % 10), dg (c.natAbs % 10)] := by
    unfold txtOf
    refine cutP_at _ _ fun y hy => ?_
    rcases List.mem_append.1 hy with hy | hy
    · split at hy
      · simp at hy; subst hy; decide
      · cases hy
    · have := dec_dig _ y hy
      rintro rfl
      revert this; decide
  rw [e0, Lib.atoiAll_short _ (by split <;> simp <;> omega)]
  by_cases h : c < 0
  · rw [if_pos h]
    simp only [List.cons_append, List.nil_append, Lib.atoi]
    rw [if_pos (by simp), hd]
    simp only [Option.map_some, Lib.NumEnd.ofOption]
    congr 1; omega
  · rw [if_neg h, List.nil_append]
    rw [hx] at hd ⊢
    simp only [List.cons_append] at hd ⊢
    rw [Lib.atoi, if_neg (by rw [beq_iff_eq]; rintro rfl; revert hx1; decide), if_neg (by rw [beq_iff_eq]; rintro rfl; revert hx1; decide), hd]
    simp only [Option.map_some, Lib.NumEnd.ofOption]
    congr 1; omega

/-- what the library's road gives is what the reference's gives -/
theorem parse_ok {s : List UInt8} {v : Int} (h : Lib.atoiAll (cutP s) = .ok v) : parseF s = if wthB v 1000000000 = true ∧ txtOf v = s then (v, 0) else (0, 7) := by
  by_cases hv : wthB v 1000000000 = true ∧ txtOf v = s
  · have e : pN s = v := by rw [← hv.2]; exact pN_txt v hv.1
    rw [if_pos hv]; unfold parseF; rw [e, if_pos hv]
  · rw [if_neg hv]
    unfold parseF
    refine if_neg fun hp => hv ?_
    have h2 := atoi_txt (pN s) hp.1
    rw [hp.2, h] at h2
    cases h2; exact hp
theorem parse_bad {s : List UInt8} (h : ∀ v, Lib.atoiAll (cutP s) ≠ .ok v) : parseF s = (0, 7) := by
  unfold parseF
  refine if_neg fun hp => ?_
  have h2 := atoi_txt (pN s) hp.1
  rw [hp.2] at h2
  exact h _ h2
end Go.Proofs.YtnjaedbekogeaaaDoor
