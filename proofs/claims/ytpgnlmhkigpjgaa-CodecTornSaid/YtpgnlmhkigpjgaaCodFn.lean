/-
  The codec as plain functions on lists of bytes and integers.
-/
import Derived.Test.YtpgnlmhkigpjgaaCodArg
namespace Go.Proofs.Ytpgnlmhkigpjgaa
open Go.RowKit
set_option linter.unusedVariables false

/-- the bytes of a digest, the highest one first -/
def byt (d : UInt64) (k : Nat) : UInt8 := UInt8.ofNat (d.toNat / 2 ^ (56 - 8 * k))
def bytes8 (d : UInt64) : List UInt8 := (List.range 8).map (byt d)
theorem byt_take (d : UInt64) {k : Nat} (h : k < 8) : (bytes8 d).take (k + 1) = (bytes8 d).take k ++ [byt d k] := by
  rw [List.take_succ_eq_append_getElem (by simp [bytes8]; omega)]; simp [bytes8]


/-- the number of an integer, and back -/
def num (n : Int) : Nat := if n < 0 then (-2 * n - 1).toNat else (2 * n).toNat
def unum (u : Nat) : Int := if u % 2 = 1 then -((u / 2 : Nat) : Int) - 1 else ((u / 2 : Nat) : Int)
/-- seven bits in each byte -/
def leb (u : Nat) : List UInt8 := if _h : u < 128 then [UInt8.ofNat u] else UInt8.ofNat (u % 128 + 128) :: leb (u / 128)
termination_by u
def enc (n : Int) : List UInt8 := leb (num n)
def lput (l : List Int) : List UInt8 := enc l.length ++ l.flatMap enc
/-- a number is read from its place k on -/
def rdU (k : Nat) : List UInt8 → Option (Nat × Nat)
  | [] => none
  | x :: l => if 9 < k ∨ (k = 9 ∧ 1 < x.toNat % 128) then none
     else if x.toNat < 128 then (if x.toNat = 0 ∧ 0 < k then none else some (x.toNat, 1))
     else (rdU (k + 1) l).map fun p => (x.toNat % 128 + 128 * p.1, p.2 + 1)
def rdI (b : List UInt8) : Option (Int × Nat) := (rdU 0 b).map fun p => (unum p.1, p.2)
/-- so many integers are read -/
def rdN : Nat → List UInt8 → Option (List Int × Nat)
  | 0, _ => some ([], 0)
  | n + 1, b => (rdI b).bind fun p => (rdN n (b.drop p.2)).map fun q => (p.1 :: q.1, p.2 + q.2)
def lget (b : List UInt8) : Option (List Int) :=
  (rdI b).bind fun p => if p.1 < 0 ∨ 4000 < p.1 then none else
    (rdN p.1.toNat (b.drop p.2)).bind fun q => if p.2 + q.2 = b.length then some q.1 else none
def said (b : List UInt8) : List UInt8 := [UInt8.ofNat (b.length / 65536), UInt8.ofNat (b.length / 256), UInt8.ofNat b.length] ++ b
def lmark (b : List UInt8) : List UInt8 := bytes8 (fnv fnv0 b)
def lframe (l : List Int) : List UInt8 := said (lput l) ++ lmark (said (lput l))
/-- how many bytes stand before the digest -/
def lend (b : List UInt8) : Nat := (b.getD 0 0).toNat * 65536 + (b.getD 1 0).toNat * 256 + (b.getD 2 0).toNat + 3
def lfirst (b : List UInt8) : Option (List Int × Nat) :=
  if b.length < 3 then none else if b.length < lend b + 8 then none
  else if (b.drop (lend b)).take 8 = lmark (b.take (lend b)) then (lget ((b.take (lend b)).drop 3)).map fun l => (l, lend b + 8)
  else none
theorem lfirst_size {b : List UInt8} {p : List Int × Nat} (h : lfirst b = some p) : 11 ≤ p.2 ∧ p.2 ≤ b.length := by
  unfold lfirst at h
  split at h
  · cases h
  · split at h
    · cases h
    · split at h
      · cases hg : lget ((b.take (lend b)).drop 3) with
        | none => rw [hg] at h; cases h
        | some l =>
          rw [hg] at h; cases h
          have : 3 ≤ lend b := by unfold lend; omega
          simp only
          omega
      · cases h
def lframes (b : List UInt8) : List (List Int) × Nat :=
  match h : lfirst b with
  | none => ([], 0)
  | some p => (p.1 :: (lframes (b.drop p.2)).1, p.2 + (lframes (b.drop p.2)).2)
termination_by b.length
decreasing_by all_goals (have := lfirst_size h; rw [List.length_drop]; omega)
theorem lframes_none {b : List UInt8} (h : lfirst b = none) : lframes b = ([], 0) := by
  rw [lframes]; split
  · rfl
  · next p hp => rw [h] at hp; cases hp
theorem lframes_some {b : List UInt8} {p : List Int × Nat} (h : lfirst b = some p) : lframes b = (p.1 :: (lframes (b.drop p.2)).1, p.2 + (lframes (b.drop p.2)).2) := by
  rw [lframes]; split
  · next hp => rw [h] at hp; cases hp
  · next q hq => rw [h] at hq; cases hq; rfl
theorem num_lt {n : Int} (h : I64 n) : num n < 18446744073709551616 := by
  have h1 := h.1
  have h2 := h.2
  unfold num; split <;> omega
theorem leb_small {u : Nat} (h : u < 128) : leb u = [UInt8.ofNat u] := by rw [leb, dif_pos h]
theorem leb_big {u : Nat} (h : ¬ u < 128) : leb u = UInt8.ofNat (u % 128 + 128) :: leb (u / 128) := by rw [leb, dif_neg h]
end Go.Proofs.Ytpgnlmhkigpjgaa
