/-
  The digest of bytes as a plain function on 64 bits; how a slice reads the values of its places.
-/
import Derived.Test.YtnjaedbekogeaaaDoorKit
import Derived.Test.YtnjaedbekogeaaaDoorProg
import Derived.Lib.ItoaNum
namespace Go.Proofs.YtnjaedbekogeaaaDoor
open Go.RowKit

/-- within 64 bits -/
def I64 (x : Int) : Prop := -9223372036854775808 ≤ x ∧ x ≤ 9223372036854775807

/-- one byte more -/
def stp (d : UInt64) (x : UInt8) : UInt64 := (d ^^^ x.toUInt64) * 1099511628211
/-- the bytes behind a digest -/
def fnv (d : UInt64) (l : List UInt8) : UInt64 := l.foldl stp d
def fnv0 : UInt64 := 14695981039346656037
def vD (d : UInt64) : Value := .int .u64 (d.toNat : Int)
def vB (x : UInt8) : Value := .int .u8 (x.toNat : Int)

theorem fnv_nil (d : UInt64) : fnv d [] = d := rfl
theorem fnv_cons (d : UInt64) (x : UInt8) (l : List UInt8) : fnv d (x :: l) = fnv (stp d x) l := rfl
theorem fnv_app (d : UInt64) (a b : List UInt8) : fnv d (a ++ b) = fnv (fnv d a) b := by simp [fnv]

theorem mul_inj (d e : UInt64) (h : d * 1099511628211 = e * 1099511628211) : d = e := by
  have h2 : d * 1099511628211 * 14886173955864302971 = e * 1099511628211 * 14886173955864302971 := by rw [h]
  rwa [UInt64.mul_assoc, UInt64.mul_assoc, show (1099511628211 : UInt64) * 14886173955864302971 = 1 by decide, UInt64.mul_one, UInt64.mul_one] at h2
theorem stp_inj (d e : UInt64) (x : UInt8) (h : stp d x = stp e x) : d = e := by
  have h := mul_inj _ _ h
  have h2 : (d ^^^ x.toUInt64) ^^^ x.toUInt64 = (e ^^^ x.toUInt64) ^^^ x.toUInt64 := by rw [h]
  simpa [UInt64.xor_assoc] using h2
theorem stp_inj2 (d : UInt64) (x y : UInt8) (h : stp d x = stp d y) : x = y := by
  have h := mul_inj _ _ h
  have h2 : d ^^^ (d ^^^ x.toUInt64) = d ^^^ (d ^^^ y.toUInt64) := by rw [h]
  rw [← UInt64.xor_assoc, ← UInt64.xor_assoc] at h2
  have h3 : x.toUInt64 = y.toUInt64 := by simpa using h2
  exact UInt8.toNat.inj (by simpa using congrArg UInt64.toNat h3)
theorem fnv_inj : ∀ (l : List UInt8) (d e : UInt64), fnv d l = fnv e l → d = e
  | [], _, _, h => h
  | x :: l, _, _, h => stp_inj _ _ x (fnv_inj l _ _ h)
theorem stp_nat (d : UInt64) (x : UInt8) : (stp d x).toNat = ((d.toNat ^^^ x.toNat) * 1099511628211) % 18446744073709551616 := by
  simp [stp, UInt64.toNat_mul, UInt64.toNat_xor]

/-- v is a slice whose places, one cell each, read xs -/
structure Row (w : World) (v : Value) (xs : List Value) : Prop where
  shape : ∃ ad cap, v = .slice ad xs.length cap
  cells : ∀ ad n cap, v = .slice ad n cap → ∀ i (h : i < xs.length), ∃ a, ad = some a ∧ a.block < w.heap.size ∧ w.cell? (a.add i) = some xs[i]
  short : xs.length ≤ 9223372036854775807
  bare : ∀ n cap, v = .slice none n cap → n = 0 ∧ cap = 0

theorem blk_add (a : Addr) (i : Nat) : (a.add i).block = a.block := by unfold Addr.add; split <;> rfl
theorem Row.below {w w1 : World} {v : Value} {l : List Value} (h : Row w v l) (hb : Below w.heap.size w w1) : Row w1 v l := by
  refine ⟨h.shape, fun ad n cap e i hi => ?_, h.short, h.bare⟩
  obtain ⟨a, h0, h1, h2⟩ := h.cells ad n cap e i hi
  exact ⟨a, h0, Nat.lt_of_lt_of_le h1 hb.size, (hb.cell (p := a.add i) (by rw [blk_add]; exact h1)).trans h2⟩
theorem Row.nil (w : World) : Row w (.slice none 0 0) [] := ⟨⟨_, _, rfl⟩, fun _ _ _ _ i h => by simp at h, by simp, fun n cap h => by cases h; exact ⟨rfl, rfl⟩⟩

/-- bytes, integers, slices -/
def Bytes (w : World) (v : Value) (l : List UInt8) : Prop := Row w v (l.map vB)
def Ints (w : World) (v : Value) (l : List Int) : Prop := Row w v (l.map (.int .i64)) ∧ ∀ x ∈ l, I64 x
def Lists (w : World) (v : Value) (l : List (List Int)) : Prop := ∃ vs, Row w v vs ∧ vs.length = l.length ∧ ∀ i (h : i < vs.length) (h2 : i < l.length), Ints w vs[i] l[i]

end Go.Proofs.YtnjaedbekogeaaaDoor
