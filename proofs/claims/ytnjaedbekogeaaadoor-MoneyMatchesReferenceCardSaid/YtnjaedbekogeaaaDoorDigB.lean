/-
  Next: its feeder (the bytes of a number, the texts of integers), and Next itself.
-/
import Derived.Test.YtnjaedbekogeaaaDoorDigItoa
namespace Go.Proofs.YtnjaedbekogeaaaDoor
open Go.RowKit

/-- the bytes of a number, the highest one first; the texts of integers, a blank behind each -/
def byt (d : UInt64) (k : Nat) : UInt8 := UInt8.ofNat (d.toNat / 2 ^ (56 - 8 * k))
def bytes8 (d : UInt64) : List UInt8 := (List.range 8).map (byt d)
def txt (l : List Int) : List UInt8 := l.flatMap fun n => Lib.itoa n ++ [32]
def nxt (d : UInt64) (l : List Int) : UInt64 := fnv fnv0 (bytes8 d ++ txt l)

theorem txt_take {l : List Int} {k : Nat} (h : k < l.length) : txt (l.take (k + 1)) = txt (l.take k) ++ (Lib.itoa l[k] ++ [32]) := by
  unfold txt
  rw [List.take_succ_eq_append_getElem h, List.flatMap_append, List.flatMap_cons, List.flatMap_nil, List.append_nil]

theorem byt_take (d : UInt64) {k : Nat} (h : k < 8) : (bytes8 d).take (k + 1) = (bytes8 d).take k ++ [byt d k] := by
  rw [List.take_succ_eq_append_getElem (by simp [bytes8]; omega)]; simp [bytes8]

theorem own_iterAt {w : World} {B : Nat} {xs : List Value} (h : Own w B xs) (k : Nat) (s : ByteArray) (pos : Nat) (hk : B ≠ k) : Own (w.iterAt k s pos) B xs := by
  have e := Lib.iterAt_other w k B s pos hk
  refine ⟨fun i v hi => ?_, fun i v hi => ?_, by rw [Lib.iterAt_size]; exact h.lt⟩
  · rw [← h.cell i v hi]; simp [World.cell?, e]
  · rw [← h.fro i v hi]; simp [World.frozen?, e]

end Go.Proofs.YtnjaedbekogeaaaDoor
