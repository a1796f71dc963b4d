/-
  Lists of spans as plain lists of pairs, and how a slice of spans reads them.
-/
import Derived.Test.YtfhhkbijcleedaaKit
namespace Go.Proofs.Ytfhhkbijcleedaa
open Go.RowKit

abbrev Sp := Int × Int
/-- within 64 bits -/
def I64 (x : Int) : Prop := -9223372036854775808 ≤ x ∧ x ≤ 9223372036854775807
def IS (l : List Sp) : Prop := ∀ s ∈ l, I64 s.1 ∧ I64 s.2

theorem blk_add (a : Addr) (i : Nat) : (a.add i).block = a.block := by unfold Addr.add; split <;> rfl

theorem add_succ (a : Addr) (m : Nat) : a.add (m + 1) = { block := (a.add m).block, off := (a.add m).off + 1 } := by
  unfold Addr.add; split <;> split <;> simp_all <;> omega

/-- v is a slice that reads l -/
structure Spans (w : World) (v : Value) (l : List Sp) : Prop where
  shape : ∃ ad cap, v = .slice ad l.length cap
  cells : ∀ ad n cap, v = .slice ad n cap → ∀ i (h : i < l.length), ∃ a, ad = some a ∧ a.block < w.heap.size ∧ w.cell? (a.add (i * 2)) = some (.int .i64 (l[i]).1) ∧ w.cell? (a.add (i * 2 + 1)) = some (.int .i64 (l[i]).2)
  ints : IS l
  short : l.length ≤ 140737488351232

theorem Spans.open {w : World} {v : Value} {l : List Sp} (h : Spans w v l) : ∃ ad cap, v = .slice ad l.length cap ∧
    ∀ i (_ : i < l.length), ∃ a, ad = some a ∧ a.block < w.heap.size ∧ w.cell? (a.add (i * 2)) = some (.int .i64 (l[i]).1) ∧ w.cell? (a.add (i * 2 + 1)) = some (.int .i64 (l[i]).2) := by
  obtain ⟨ad, cap, rfl⟩ := h.shape
  exact ⟨ad, cap, rfl, h.cells ad _ cap rfl⟩
theorem Spans.below {w w1 : World} {v : Value} {l : List Sp} (h : Spans w v l) (hb : Below w.heap.size w w1) : Spans w1 v l := by
  refine ⟨h.shape, fun ad n cap e i hi => ?_, h.ints, h.short⟩
  obtain ⟨a, h0, h1, h2, h3⟩ := h.cells ad n cap e i hi
  exact ⟨a, h0, Nat.lt_of_lt_of_le h1 hb.size, (hb.cell (p := a.add (i * 2)) (by rw [blk_add]; exact h1)).trans h2, (hb.cell (p := a.add (i * 2 + 1)) (by rw [blk_add]; exact h1)).trans h3⟩

/-- wellFormed -/
def wf (s : Sp) : Bool := decide (0 ≤ s.1) && decide (s.1 < s.2) && decide (s.2 ≤ 1000000000)
/-- the loop of Valid, the last number before it being at hand -/
def okFrom : Int → List Sp → Bool
  | _, [] => true
  | last, s :: l => wf s && decide (last < s.1) && okFrom s.2 l
def valid (l : List Sp) : Bool := decide (l.length ≤ 1000) && okFrom (-1) l

theorem drop_cons {l : List Sp} {k : Nat} (h : k < l.length) : l.drop k = l[k] :: l.drop (k + 1) := List.drop_eq_getElem_cons h
end Go.Proofs.Ytfhhkbijcleedaa
