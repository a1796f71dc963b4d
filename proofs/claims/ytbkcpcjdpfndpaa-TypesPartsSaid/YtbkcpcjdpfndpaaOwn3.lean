/-
  A block of three cells.
-/
import Derived.Test.YtbkcpcjdpfndpaaKit
namespace Go.Proofs.Ytbkcpcjdpfndpaa
open Go.RowKit

theorem Own.three {w : World} {B : Nat} {x y z : Value} (h : Own w B [x, y, z]) : w.cell? ⟨B, 0, none⟩ = some x ∧ w.cell? ⟨B, 1, none⟩ = some y ∧ w.cell? ⟨B, 2, none⟩ = some z ∧ w.frozen? ⟨B, 0, none⟩ = false ∧ w.frozen? ⟨B, 1, none⟩ = false ∧ w.frozen? ⟨B, 2, none⟩ = false ∧ B < w.heap.size :=
  ⟨h.cell 0 _ rfl, h.cell 1 _ rfl, h.cell 2 _ rfl, h.fro 0 _ rfl, h.fro 1 _ rfl, h.fro 2 _ rfl, h.lt⟩
end Go.Proofs.Ytbkcpcjdpfndpaa
