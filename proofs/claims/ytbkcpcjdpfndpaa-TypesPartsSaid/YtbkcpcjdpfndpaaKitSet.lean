/-
  Blocks of the call's own through draws and stores.
-/
import Derived.Test.YtbkcpcjdpfndpaaKit
namespace Go.Proofs.Ytbkcpcjdpfndpaa
open Go.RowKit

theorem Own.drew {w : World} {B : Nat} {xs : List Value} (h : Own w B xs) : Own w.drew B xs := ⟨h.cell, h.fro, h.lt⟩
theorem Own.setCell {w : World} {B : Nat} {xs : List Value} (h : Own w B xs) {p : Addr} (hp : p.block ≠ B) (v : Value) : Own (w.setCell p v) B xs :=
  ⟨fun i x hi => by rw [World.cell?_setCell_other]; exact h.cell i x hi; intro e; exact hp (by rw [e]), fun i x hi => by rw [World.frozen?_setCell]; exact h.fro i x hi, by have := h.lt; simpa [World.setCell] using this⟩
theorem Own.set2 {w : World} {B : Nat} {x y : Value} (h : Own w B [x, y]) (u v : Value) : Own ((w.setCell ⟨B, 0, none⟩ u).setCell ⟨B, 1, none⟩ v) B [u, v] := by
  have h0 := h.cell 0 _ rfl
  have h1 := h.cell 1 _ rfl
  refine ⟨fun i z hi => ?_, fun i z hi => ?_, by have := h.lt; simpa [World.setCell] using this⟩
  · match i, hi with
    | 0, hi =>
      simp at hi; subst hi
      rw [World.cell?_setCell_other _ _ _ _ (by simp)]
      exact World.cell?_setCell_same _ _ _ h0
    | 1, hi =>
      simp at hi; subst hi
      exact World.cell?_setCell_same _ _ _ (by rw [World.cell?_setCell_other _ _ _ _ (by simp)]; exact h1)
  · rw [World.frozen?_setCell, World.frozen?_setCell]
    match i, hi with
    | 0, _ => exact h.fro 0 _ rfl
    | 1, _ => exact h.fro 1 _ rfl
end Go.Proofs.Ytbkcpcjdpfndpaa
