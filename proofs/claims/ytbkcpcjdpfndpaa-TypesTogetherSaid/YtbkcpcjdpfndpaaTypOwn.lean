/-
  Rows of the call's own: carried over to later worlds.
-/
import Derived.Test.YtbkcpcjdpfndpaaTypRule
import Derived.Laws.AppendOwn
namespace Go.Proofs.Ytbkcpcjdpfndpaa
open Go.RowKit
set_option maxRecDepth 100000

theorem town_below {w w1 : World} {base : Nat} {e : TypeId} {size n : Nat} {v : Value} {xs : List Value} (h : w.ownsRow base e size v n xs) (hb : Below w.heap.size w w1) : w1.ownsRow base e size v n xs := by
  obtain ⟨h0, h1 | ⟨g, cap, cur, hv, hg, hh, hr⟩⟩ := h
  · exact ⟨h0, .inl h1⟩
  · exact ⟨h0, .inr ⟨g, cap, cur, hv, hg, (hb.block g (Array.getElem?_eq_some_iff.1 hh).1).trans hh, hr⟩⟩
theorem town_shape {w : World} {base : Nat} {e : TypeId} {size : Nat} {v : Value} {n : Nat} {xs : List Value} (h : w.ownsRow base e size v n xs) : ∃ p cap, v = .slice p n cap := by
  obtain ⟨_, ⟨rfl, rfl⟩ | ⟨g, cap, cur, rfl, hg, _⟩⟩ := h
  · exact ⟨_, _, rfl⟩
  · exact ⟨_, _, rfl⟩
theorem town_row {w : World} {base : Nat} {e : TypeId} {size : Nat} {v : Value} {n : Nat} {xs : List Value} (h : w.ownsRow base e size v n xs) : ∀ r, v.ownBlock = some r → base ≤ r ∧ r < w.heap.size := by
  obtain ⟨_, ⟨rfl, _⟩ | ⟨g, cap, cur, rfl, hg, hh, _⟩⟩ := h
  · intro r hr; cases hr
  · intro r hr; cases hr; exact ⟨hg, (Array.getElem?_eq_some_iff.1 hh).1⟩
theorem Own.grownT {w w' : World} {B : Nat} {xs : List Value} {row : Option Nat} (h : Own w B xs) (hg : w.grownBy w' row) (hn : ∀ r, row = some r → r ≠ B) : Own w' B xs := by
  have hk : w'.heap[B]? = w.heap[B]? := hg.block B h.lt (fun e => hn B e.symm rfl)
  exact ⟨fun i v hi => (World.cell?_of_block (a := ⟨B, i, none⟩) hk).trans (h.cell i v hi), fun i v hi => (World.frozen?_of_block (a := ⟨B, i, none⟩) hk).trans (h.fro i v hi), Nat.lt_of_lt_of_le h.lt hg.size⟩
theorem below_grownT {B : Nat} {a w w' : World} {row : Option Nat} (h : Below B a w) (hg : w.grownBy w' row) (hn : ∀ r, row = some r → B ≤ r) (hs : B ≤ w.heap.size) : Below B a w' := by
  refine ⟨hg.os.trans h.os, hg.tape.trans h.tape, hg.output.trans h.output, Nat.le_trans h.size hg.size, fun k hk => (hg.block k (by omega) (fun e => ?_)).trans (h.block k hk)⟩
  have := hn k e.symm
  omega
/-- the types of the kids, as their row holds them -/
def tyV (t : Nat) : Value := .int .i64 (t : Nat)
theorem kds_own {w : World} {base cap : Nat} {g : Nat} {ts : List Nat} (h : w.ownsRow base 3 1 (.slice (some ⟨g, 0, none⟩) ts.length cap) ts.length (ts.map tyV)) : Kds w g ts := by
  obtain ⟨_, ⟨h1, _⟩ | ⟨g', cap', cur, hv, _, hh, _, _, _, hct⟩⟩ := h
  · cases h1
  · cases hv
    refine ⟨fun k t hk => ?_, (Array.getElem?_eq_some_iff.1 hh).1⟩
    have hkl := (List.getElem?_eq_some_iff.1 hk).1
    have h2 : (cur.toList.take (ts.length * 1))[k]? = some (tyV t) := by rw [hct, List.getElem?_map, hk]; rfl
    rw [List.getElem?_take] at h2
    split at h2
    · simpa [World.cell?, hh, tyV] using h2
    · cases h2
end Go.Proofs.Ytbkcpcjdpfndpaa
