/-
  Worlds that have grown since a given one, as a function 'up w g': so that what a callee leaves is read by rewriting. Regions that draw their order, whose callees make memory of their own and change nothing that was there, walked once.
-/
import Derived.WalkKit
import Derived.WalkSpells
import Derived.WalkLawsBesides
import Derived.Deep.QuietTactic
import Derived.BigQuiet
import Derived.Lib.Hide
import Derived.Laws.EntriesVeiled
namespace Go.Proofs.Ytbkcpcjdpfndpaa
open Go.RowKit

/-- Worlds that have grown since w. -/
structure Grow (w : World) where
  to : World
  below : Below w.heap.size w to

@[simp, go_sem] theorem grow_const (w : World) (p : Prop) : (Grow w → p) = p := propext ⟨fun h => h ⟨w, Below.refl _ _⟩, fun h _ => h⟩

def up (w : World) (g : Grow w) : World := g.to
theorem up_below (w : World) (g : Grow w) : Below w.heap.size w (up w g) := g.below
theorem up_size (w : World) (g : Grow w) : w.heap.size ≤ (up w g).heap.size := g.below.size
@[simp, go_sem] theorem up_cell (w : World) (g : Grow w) (b o : Nat) (h : b < w.heap.size) : (up w g).cell? ⟨b, o, none⟩ = w.cell? ⟨b, o, none⟩ := g.below.cell (p := ⟨b, o, none⟩) h
@[simp, go_sem] theorem up_frozen (w : World) (g : Grow w) (b o : Nat) (h : b < w.heap.size) : (up w g).frozen? ⟨b, o, none⟩ = w.frozen? ⟨b, o, none⟩ := g.below.frozen (p := ⟨b, o, none⟩) h
theorem up_of {w w' : World} (h : Below w.heap.size w w') : ∃ g : Grow w, w' = up w g := ⟨⟨w', h⟩, rfl⟩
theorem up_up {w : World} (g : Grow w) {w' : World} (h : Below (up w g).heap.size (up w g) w') : ∃ g : Grow w, w' = up w g :=
  up_of ((up_below w g).trans (h.mono (up_size w g)))

/-- What every function here does: it returns a value, and leaves what was there. -/
def Ret (v : Value) (w : World) (e : Ending) (w' : World) : Prop := e = .returned v ∧ Below w.heap.size w w'
theorem Ret.mk {v v' : Value} {w w' : World} (h : v' = v) (hb : Below w.heap.size w w') : Ret v w (.returned v') w' := ⟨by rw [h], hb⟩
/-- It returns a value, and changes nothing at all. -/
def Same (v : Value) (w : World) (e : Ending) (w' : World) : Prop := e = .returned v ∧ w = w'
theorem Same.mk {v v' : Value} {w w' : World} (h : v' = v) (hb : w = w') : Same v w (.returned v') w' := ⟨by rw [h], hb⟩
theorem boolV {a b : Bool} (h : a = true ↔ b = true) : Value.bool a = Value.bool b := by rw [Bool.eq_iff_iff.2 h]

section
variable {P : Program} {f : FuncId} {args : Array Value} {w : World} {v : Value}
theorem Ret.out (h : Calls P f args w (Ret v w)) : Calls P f args w fun e w' => e = .returned v ∧ ∃ g : Grow w, w' = up w g :=
  h.mono fun _ _ ⟨he, hb⟩ => ⟨he, up_of hb⟩
theorem Ret.up {g : Grow w} (h : Calls P f args (up w g) (Ret v (up w g))) : Calls P f args (up w g) fun e w' => e = .returned v ∧ ∃ g : Grow w, w' = Go.Proofs.Ytbkcpcjdpfndpaa.up w g :=
  h.mono fun _ _ ⟨he, hb⟩ => ⟨he, up_up g hb⟩
theorem Same.up {g : Grow w} (h : Calls P f args (up w g) (Same v (up w g))) : Calls P f args (up w g) fun e w' => e = .returned v ∧ ∃ g : Grow w, w' = Go.Proofs.Ytbkcpcjdpfndpaa.up w g :=
  h.mono fun _ _ ⟨he, hb⟩ => ⟨he, g, hb.symm⟩

theorem wp_region_up {id : Nat} {Q : Exit → Act → World → Prop} {a : Act} {l : List Oper} (hm : P.follows .mixedOrders = true) (hB : Region.lexB .any l.toArray = true)
    (h : wpQuiet P l.toArray (fun w' => ∃ g : Grow w, w' = up w g) (fun a' => ∀ w', (∃ g : Grow w, w' = up w g) → Q .normal a' w') l a) : (Code.region id l.toArray true).wp P Q a w :=
  wp_region_quiet (C := fun w' => ∃ g : Grow w, w' = up w g) hm hB (up_of (Below.refl _ _).drew) (by simpa using h)
/-- The same where the world is one that has grown already. -/
theorem wp_region_upup {id : Nat} {Q : Exit → Act → World → Prop} {a : Act} {l : List Oper} {g : Grow w} (hm : P.follows .mixedOrders = true) (hB : Region.lexB .any l.toArray = true)
    (h : wpQuiet P l.toArray (fun w' => ∃ g : Grow w, w' = up w g) (fun a' => ∀ w', (∃ g : Grow w, w' = up w g) → Q .normal a' w') l a) : (Code.region id l.toArray true).wp P Q a (up w g) :=
  wp_region_quiet (C := fun w' => ∃ g : Grow w, w' = up w g) hm hB (up_of (up_below w g).drew) (by simpa using h)
end

/-- A block of the call's own, whose cells read so. -/
structure Own (w : World) (B : Nat) (xs : List Value) : Prop where
  cell : ∀ i v, xs[i]? = some v → w.cell? ⟨B, i, none⟩ = some v
  fro : ∀ i v, xs[i]? = some v → w.frozen? ⟨B, i, none⟩ = false
  lt : B < w.heap.size

theorem Own.new (w : World) (xs : Array Value) (t : TypeId) : Own (w.alloc (.cells xs t)) w.heap.size xs.toList :=
  ⟨fun i v h => by simpa using h, fun i v _ => by simp, by simp⟩
theorem Own.at (w : World) (xs : Array Value) (t : TypeId) (n : Nat) (h : n = w.heap.size) : Own (w.alloc (.cells xs t)) n xs.toList := by subst h; exact Own.new w xs t
theorem Own.alloc {w : World} {B : Nat} {xs : List Value} (h : Own w B xs) (o : Obj) : Own (w.alloc o) B xs :=
  ⟨fun i v hi => by rw [World.cell?_alloc_past _ _ _ h.lt]; exact h.cell i v hi, fun i v hi => by rw [World.frozen?_alloc_past _ _ _ h.lt]; exact h.fro i v hi, by have := h.lt; simp; omega⟩
theorem Own.below {w w1 : World} {B : Nat} {xs : List Value} (h : Own w B xs) (hb : Below w.heap.size w w1) : Own w1 B xs :=
  ⟨fun i v hi => (hb.cell (p := ⟨B, i, none⟩) h.lt).trans (h.cell i v hi), fun i v hi => (hb.frozen (p := ⟨B, i, none⟩) h.lt).trans (h.fro i v hi), Nat.lt_of_lt_of_le h.lt hb.size⟩
theorem Own.two {w : World} {B : Nat} {x y : Value} (h : Own w B [x, y]) : w.cell? ⟨B, 0, none⟩ = some x ∧ w.cell? ⟨B, 1, none⟩ = some y ∧ w.frozen? ⟨B, 0, none⟩ = false ∧ w.frozen? ⟨B, 1, none⟩ = false ∧ B < w.heap.size :=
  ⟨h.cell 0 _ rfl, h.cell 1 _ rfl, h.fro 0 _ rfl, h.fro 1 _ rfl, h.lt⟩
theorem Own.one {w : World} {B : Nat} {x : Value} (h : Own w B [x]) : w.cell? ⟨B, 0, none⟩ = some x ∧ w.frozen? ⟨B, 0, none⟩ = false ∧ B < w.heap.size :=
  ⟨h.cell 0 _ rfl, h.fro 0 _ rfl, h.lt⟩
end Go.Proofs.Ytbkcpcjdpfndpaa
