/-
  The contracts, as the laws use them.
-/
import Derived.Test.YtfnclecfldddeaaDoorLexHelp
namespace Go.Proofs.YtfnclecfldddeaaDoor
open Go.RowKit Go.Shelf
set_option maxRecDepth 100000

def TokI (A : List RT) (E N : Nat) (w : World) (e : Ending) (w' : World) : Prop := ∃ u, e = .returned (.tuple #[u, .int .i64 E, .int .i64 N]) ∧ Toks w' u A ∧
  w'.ownsRow w.heap.size 36 3 u A.length (A.flatMap rtC) ∧ Below w.heap.size w w'
theorem tokI {s : List UInt8} {A : List RT} {E N : Nat} (h : (tokP s).1.map Tok.rt = A ∧ (tokP s).2.1 = E ∧ (tokP s).2.2 = N) (w : World) (hL : Lay w) : Calls Tryd.prog 10 #[.string ⟨s.toArray⟩] w (TokI A E N w) := by
  obtain ⟨rfl, rfl, rfl⟩ := h
  exact (tok_any s w hL).mono fun _ _ h => h
theorem rtokI {s : List UInt8} {A : List RT} {E N : Nat} (h : (tokP s).1.map Tok.rt = A ∧ (tokP s).2.1 = E ∧ (tokP s).2.2 = N) (w : World) : Calls Tryd.prog 11 #[.string ⟨s.toArray⟩] w (TokI A E N w) := by
  obtain ⟨rfl, rfl, rfl⟩ := h
  exact (rtok_any s w).mono fun _ _ h => h
theorem joinI {v : Value} {l : List RT} {X : List UInt8} {J : Nat} (h : joinP l = (X, J)) (w : World) (hT : Toks w v l) (ht : ∀ x ∈ l, x.t.length ≤ 20000) (hL : Lay w) : Calls Tryd.prog 13 #[v] w (Ret (.tuple #[.string ⟨X.toArray⟩, .int .i64 J]) w) := by
  have := join_any v l w hT (fun x hx => by have := ht x hx; omega) hL
  rw [h] at this; exact this
theorem rjoinI {v : Value} {l : List RT} {X : List UInt8} {J : Nat} (h : joinP l = (X, J)) (w : World) (hT : Toks w v l) (ht : ∀ x ∈ l, x.t.length ≤ 20000) : Calls Tryd.prog 14 #[v] w (Ret (.tuple #[.string ⟨X.toArray⟩, .int .i64 J]) w) := by
  have := rjoin_any v l w hT (fun x hx => by have := ht x hx; omega)
  rw [h] at this; exact this
theorem sameI {va vb : Value} {a b : List RT} (h : a = b) (w : World) (ha : Toks w va a) (hb : Toks w vb b) : Calls Tryd.prog 12 #[va, vb] w (Ret (.bool true) w) := by
  have := rsame_any va vb a b w ha hb
  rw [decide_eq_true h] at this; exact this
theorem fewI {v : Value} {l : List RT} {b : Bool} (h : fewF l = b) (w : World) (hT : Toks w v l) : Calls Tryd.prog 9 #[v] w (Ret (.bool b) w) := by
  have := few_any v l w hT
  rw [h] at this; exact this
theorem rightI {v : Value} {l : List RT} {b : Bool} (h : canF l = b) (w : World) (hT : Toks w v l) (ht : ∀ x ∈ l, x.t.length ≤ 20000) : Calls Tryd.prog 15 #[v] w (Ret (.bool b) w) := by
  have := rright_any v l w hT (fun x hx => by have := ht x hx; omega)
  rw [h] at this; exact this
theorem tok_texts (s : List UInt8) : ∀ x ∈ (tokP s).1.map Tok.rt, x.t.length ≤ 20000 := by
  intro x hx
  obtain ⟨y, hy, rfl⟩ := List.mem_map.1 hx
  exact (tok_fine s y hy).2.2.2.2
theorem few_texts {l : List RT} (h : fewF l = true) : ∀ x ∈ l, x.t.length ≤ 20000 := fun x hx => by have := (few_short h).2 x hx; omega
theorem belT {w0 w1 w2 : World} (h : Below w0.heap.size w0 w1) (h2 : Below w1.heap.size w1 w2) : Below w0.heap.size w0 w2 := h.trans (h2.mono h.size)
end Go.Proofs.YtfnclecfldddeaaDoor
