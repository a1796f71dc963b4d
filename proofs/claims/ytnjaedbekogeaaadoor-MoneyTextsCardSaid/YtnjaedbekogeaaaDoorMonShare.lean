/-
  The walks of divider, its closure, and Share.
-/
import Derived.Test.YtnjaedbekogeaaaDoorMonSum
import Derived.Test.YtnjaedbekogeaaaDoorMonText
import Derived.Test.YtnjaedbekogeaaaDoorKitSet
import Derived.Laws.MakeOwn
namespace Go.Proofs.YtnjaedbekogeaaaDoor
open Go.RowKit Go.Shelf
set_option maxRecDepth 100000

theorem mmade_list (n : Nat) (z : Value) : (madeCells #[z] n).toList = List.replicate n z := by
  refine List.ext_getElem (by simp [madeCells]) fun i h1 h2 => ?_
  simp [madeCells, Nat.mod_one]
theorem mset_at {w : World} {B i : Nat} {xs : List Value} (h : Own w B xs) (v : Value) (hi : i < xs.length) : Own (w.setCell ⟨B, i, none⟩ v) B (xs.set i v) := by
  refine ⟨fun j x hj => ?_, fun j x hj => ?_, by simpa using h.lt⟩
  · by_cases e : i = j
    · subst e
      rw [List.getElem?_set_self hi] at hj
      cases hj
      exact World.cell?_setCell_same _ _ _ (h.cell i xs[i] (List.getElem?_eq_getElem hi))
    · rw [List.getElem?_set_ne e] at hj
      rw [World.cell?_setCell_other _ _ _ _ (by simp)]
      exact h.cell j x hj
  · have hj' : j < xs.length := by
      have := (List.getElem?_eq_some_iff.1 hj).1
      simpa using this
    rw [World.frozen?_setCell]
    exact h.fro j xs[j] (List.getElem?_eq_getElem hj')
theorem mset_one {w : World} {B : Nat} {x : Value} (h : Own w B [x]) (v : Value) : Own (w.setCell ⟨B, 0, none⟩ v) B [v] := mset_at h v (by simp)

/-- the four cells of a divider: the amount, the sum of the weights, the weights taken, what was given -/
structure Div (w : World) (b : Nat) (G S c T : Int) : Prop where
  amount : Own w b [.int .i64 c]
  total : Own w (b + 1) [.int .i64 T]
  taken : Own w (b + 2) [.int .i64 S]
  given : Own w (b + 3) [.int .i64 G]
theorem Div.below {w w1 : World} {b : Nat} {G S c T : Int} (h : Div w b G S c T) (hb : Below w.heap.size w w1) : Div w1 b G S c T := ⟨h.1.below hb, h.2.below hb, h.3.below hb, h.4.below hb⟩
def divV (b : Nat) : Value := .func (.func 45) #[] #[.pointer (some ⟨b + 3, 0, none⟩), .pointer (some ⟨b + 2, 0, none⟩), .pointer (some ⟨b, 0, none⟩), .pointer (some ⟨b + 1, 0, none⟩)]
theorem Div.set {w : World} {b : Nat} {G S c T : Int} (h : Div w b G S c T) (G' S' : Int) : Div ((w.setCell ⟨b + 2, 0, none⟩ (.int .i64 S')).setCell ⟨b + 3, 0, none⟩ (.int .i64 G')) b G' S' c T :=
  ⟨(h.1.setCell (p := ⟨b + 2, 0, none⟩) (by simp) _).setCell (p := ⟨b + 3, 0, none⟩) (by simp) _, (h.2.setCell (p := ⟨b + 2, 0, none⟩) (by simp) _).setCell (p := ⟨b + 3, 0, none⟩) (by simp) _,
   (mset_one h.3 _).setCell (p := ⟨b + 3, 0, none⟩) (by simp) _, mset_one (h.4.setCell (p := ⟨b + 2, 0, none⟩) (by simp) _) _⟩

set_option maxHeartbeats 400000 in
theorem divider_any (c T : Int) (w : World) : Calls Tryd.prog 32 #[.int .i64 c, .int .i64 T] w fun e w' => e = .returned (divV w.heap.size) ∧ Div w' w.heap.size 0 0 c T ∧ Below w.heap.size w w' ∧ w'.heap.size = w.heap.size + 4 := by
  have hmf : ∀ (fn : Fn) (first cap : Array Value) (w : World), (Instr.makeFunc fn first cap).run Tryd.prog w = .ok (.func fn first cap) w := fun _ _ _ _ => rfl
  go_enter Tryd.func32, Tryd.ntmps32
  go_wp2_with fail
  go_ret
  refine ⟨rfl, ⟨?_, ?_, ?_, ?_⟩, by (repeat (first | exact Below.refl _ _ | assumption | refine Below.drew ?_ | refine below_drewN ?_ _ | refine Below.setCell ?_ (by first | omega | (simp <;> omega)) _ | refine Below.alloc ?_ (by first | omega | (simp <;> omega)) _)), by simp⟩
  · exact ((((Own.new w #[.int .i64 c] 3).alloc _).alloc _).alloc _)
  · exact (((Own.at (w.alloc _) #[.int .i64 T] 3 (w.heap.size + 1) (by simp)).alloc _).alloc _)
  · exact ((Own.at ((w.alloc _).alloc _) #[.int .i64 0] 3 (w.heap.size + 2) (by simp)).alloc _)
  · exact (Own.at (((w.alloc _).alloc _).alloc _) #[.int .i64 0] 3 (w.heap.size + 3) (by simp))

set_option maxHeartbeats 400000 in
theorem mnext_at (b : Nat) (G S c T x : Int) (w : World) (h : Div w b G S c T) (hc : -1000000000 ≤ c ∧ c ≤ 1000000000) (hS : 0 ≤ S) (hx : 0 ≤ x) (hSx : S + x ≤ 1000000000) (hT : 1 ≤ T ∧ T ≤ 1000000000) (hG : -1000000000000000000 ≤ G ∧ G ≤ 1000000000000000000) :
    Calls Tryd.prog 45 #[.int .i64 x, .pointer (some ⟨b + 3, 0, none⟩), .pointer (some ⟨b + 2, 0, none⟩), .pointer (some ⟨b, 0, none⟩), .pointer (some ⟨b + 1, 0, none⟩)] w
      fun e w' => e = .returned (.int .i64 (c * (S + x) / T - G)) ∧ w' = (w.setCell ⟨b + 2, 0, none⟩ (.int .i64 (S + x))).setCell ⟨b + 3, 0, none⟩ (.int .i64 (c * (S + x) / T)) := by
  obtain ⟨hm1, hm2⟩ := mul_bd (X := 1000000000) (Y := 1000000000) hc.1 hc.2 (show -1000000000 ≤ S + x by omega) hSx
  have hq := div_le (c * (S + x)) T hT.1 1000000000000000000 (by omega) (by omega) (by omega)
  obtain ⟨hq1, hq2⟩ := hq
  obtain ⟨a0, a1, a2⟩ := h.1.one
  obtain ⟨t0, t1, t2⟩ := h.2.one
  obtain ⟨s0, s1, s2⟩ := h.3.one
  obtain ⟨g0, g1, g2⟩ := h.4.one
  have hfl := floor_any (c * (S + x)) T (w.setCell ⟨b + 2, 0, none⟩ (.int .i64 (S + x))) (by omega) (by omega) hT.1 (by omega)
  generalize c * (S + x) / T = q at *
  clear h
  go_enter Tryd.func45, Tryd.ntmps45
  go_wp2_with (go_at_call 46; refine hfl.mono ?_; rintro e w' ⟨rfl, rfl⟩)
  go_ret
  exact ⟨rfl, rfl⟩
end Go.Proofs.YtnjaedbekogeaaaDoor
