/-
  An argument that is a slice of exchanges: what it reads.
-/
import Derived.Test.YtnjaedbekogeaaaDoorMonA
import Derived.Test.YtnjaedbekogeaaaDoorDigArg
import Derived.Deep.Slices
import Derived.Deep.Strs
import Derived.ChangeSame
namespace Go.Proofs.YtnjaedbekogeaaaDoor
open Go.ChangeShapes Go.WideShapes Go.RowKit Go.Deep
set_option maxRecDepth 100000

theorem exs_of_trod {H : Type} {enc : TypeId × Value → H} {W : World} {base : Nat} {held : Bool} {p : Option Addr} {n c : Nat} {d : DataW H} {ps : List MemPlace}
    (h : DataW.Trod enc Tryd.prog W base (fun _ => true) held 22 (.slice p n c) d ps) : ∃ l, Exs W (.slice p n c) l := by
  obtain ⟨fuel, hf⟩ := h
  have hce : Tryd.prog.cellsOf 53 = 4 := by kernel_rfl
  have hcr : Tryd.prog.cellsOf 40 = 2 := by kernel_rfl
  have hci : Tryd.prog.cellsOf 3 = 1 := by kernel_rfl
  rcases open_slice Tryd.underlying22 hf with ⟨hcs, _⟩ | ⟨a, len, cap, m, k, D, Pl, hcs, hbl, hlc, hcm, hm, _, hall⟩
  · simp [Value.cells] at hcs
    obtain ⟨rfl, rfl, rfl⟩ := hcs
    exact ⟨[], ⟨_, _, rfl⟩, fun _ _ _ _ i hi => by simp at hi, fun s hs => (by cases hs), by simp⟩
  · simp [Value.cells] at hcs
    obtain ⟨rfl, rfl, rfl⟩ := hcs
    simp only [if_true] at hm
    subst hm
    have hint : ∀ i, i < n → ∃ x : Ex, W.cell? (a.add (i * 4)) = some (.int .i64 x.f) ∧ W.cell? (a.add (i * 4 + 1)) = some (.int .i64 x.t) ∧ W.cell? (a.add (i * 4 + 2)) = some (.int .i64 x.n) ∧ W.cell? (a.add (i * 4 + 3)) = some (.int .i64 x.d) ∧
        (I64 x.f ∧ I64 x.t ∧ I64 x.n ∧ I64 x.d) := by
      intro i hi
      obtain ⟨cs', h1, h2⟩ := hall i (by omega)
      rw [hce] at h1
      obtain ⟨_, hlen, hcell⟩ := World.cells?_some h1
      obtain ⟨y0, y1, y2, k1, _, _, g0, g1, g2⟩ := trod_struct3 Tryd.underlying53 h2
      match cs', hlen with
      | [v0, v1, v2, v3], _ =>
        simp only [hci, hcr] at g0 g1 g2
        obtain ⟨z0, z1, k2, _, _, g3, g4⟩ := trod_struct2 Tryd.underlying40 g2
        simp only [hci] at g3 g4
        obtain ⟨x0, e0, _, w0⟩ := DataW.trod_int Tryd.underlying3 g0
        obtain ⟨x1, e1, _, w1⟩ := DataW.trod_int Tryd.underlying3 g1
        obtain ⟨x2, e2, _, w2⟩ := DataW.trod_int Tryd.underlying3 g3
        obtain ⟨x3, e3, _, w3⟩ := DataW.trod_int Tryd.underlying3 g4
        simp at e0 e1 e2 e3
        subst e0 e1 e2 e3
        simp only [Lit.wf, Bool.and_eq_true, decide_eq_true_eq] at w0 w1 w2 w3
        have c0 := hcell 0 (by omega)
        have c1 := hcell 1 (by omega)
        have c2 := hcell 2 (by omega)
        have c3 := hcell 3 (by omega)
        rw [add_add] at c0 c1 c2 c3
        exact ⟨⟨x0, x1, x2, x3⟩, by simpa using c0, by simpa using c1, by simpa using c2, by simpa using c3, w0, w1, w2, w3⟩
    haveI : Inhabited Ex := ⟨⟨0, 0, 0, 0⟩⟩
    obtain ⟨X, hX⟩ := choose_lt hint
    refine ⟨(List.range n).map X, ⟨some a, m, by simp⟩, fun ad n' cap' e i hi => ?_, fun s hs => ?_, by unfold maxLen at hcm; simp; omega⟩
    · cases e
      have hi' : i < n := by simpa using hi
      obtain ⟨g0, g1, g2, g3, _⟩ := hX i hi'
      have hbk := block_lt g0
      rw [blk_add] at hbk
      refine ⟨a, rfl, hbk, ?_, ?_, ?_, ?_⟩
      · rw [g0]; simp
      · rw [g1]; simp
      · rw [g2]; simp
      · rw [g3]; simp
    · simp only [List.mem_map, List.mem_range] at hs
      obtain ⟨i, hi, rfl⟩ := hs
      exact (hX i hi).2.2.2.2
end Go.Proofs.YtnjaedbekogeaaaDoor
