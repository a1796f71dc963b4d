/-
  An argument that is a slice of tokens: what it reads.
-/
import Derived.Test.YtfnclecfldddeaaDoorLexTok
import Derived.Deep.Slices
import Derived.Deep.Strs
import Derived.ChangeSame
import Derived.ChangeSlices
namespace Go.Proofs.YtfnclecfldddeaaDoor
open Go.ChangeShapes Go.WideShapes Go.RowKit Go.Deep
set_option maxRecDepth 100000

theorem ladd_add (a : Addr) (m n : Nat) : (a.add m).add n = a.add (m + n) := by
  induction n with
  | zero => unfold Addr.add; split <;> simp_all
  | succ n ih => rw [ladd_succ, ih, ← Nat.add_assoc, ladd_succ]
theorem lblock_lt {w : World} {a : Addr} {v : Value} (h : w.cell? a = some v) : a.block < w.heap.size := by
  unfold World.cell? at h
  rcases Nat.lt_or_ge a.block w.heap.size with hl | hg
  · exact hl
  · rw [Array.getElem?_eq_none hg] at h; cases h
theorem toks_of_trod {H : Type} {enc : TypeId × Value → H} {W : World} {base : Nat} {held : Bool} {p : Option Addr} {n c : Nat} {d : DataW H} {ps : List MemPlace}
    (h : DataW.Trod enc Tryd.prog W base (fun _ => true) held 22 (.slice p n c) d ps) : ∃ l, Toks W (.slice p n c) l := by
  obtain ⟨fuel, hf⟩ := h
  have hce : Tryd.prog.cellsOf 36 = 3 := by kernel_rfl
  have hci : Tryd.prog.cellsOf 3 = 1 := by kernel_rfl
  have hcs' : Tryd.prog.cellsOf 9 = 1 := by kernel_rfl
  rcases open_slice Tryd.underlying22 hf with ⟨hcs, _⟩ | ⟨a, len, cap, m, k, D, Pl, hcs, hbl, hlc, hcm, hm, _, hall⟩
  · simp [Value.cells] at hcs
    obtain ⟨rfl, rfl, rfl⟩ := hcs
    exact ⟨[], ⟨_, _, rfl⟩, fun _ _ _ _ i hi => by simp at hi, fun s hs => (by cases hs), by simp⟩
  · simp [Value.cells] at hcs
    obtain ⟨rfl, rfl, rfl⟩ := hcs
    simp only [if_true] at hm
    subst hm
    have hint : ∀ i, i < n → ∃ x : RT, W.cell? (a.add (i * 3)) = some (.int .i64 x.k) ∧ W.cell? (a.add (i * 3 + 1)) = some (.int .i64 x.n) ∧ W.cell? (a.add (i * 3 + 2)) = some (.string ⟨x.t.toArray⟩) ∧
        (I64 x.k ∧ I64 x.n ∧ x.t.length ≤ 9223372036854775807) := by
      intro i hi
      obtain ⟨cs', h1, h2⟩ := hall i (by omega)
      rw [hce] at h1
      obtain ⟨_, hlen, hcell⟩ := World.cells?_some h1
      obtain ⟨y0, y1, y2, k1, _, _, g0, g1, g2⟩ := trod_struct3 Tryd.underlying36 h2
      match cs', hlen with
      | [v0, v1, v2], _ =>
        simp only [hci, hcs'] at g0 g1 g2
        obtain ⟨x0, e0, _, w0⟩ := DataW.trod_int Tryd.underlying3 g0
        obtain ⟨x1, e1, _, w1⟩ := DataW.trod_int Tryd.underlying3 g1
        obtain ⟨x2, e2, _, w2⟩ := DataW.trod_string Tryd.underlying9 g2
        simp at e0 e1 e2
        subst e0 e1 e2
        simp only [Lit.wf, Bool.and_eq_true, decide_eq_true_eq] at w0 w1
        have c0 := hcell 0 (by omega)
        have c1 := hcell 1 (by omega)
        have c2 := hcell 2 (by omega)
        rw [ladd_add] at c0 c1 c2
        have hx2 : (⟨x2.data.toList.toArray⟩ : ByteArray) = x2 := congrArg ByteArray.mk (Array.toArray_toList (xs := x2.data))
        refine ⟨⟨x0, x1, x2.data.toList⟩, by simpa using c0, by simpa using c1, ?_, w0, w1, ?_⟩
        · simp only [hx2]; simpa using c2
        · have : x2.data.toList.length = x2.size := Array.length_toList
          unfold maxLen at w2
          show x2.data.toList.length ≤ _; omega
    haveI : Inhabited RT := ⟨⟨0, 0, []⟩⟩
    obtain ⟨X, hX⟩ := choose_lt hint
    refine ⟨(List.range n).map X, ⟨some a, m, by simp⟩, fun ad n' cap' e i hi => ?_, fun s hs => ?_, by unfold maxLen at hcm; simp; omega⟩
    · cases e
      have hi' : i < n := by simpa using hi
      obtain ⟨g0, g1, g2, _⟩ := hX i hi'
      have hbk := lblock_lt g0
      rw [lblk_add] at hbk
      refine ⟨a, rfl, hbk, ?_, ?_, ?_⟩
      · rw [g0]; simp
      · rw [g1]; simp
      · rw [g2]; simp
    · simp only [List.mem_map, List.mem_range] at hs
      obtain ⟨i, hi, rfl⟩ := hs
      exact (hX i hi).2.2.2
end Go.Proofs.YtfnclecfldddeaaDoor
