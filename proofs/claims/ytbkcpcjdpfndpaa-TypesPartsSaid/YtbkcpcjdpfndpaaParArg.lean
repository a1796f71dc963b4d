/-
  An argument that is an expression: the tree that it reads.
-/
import Derived.Test.YtbkcpcjdpfndpaaParTree
import Derived.Test.YtbkcpcjdpfndpaaLexArg
import Derived.ChangeArms
namespace Go.Proofs.Ytbkcpcjdpfndpaa
open Go.ChangeShapes Go.WideShapes Go.RowKit Go.Deep
set_option maxRecDepth 100000

theorem tree_trod {H : Type} {enc : TypeId × Value → H} {W : World} {base : Nat} {spare : Nat → Bool} {held : Bool} (fuel : Nat) : ∀ {cs : List Value} {x : DataW H × List MemPlace}, DataW.trod enc Try.prog W base spare held fuel 24 cs = some x →
    ∃ v0 v1 v2 e, cs = [v0, v1, v2] ∧ Tree (fun _ => False) W e (.agg #[v0, v1, v2]) := by
  induction fuel using Nat.strongRecOn with
  | ind fuel ih =>
    intro cs x h
    have hce : Try.prog.cellsOf 24 = 3 := by kernel_rfl
    have hci : Try.prog.cellsOf 3 = 1 := by kernel_rfl
    have hcs' : Try.prog.cellsOf 22 = 1 := by kernel_rfl
    obtain ⟨xs, n, hn, _, hl, hlen, hf⟩ := DataW.trod_struct Try.underlying24 h
    rw [hce] at hl
    match xs, hlen with
    | [y0, y1, y2], _ =>
      match cs, hl with
      | [v0, v1, v2], _ =>
        have g0' : DataW.trod enc Try.prog W base spare held n 3 [v0] = some y0 := by
          have g : DataW.trod enc Try.prog W base spare held n 3 (([v0, v1, v2].drop 0).take (Try.prog.cellsOf 3)) = some y0 := hf 0 _ rfl
          rw [hci] at g
          exact g
        have g1' : DataW.trod enc Try.prog W base spare held n 3 [v1] = some y1 := by
          have g : DataW.trod enc Try.prog W base spare held n 3 (([v0, v1, v2].drop 1).take (Try.prog.cellsOf 3)) = some y1 := hf 1 _ rfl
          rw [hci] at g
          exact g
        have g2' : DataW.trod enc Try.prog W base spare held n 22 [v2] = some y2 := by
          have g : DataW.trod enc Try.prog W base spare held n 22 (([v0, v1, v2].drop 2).take (Try.prog.cellsOf 22)) = some y2 := hf 2 _ rfl
          rw [hcs'] at g
          exact g
        obtain ⟨x0, e0, _, _⟩ := DataW.trod_int Try.underlying3 g0'
        obtain ⟨x1, e1, _, _⟩ := DataW.trod_int Try.underlying3 g1'
        simp at e0 e1
        subst e0 e1
        rcases DataW.trod_slice Try.underlying22 g2' with ⟨e2, _⟩ | ⟨a, len, cap, elems, rest, m, hm, e2, _, _, hlc, hcm, hel, hev, _⟩
        · simp at e2
          subst e2
          exact ⟨_, _, _, leafE x0 x1, rfl, tree_leaf _ _ _ _ _ _⟩
        · simp at e2
          subst e2
          have each : ∀ i, i < len → ∃ q : Xp × Value × Value × Value, W.cell? (a.add (i * 3)) = some q.2.1 ∧ W.cell? (a.add (i * 3 + 1)) = some q.2.2.1 ∧ W.cell? (a.add (i * 3 + 2)) = some q.2.2.2 ∧ Tree (fun _ => False) W q.1 (.agg #[q.2.1, q.2.2.1, q.2.2.2]) := by
            intro i hi
            have h1 := hev i hi
            rw [hce, List.getElem?_eq_getElem (by omega)] at h1
            obtain ⟨cs', hc', h2⟩ := Option.bind_eq_some_iff.1 h1
            obtain ⟨w0, w1, w2, e, rfl, ht⟩ := ih m (by omega) h2
            obtain ⟨_, _, hcell⟩ := World.cells?_some hc'
            have c0 := hcell 0 (by simp)
            have c1 := hcell 1 (by simp)
            have c2 := hcell 2 (by simp)
            rw [ladd_add] at c0 c1 c2
            exact ⟨(e, w0, w1, w2), by simpa using c0, by simpa using c1, by simpa using c2, ht⟩
          haveI : Inhabited (Xp × Value × Value × Value) := ⟨(leafE 0 0, .nilIface, .nilIface, .nilIface)⟩
          obtain ⟨X, hX⟩ := choose_lt each
          have hll : ((List.range len).map fun i => (X i).1).length = len := by simp
          refine ⟨_, _, _, .mk x0 x1 ((List.range len).map fun i => (X i).1), rfl, tree_mk.2 ⟨some a, cap, by rw [hll], by rw [hll]; unfold maxLen at hcm; omega, ?_⟩⟩
          by_cases hz : len = 0
          · subst hz; simp [Trees]
          · have hb : a.block < W.heap.size := by
              have := lblock_lt (hX 0 (by omega)).1
              rwa [lblk_add] at this
            refine trees_of hb (fun hf => hf) fun k hk => ?_
            have hk' : k < len := by rw [hll] at hk; exact hk
            obtain ⟨g0, g1, g2, g3⟩ := hX k hk'
            rw [Nat.zero_add]
            exact ⟨_, _, _, g0, g1, g2, by simpa using g3⟩
/-- the value of an argument of type api.Expr, as the call is handed it -/
theorem tree_of_trod {H : Type} {enc : TypeId × Value → H} {W : World} {base b0 : Nat} {r : Reach} {spare : Nat → Bool} {held : Bool} {v : Value} {d : DataW H} {ps : List MemPlace}
    (hv : Value.okWide Try.prog W r b0 24 v) (h : DataW.Trod enc Try.prog W base spare held 24 v d ps) : ∃ e, Tree (fun _ => False) W e v := by
  obtain ⟨cs, rfl, _⟩ := okWide_struct Try.underlying24 hv
  obtain ⟨fuel, hf⟩ := h
  obtain ⟨u0, u1, u2, e, he, ht⟩ := tree_trod fuel hf
  have hcs : cs = #[u0, u1, u2] := by
    have : cs.toList = [u0, u1, u2] := he
    cases cs; simpa using this
  subst hcs
  exact ⟨e, ht⟩
end Go.Proofs.Ytbkcpcjdpfndpaa
