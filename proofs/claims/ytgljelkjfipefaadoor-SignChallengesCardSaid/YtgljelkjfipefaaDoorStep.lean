/-
  append at a step of a region that draws its order, for rows of the call's own.
-/
import Derived.Test.YtgljelkjfipefaaDoorDigN
import Derived.Deep.AppendLies
import Derived.RegionTactic
namespace Go.Proofs.YtgljelkjfipefaaDoor
open Go.RowKit Go.Shelf Go.Lib

theorem step_row {ops : Array Oper} {o : Oper} {a : Act} {K : Act → World → Prop} {Q : Exit → Act → World → Prop} {E : Prop} (w : World) (hgd : o.guard = none) (s x : Operand) (t : TypeId)
    (ho : o.op = .call { callee := .builtin .append, args := #[s, x], argTypes := #[t, t] })
    (base : Nat) (e : TypeId) (z : Value) (bytes : Nat) (ht : Tryd.prog.underlying t = some (.slice e)) (hi : (Tryd.prog.info? e).map (fun i => (i.zero, i.size, i.bytes)) = some (some z, 1, bytes)) (hz : z.cells.size = 1) (h24 : bytes ≤ 24)
    (v : Value) (xs : List Value) (hs : a.eval s = v) (hown : OwnRow w base e v xs) (vx : Value) (ys : List Value) (hx : a.eval x = vx) (hr : Row w vx ys) (h1 : ∀ u ∈ ys, u.oneCell' = true)
    (hlim : xs.length + ys.length ≤ 1000000000) (hB : base ≤ w.heap.size)
    (h : ∀ v' w', OwnRow w' base e v' (xs ++ ys) → Below base w w' → K (a.put o.dst v') w') : if Region.wanted o (yielded ops a.tmps) = true then Oper.wp Tryd.prog o a w K Q else E := by
  have hwt : Region.wanted o (yielded ops a.tmps) = true := by simp [Region.wanted, hgd]
  rw [if_pos hwt]
  obtain ⟨i, hi, hz0, hz1, hz2⟩ := info_parts hi
  obtain ⟨ad, cap, rfl⟩ := hr.shape
  cases ad with
  | none =>
    obtain ⟨h0, rfl⟩ := hr.bare _ _ rfl
    rw [h0] at hx
    rw [List.length_eq_zero_iff] at h0
    subst h0
    have hrun := run_append_owned_none (P := Tryd.prog) (w := w) base t o.type e i 1 ht hi v _ xs hown
    have := h v w (by rw [List.append_nil]; exact hown) (Below.refl _ _)
    unfold Oper.wp
    simp [execOp, ho, resolve, invoke, builtin, hs, hx, hrun, Result.andThen]
    exact this
  | some ad =>
    refine wp_append_own w s x t ho base e i z 1 bytes ht hi hz0 hz1 hz2 hz (by decide) v xs.length xs hs hown ad ys.length cap ys hx (by simp) ?_ h1 (by unfold maxLen; omega) (by have := Nat.mul_le_mul hlim h24; omega) hB ?_
    · intro j u hj
      obtain ⟨hl, rfl⟩ := List.getElem?_eq_some_iff.1 hj
      obtain ⟨a', e', _, hc⟩ := hr.cells _ _ _ rfl j hl
      cases e'; exact hc
    · intro v' w' hown' hg _
      exact h v' w' (by unfold OwnRow; rw [List.length_append]; exact hown') (grown_below hown hg hB)
end Go.Proofs.YtgljelkjfipefaaDoor
