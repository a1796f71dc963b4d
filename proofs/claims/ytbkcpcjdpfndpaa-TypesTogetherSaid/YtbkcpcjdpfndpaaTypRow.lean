/-
  Expressions in a row of the call's own: what the laws that make one need.
-/
import Derived.Test.YtbkcpcjdpfndpaaTypApp
import Derived.Deep.MidRow
namespace Go.Proofs.Ytbkcpcjdpfndpaa
open Go.RowKit Go.Shelf
set_option maxRecDepth 100000
set_option linter.unusedVariables false

theorem Try.infoExprT : (Try.prog.info? 24).map (fun i => (i.zero, i.size, i.bytes)) = some (some (.agg #[.int .i64 0, .int .i64 0, .slice none 0 0]), 3, 40) := by kernel_rfl
theorem own_emptyT (w : World) (B : Nat) (h : B ≤ w.heap.size) : (w.alloc (.cells #[] 24)).ownsRow B 24 3 (.slice (some ⟨w.heap.size, 0, none⟩) 0 0) 0 [] :=
  ⟨rfl, .inr ⟨w.heap.size, 0, #[], rfl, h, by simp only [World.alloc, Array.getElem?_push_size], Nat.le_refl _, Nat.zero_le _, rfl, rfl⟩⟩
theorem own_emptyS (w : World) (B g : Nat) (hg : w.heap.size = g) (h : B ≤ g) : (w.alloc (.cells #[] 24)).ownsRow B 24 3 (.slice (some ⟨g, 0, none⟩) 0 0) 0 [] := by subst hg; exact own_emptyT w B h
theorem Trees.below {Q : Nat → Prop} {w w' : World} {l : List Xp} {ad : Option Addr} {i : Nat} (h : Trees Q w l ad i) (hb : Below w.heap.size w w') : Trees Q w' l ad i := Trees.go hb.size (fun k hk hq => ⟨hb.block k hk, hq⟩) h
/-- the blocks from n on are barred -/
def Hi (n : Nat) : Nat → Prop := fun k => n ≤ k
theorem tree_hi {Q : Nat → Prop} {w w' : World} {e : Xp} {v : Value} (h : Tree Q w e v) (hb : Below w.heap.size w w') : Tree (Hi w.heap.size) w' e v :=
  Tree.go hb.size (fun k hk _ => ⟨hb.block k hk, by unfold Hi; omega⟩) h
theorem xsc_hi {Q : Nat → Prop} {w w' : World} {l : List Xp} {c : List Value} (h : XsC Q w l c) (hb : Below w.heap.size w w') : XsC (Hi w.heap.size) w' l c :=
  h.go hb.size (fun k hk _ => ⟨hb.block k hk, by unfold Hi; omega⟩)
theorem XsC.one {Q : Nat → Prop} {w : World} : ∀ {l : List Xp} {c : List Value}, XsC Q w l c → ∀ u ∈ c, u.oneCell' = true
  | [], _, h, u, hu => by rw [h] at hu; cases hu
  | e :: r, _, ⟨v0, v1, v2, c2, h, ht, h2⟩, u, hu => by
    obtain ⟨ad, cap, hv, _, _⟩ := ht.shape
    simp only [Value.agg.injEq, Array.mk.injEq, List.cons.injEq, and_true] at hv
    obtain ⟨rfl, rfl, rfl⟩ := hv
    rw [h] at hu
    simp only [List.mem_cons] at hu
    rcases hu with rfl | rfl | rfl | hu
    · rfl
    · rfl
    · rfl
    · exact h2.one u hu
theorem valid_le {x : Xp} (h : validF x = true) : x.ks.length ≤ 3 := by
  obtain ⟨o, n, l⟩ := x
  have h1 : okE (.mk o n l) = true := by
    unfold validF at h
    simp only [Bool.and_eq_true, decide_eq_true_eq] at h
    first | exact h.1 | exact h.2 | exact h.1.1 | exact h.1.2 | exact h.2.1 | exact h.2.2
  rw [okE_mk, Bool.and_eq_true] at h1
  exact kids_le h1.1
/-- a row that is not empty -/
theorem town_some {w : World} {base : Nat} {e : TypeId} {size n : Nat} {v : Value} {xs : List Value} (h : w.ownsRow base e size v n xs) (hn : 0 < n) : ∃ g cap, v = .slice (some ⟨g, 0, none⟩) n cap ∧ n ≤ cap ∧ base ≤ g ∧ g < w.heap.size ∧ Own w g xs := by
  obtain ⟨_, ⟨_, h1⟩ | ⟨g, cap, cur, rfl, hg, hh, hcap, hr⟩⟩ := id h
  · omega
  · exact ⟨g, cap, rfl, by omega, hg, (Array.getElem?_eq_some_iff.1 hh).1, own_of_row h⟩
theorem drR (w : World) : Below w.heap.size w w.drew := (Below.refl w.heap.size w).drew
theorem drew_sizeR (w : World) : w.drew.heap.size = w.heap.size := rfl
theorem own_newR (w : World) (xs : List Value) (t : TypeId) : Own (w.alloc (.cells xs.toArray t)) w.heap.size xs := by have := Own.new w xs.toArray t; simpa using this
/-- one of the kids, as a walk reads it -/
theorem Trees.reads0 {Q : Nat → Prop} {w : World} {l : List Xp} {a : Addr} (h : Trees Q w l (some a) 0) (k : Nat) (hk : k < l.length) : ∃ ad2 cap2, w.cell? (a.add (k * 3)) = some (.int .i64 (l[k]).o) ∧ w.cell? { block := (a.add (k * 3)).block, off := (a.add (k * 3)).off + 1 } = some (.int .i64 (l[k]).n) ∧ w.cell? { block := (a.add (k * 3)).block, off := (a.add (k * 3)).off + 2 } = some (.slice ad2 (l[k]).ks.length cap2) ∧ Tree Q w l[k] (.agg #[.int .i64 (l[k]).o, .int .i64 (l[k]).n, .slice ad2 (l[k]).ks.length cap2]) ∧ (a.add (k * 3)).block < w.heap.size := by
  obtain ⟨a', ad2, cap2, ha, h0, h1, h2, h3, h4⟩ := h.reads k hk
  cases ha
  exact ⟨ad2, cap2, h0, h1, h2, h3, h4⟩
/-! ### A load of many cells, as one step -/
section
variable {P : Program}
theorem run_loadVar_atT (w : World) (p : Addr) (ty : TypeId) (cs : List Value) (d : TypeDesc) (hc : ∀ j v, cs[j]? = some v → w.cell? (p.add j) = some v)
    (hu : P.underlying ty = some d) (hd : d.isRow = true) (hi : (P.info? ty).map (·.size) = some cs.length) : (loadVar ty p).run P w = .ok (.agg cs.toArray) w := by
  have hl : (loadCells p cs.length).run P w = .ok cs.toArray w := run_loadCells_list (P := P) w p cs hc
  cases hq : P.info? ty with
  | none => simp [hq] at hi
  | some i =>
    have hs : i.size = cs.length := by simpa [hq] using hi
    have hagg : (isAgg ty).run P w = .ok true w := by
      unfold isAgg
      rw [Sem.run_bind, run_underlying hu w]
      cases d <;> simp_all
    simp [loadVar, Sem.run_bind, hagg, sizeOf, typeInfo, hq, hs, hl]
theorem wpList_load_atT {ops : Array Oper} {rest : List Oper} {op : Oper} {a : Act} {w : World} {Q : Exit → Act → World → Prop} (hgd : op.guard = none) (ty : TypeId) (x : Operand) (ho : op.op = .load ty x)
    (p : Addr) (hx : a.eval x = .pointer (some p)) (cs : List Value) (d : TypeDesc) (hc : ∀ j v, cs[j]? = some v → w.cell? (p.add j) = some v)
    (hu : P.underlying ty = some d) (hd : d.isRow = true) (hi : (P.info? ty).map (·.size) = some cs.length)
    (h : wpList P ops Q rest (a.put op.dst (.agg cs.toArray)) w) : wpList P ops Q (op :: rest) a w :=
  wpList_plain hgd fun K hK => by
    unfold Oper.wp execOp
    simp only [ho, hx, Instr.loadAt, Instr.sureAddr, Sem.run_bind, Sem.run_pure, Result.andThen_ok, run_loadVar_atT w p ty cs d hc hu hd hi]
    exact hK _ _ h
theorem wpList_load_atG {ops : Array Oper} {rest : List Oper} {op : Oper} {a : Act} {w : World} {Q : Exit → Act → World → Prop} (hgd : Region.wanted op (yielded ops a.tmps) = true) (ty : TypeId) (x : Operand) (ho : op.op = .load ty x)
    (p : Addr) (hx : a.eval x = .pointer (some p)) (cs : List Value) (d : TypeDesc) (hc : ∀ j v, cs[j]? = some v → w.cell? (p.add j) = some v)
    (hu : P.underlying ty = some d) (hd : d.isRow = true) (hi : (P.info? ty).map (·.size) = some cs.length)
    (h : wpList P ops Q rest (a.put op.dst (.agg cs.toArray)) w) : wpList P ops Q (op :: rest) a w :=
  wpList_step fun K hK => by
    rw [if_pos hgd]
    unfold Oper.wp execOp
    simp only [ho, hx, Instr.loadAt, Instr.sureAddr, Sem.run_bind, Sem.run_pure, Result.andThen_ok, run_loadVar_atT w p ty cs d hc hu hd hi]
    exact hK _ _ h
end
/-- the cells of a block, as such a load wants them -/
theorem Own.rangeT {w : World} {B : Nat} {xs : List Value} (h : Own w B xs) : ∀ j v, xs[j]? = some v → w.cell? ((⟨B, 0, none⟩ : Addr).add j) = some v := fun j v hj => by rw [xadd_zero0]; exact h.cell j v hj
theorem Try.sizeRateT : (Try.prog.info? 30).map (·.size) = some 16 := by kernel_rfl
/-- a remainder -/
theorem rem_i64 (a b : Nat) (hb : b ≠ 0) (w : World) : (binOp .rem 3 (.int .i64 (a : Nat)) (.int .i64 (b : Nat))).run Try.prog w = .ok (.int .i64 ((a % b : Nat))) w := by
  have h1 : Int.tmod (a : Int) (b : Int) = ((a % b : Nat) : Int) := by rw [Int.tmod_eq_emod_of_nonneg (by omega)]; rfl
  have h2 : ((b : Int) == 0) = false := by rw [beq_eq_false_iff_ne]; omega
  simp [binOp, go_sem, h1, hb]
end Go.Proofs.Ytbkcpcjdpfndpaa
