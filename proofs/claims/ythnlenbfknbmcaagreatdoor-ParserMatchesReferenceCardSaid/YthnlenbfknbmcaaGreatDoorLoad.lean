/-
  A load of many cells, as one step.
-/
import Derived.Test.YthnlenbfknbmcaaGreatDoorQa
import Derived.Test.YthnlenbfknbmcaaGreatDoorProg
import Derived.Deep.MidRow
import Derived.Deep.Slices
import Derived.Lib.Hide
namespace Go.Proofs.YthnlenbfknbmcaaGreatDoor
open Go.RowKit
set_option maxRecDepth 100000

section
variable {P : Program}
theorem run_loadVar_atL (w : World) (p : Addr) (ty : TypeId) (cs : List Value) (d : TypeDesc) (hc : ∀ j v, cs[j]? = some v → w.cell? (p.add j) = some v)
    (hu : P.underlying ty = some d) (hd : d.isRow = true) (hi : (P.info? ty).map (·.size) = some cs.length) : (loadVar ty p).run P w = .ok (.agg cs.toArray) w := by
  have hl : (loadCells p cs.length).run P w = .ok cs.toArray w := run_loadCells_list (P := P) w p cs hc
  cases hq : P.info? ty with
  | none => simp [hq] at hi
  | some i =>
    have hs : i.size = cs.length := by simpa [hq] using hi
    have hagg : (isAgg ty).run P w = .ok true w := by
      unfold isAgg
      rw [Sem.run_bind, run_underlying hu w]
      cases d <;> simp_all
    simp [loadVar, Sem.run_bind, hagg, sizeOf, typeInfo, hq, hs, hl]
theorem wpList_load_atL {ops : Array Oper} {rest : List Oper} {op : Oper} {a : Act} {w : World} {Q : Exit → Act → World → Prop} (hgd : Region.wanted op (yielded ops a.tmps) = true) (ty : TypeId) (x : Operand) (ho : op.op = .load ty x)
    (p : Addr) (hx : a.eval x = .pointer (some p)) (cs : List Value) (d : TypeDesc) (hc : ∀ j v, cs[j]? = some v → w.cell? (p.add j) = some v)
    (hu : P.underlying ty = some d) (hd : d.isRow = true) (hi : (P.info? ty).map (·.size) = some cs.length)
    (h : wpList P ops Q rest (a.put op.dst (.agg cs.toArray)) w) : wpList P ops Q (op :: rest) a w :=
  wpList_step fun K hK => by
    rw [if_pos hgd]
    unfold Oper.wp execOp
    simp only [ho, hx, Instr.loadAt, Instr.sureAddr, Sem.run_bind, Sem.run_pure, Result.andThen_ok, run_loadVar_atL w p ty cs d hc hu hd hi]
    exact hK _ _ h
end
/-- the cells of a block, as such a load wants them -/
theorem Own.rangeL {w : World} {B : Nat} {xs : List Value} (h : Own w B xs) : ∀ j v, xs[j]? = some v → w.cell? ((⟨B, 0, none⟩ : Addr).add j) = some v := fun j v hj => by rw [Addr.add_mid, Nat.zero_add]; exact h.cell j v hj
theorem Tryz.sizeRateL : (Tryz.prog.info? 52).map (·.size) = some 16 := by kernel_rfl
end Go.Proofs.YthnlenbfknbmcaaGreatDoor
