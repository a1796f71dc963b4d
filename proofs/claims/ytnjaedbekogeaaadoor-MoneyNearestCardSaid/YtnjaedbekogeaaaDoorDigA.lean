/-
  What carries a digest on; who feeds it; Sum.
-/
import Derived.Test.YtnjaedbekogeaaaDoorDigPlain
import Derived.LoopN
import Derived.Laws.Bits64
namespace Go.Proofs.YtnjaedbekogeaaaDoor
open Go.RowKit

theorem stp_int (d : UInt64) (x : UInt8) : IntKind.u64.wrap (bits BinOp.xor IntKind.u64 (d.toNat : Int) (IntKind.u64.wrap (x.toNat : Int)) * 1099511628211) = ((stp d x).toNat : Int) := by
  have hd := d.toNat_lt
  have hx := x.toNat_lt
  rw [IntKind.wrap_u64, IntKind.wrap_u64, show ((x.toNat : Int) % 18446744073709551616) = ((x.toNat : Nat) : Int) by omega, bits_xor_u64_nat _ _ (by omega) (by omega), stp_nat]
  omega

theorem set_own {w : World} {B : Nat} {v v' : Value} (h : Own w B [v]) : Own (w.setCell ⟨B, 0, none⟩ v') B [v'] := by
  obtain ⟨c, f, z⟩ := h.one
  refine ⟨fun i x hi => ?_, fun i x hi => ?_, by simpa using z⟩
  · match i, hi with
    | 0, hi => simp at hi; subst hi; exact World.cell?_setCell_same _ _ _ c
  · match i, hi with
    | 0, hi => simpa using f

theorem below_set {w : World} {B : Nat} (v : Value) : Below B w (w.setCell ⟨B, 0, none⟩ v) := Below.setCell (p := ⟨B, 0, none⟩) (Below.refl _ _) (Nat.le_refl _) v

theorem drop_cons {α : Type} {l : List α} {k : Nat} (h : k < l.length) : l.drop k = l[k] :: l.drop (k + 1) := (List.drop_eq_getElem_cons h)

end Go.Proofs.YtnjaedbekogeaaaDoor
