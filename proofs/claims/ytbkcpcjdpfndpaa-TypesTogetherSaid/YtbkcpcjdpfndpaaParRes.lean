/-
  Results of two, some of them in cells.
-/
import Derived.Test.YtbkcpcjdpfndpaaParTree
namespace Go.Proofs.Ytbkcpcjdpfndpaa
open Go.RowKit Go.Shelf
set_option maxRecDepth 100000

theorem loadVar_at {P : Program} {ty : TypeId} {d : TypeDesc} {vs : List Value} (hu : P.underlying ty = some d) (hd : (match d with | .struct _ | .array _ _ => true | _ => false) = true) (hi : (P.info? ty).map (·.size) = some vs.length)
    {B : Nat} {w : World} (ho : Own w B vs) : (loadVar ty ⟨B, 0, none⟩).run P w = .ok (.agg vs.toArray) w := by
  have hl : (loadCells ⟨B, 0, none⟩ vs.length).run P w = .ok vs.toArray w := run_loadCells_list (P := P) w ⟨B, 0, none⟩ vs (fun j v hv => by rw [xadd_zero0]; exact ho.cell j v hv)
  cases hq : P.info? ty with
  | none => simp [hq] at hi
  | some i =>
    have hs : i.size = vs.length := by simpa [hq] using hi
    have hagg : (isAgg ty).run P w = .ok true w := by
      unfold isAgg
      rw [Sem.run_bind, run_underlying hu w]
      cases d <;> simp_all
    simp [loadVar, Sem.run_bind, hagg, sizeOf, typeInfo, hq, hs, hl]
theorem results_cc {P : Program} {fn : Func} {p p2 : Tmp} {ty ty2 : TypeId} {B B2 : Nat} {a b : Value} {w : World} {tmps : Array Value} (h : fn.results = #[.cell p ty, .cell p2 ty2]) (hp : tmps.getD p undef = .pointer (some ⟨B, 0, none⟩)) (hp2 : tmps.getD p2 undef = .pointer (some ⟨B2, 0, none⟩))
    (h1 : (loadVar ty ⟨B, 0, none⟩).run P w = .ok a w) (h2 : (loadVar ty2 ⟨B2, 0, none⟩).run P w = .ok b w) : (results fn tmps).run P w = .ok (.tuple #[a, b]) w := by
  have hp' : tmps[p]?.getD undef = .pointer (some ⟨B, 0, none⟩) := by simpa using hp
  have hp2' : tmps[p2]?.getD undef = .pointer (some ⟨B2, 0, none⟩) := by simpa using hp2
  simp [results, h, hp', hp2', asAddr, h1, h2]
theorem results_ct {P : Program} {fn : Func} {p t : Tmp} {ty : TypeId} {B : Nat} {a : Value} {w : World} {tmps : Array Value} (h : fn.results = #[.cell p ty, .tmp t]) (hp : tmps.getD p undef = .pointer (some ⟨B, 0, none⟩))
    (h1 : (loadVar ty ⟨B, 0, none⟩).run P w = .ok a w) : (results fn tmps).run P w = .ok (.tuple #[a, tmps.getD t undef]) w := by
  have hp' : tmps[p]?.getD undef = .pointer (some ⟨B, 0, none⟩) := by simpa using hp
  simp [results, h, hp', asAddr, h1]
theorem results_tc {P : Program} {fn : Func} {p t : Tmp} {ty : TypeId} {B : Nat} {a : Value} {w : World} {tmps : Array Value} (h : fn.results = #[.tmp t, .cell p ty]) (hp : tmps.getD p undef = .pointer (some ⟨B, 0, none⟩))
    (h1 : (loadVar ty ⟨B, 0, none⟩).run P w = .ok a w) : (results fn tmps).run P w = .ok (.tuple #[tmps.getD t undef, a]) w := by
  have hp' : tmps[p]?.getD undef = .pointer (some ⟨B, 0, none⟩) := by simpa using hp
  simp [results, h, hp', asAddr, h1]
end Go.Proofs.Ytbkcpcjdpfndpaa
