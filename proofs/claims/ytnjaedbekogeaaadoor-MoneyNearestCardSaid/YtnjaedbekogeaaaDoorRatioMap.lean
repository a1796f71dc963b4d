/-
  A map with integer keys that a call has just made: inserted into, looked up.
-/
import Derived.Test.YtnjaedbekogeaaaDoorKit
import Derived.Maps.Own
namespace Go.Proofs.YtnjaedbekogeaaaDoor
open Go.RowKit

section
variable {P : Program} {t k e : TypeId} {q : IntKind}
theorem run_checkKey_int' (hk : P.underlying k = some (.int q)) (b : Bool) (n : Nat) (a : Int) (w : World) : (Instr.checkKey b (n + 1) k (.int q a)).run P w = .ok () w := by
  simp [Instr.checkKey, run_underlying hk]
theorem run_checkKey_int (hk : P.underlying k = some (.int q)) (b : Bool) (a : Int) (w : World) : (Instr.checkKey b 10000 k (.int q a)).run P w = .ok () w := run_checkKey_int' hk b 9999 a w
theorem push_set {α : Type} (l : Array α) (x y : α) : (l.push x).setIfInBounds l.size y = l.push y := by
  apply Array.ext_getElem?
  intro i
  rw [Array.getElem?_setIfInBounds, Array.getElem?_push, Array.getElem?_push]
  by_cases h : i = l.size
  · subst h; simp
  · simp [h, Ne.symm h]

theorem run_insert_new (ht : P.underlying t = some (.map k e)) (hk : P.underlying k = some (.int q)) (w0 : World) (es : Array MapEntry) (c : Nat) (a : Int) (v : Value)
    (hn : Instr.findNow (.int q) (.int q a) es.toList 0 = some none) :
    (Instr.mapUpdate t (.map (some w0.heap.size)) (.int q a) v).run P (w0.alloc (.map es c)) = .ok () (w0.alloc (.map (es.push { key := .int q a, val := v, born := c }) (c + 1))) := by
  have hb : (w0.alloc (.map es c)).heap[w0.heap.size]? = some (.map es c) := (MapKept.heap_alloc w0 _).1
  have hs : ({ w0.alloc (.map es c) with heap := (w0.alloc (.map es c)).heap.setIfInBounds w0.heap.size (.map (es.push { key := .int q a, val := v, born := c }) (c + 1)) } : World) = w0.alloc (.map (es.push { key := .int q a, val := v, born := c }) (c + 1)) := by
    show ({ w0 with heap := (w0.heap.push (.map es c)).setIfInBounds w0.heap.size (.map (es.push { key := .int q a, val := v, born := c }) (c + 1)) } : World) = { w0 with heap := w0.heap.push (.map (es.push { key := .int q a, val := v, born := c }) (c + 1)) }
    rw [push_set]
  rw [← hs]
  simp [Instr.mapUpdate, run_underlying ht, MapKept.run_getObj_map hb, run_checkKey_int hk, Instr.findKey, run_underlying hk, hn, MapKept.run_setObj_map _ hb, Result.andThen]

theorem run_lookup_in (ht : P.underlying t = some (.map k e)) (hk : P.underlying k = some (.int q)) (w : World) (b : Nat) (es : Array MapEntry) (c i : Nat) (a : Int) (v : Value)
    (hb : w.heap[b]? = some (.map es c)) (hn : Instr.findNow (.int q) (.int q a) es.toList 0 = some (some (i, v))) :
    (Instr.lookup t (.map (some b)) (.int q a) true).run P w = .ok (.tuple #[v, .bool true]) w := by
  simp [Instr.lookup, run_underlying ht, MapKept.run_getObj_map hb, run_checkKey_int hk, Instr.findKey, run_underlying hk, hn, Result.andThen]

theorem run_lookup_out (ht : P.underlying t = some (.map k e)) (hk : P.underlying k = some (.int q)) (w : World) (b : Nat) (es : Array MapEntry) (c : Nat) (a : Int) (z : Value)
    (hz : (zeroValue e).run P w = .ok z w)
    (hb : w.heap[b]? = some (.map es c)) (hn : Instr.findNow (.int q) (.int q a) es.toList 0 = some none) :
    (Instr.lookup t (.map (some b)) (.int q a) true).run P w = .ok (.tuple #[z, .bool false]) w := by
  simp [Instr.lookup, run_underlying ht, MapKept.run_getObj_map hb, run_checkKey_int hk, Instr.findKey, run_underlying hk, hn, Result.andThen, hz]
end
end Go.Proofs.YtnjaedbekogeaaaDoor
