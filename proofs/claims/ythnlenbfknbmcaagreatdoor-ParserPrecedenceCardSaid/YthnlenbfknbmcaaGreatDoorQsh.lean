/-
  A map with integer keys that a call has just made: inserted into, looked up.
-/
import Derived.Test.YthnlenbfknbmcaaGreatDoorQa
import Derived.Maps.Own
import Derived.Test.YthnlenbfknbmcaaGreatDoorProg
import Derived.Test.YthnlenbfknbmcaaGreatDoorQdc
import Derived.Test.YthnlenbfknbmcaaGreatDoorQg
import Derived.Test.YthnlenbfknbmcaaGreatDoorQq
import Derived.Test.YthnlenbfknbmcaaGreatDoorQpa
namespace Go.Proofs.YthnlenbfknbmcaaGreatDoor
open Go.RowKit

section
variable {P : Program} {t k e : TypeId} {q : IntKind}
theorem run_checkKey_int' (hk : P.underlying k = some (.int q)) (b : Bool) (n : Nat) (a : Int) (w : World) : (Instr.checkKey b (n + 1) k (.int q a)).run P w = .ok () w := by
  simp [Instr.checkKey, run_underlying hk]
theorem run_checkKey_int (hk : P.underlying k = some (.int q)) (b : Bool) (a : Int) (w : World) : (Instr.checkKey b 10000 k (.int q a)).run P w = .ok () w := run_checkKey_int' hk b 9999 a w
theorem push_set {α : Type} (l : Array α) (x y : α) : (l.push x).setIfInBounds l.size y = l.push y := by
  apply Array.ext_getElem?
  intro i
  rw [Array.getElem?_setIfInBounds, Array.getElem?_push, Array.getElem?_push]
  by_cases h : i = l.size
  · subst h; simp
  · simp [h, Ne.symm h]

theorem run_insert_new (ht : P.underlying t = some (.map k e)) (hk : P.underlying k = some (.int q)) (w0 : World) (es : Array MapEntry) (c : Nat) (a : Int) (v : Value)
    (hn : Instr.findNow (.int q) (.int q a) es.toList 0 = some none) :
    (Instr.mapUpdate t (.map (some w0.heap.size)) (.int q a) v).run P (w0.alloc (.map es c)) = .ok () (w0.alloc (.map (es.push { key := .int q a, val := v, born := c }) (c + 1))) := by
  have hb : (w0.alloc (.map es c)).heap[w0.heap.size]? = some (.map es c) := (MapKept.heap_alloc w0 _).1
  have hs : ({ w0.alloc (.map es c) with heap := (w0.alloc (.map es c)).heap.setIfInBounds w0.heap.size (.map (es.push { key := .int q a, val := v, born := c }) (c + 1)) } : World) = w0.alloc (.map (es.push { key := .int q a, val := v, born := c }) (c + 1)) := by
    show ({ w0 with heap := (w0.heap.push (.map es c)).setIfInBounds w0.heap.size (.map (es.push { key := .int q a, val := v, born := c }) (c + 1)) } : World) = { w0 with heap := w0.heap.push (.map (es.push { key := .int q a, val := v, born := c }) (c + 1)) }
    rw [push_set]
  rw [← hs]
  simp [Instr.mapUpdate, run_underlying ht, MapKept.run_getObj_map hb, run_checkKey_int hk, Instr.findKey, run_underlying hk, hn, MapKept.run_setObj_map _ hb, Result.andThen]

theorem run_lookup_in (ht : P.underlying t = some (.map k e)) (hk : P.underlying k = some (.int q)) (w : World) (b : Nat) (es : Array MapEntry) (c i : Nat) (a : Int) (v : Value)
    (hb : w.heap[b]? = some (.map es c)) (hn : Instr.findNow (.int q) (.int q a) es.toList 0 = some (some (i, v))) :
    (Instr.lookup t (.map (some b)) (.int q a) true).run P w = .ok (.tuple #[v, .bool true]) w := by
  simp [Instr.lookup, run_underlying ht, MapKept.run_getObj_map hb, run_checkKey_int hk, Instr.findKey, run_underlying hk, hn, Result.andThen]

theorem run_lookup_out (ht : P.underlying t = some (.map k e)) (hk : P.underlying k = some (.int q)) (w : World) (b : Nat) (es : Array MapEntry) (c : Nat) (a : Int) (z : Value)
    (hz : (zeroValue e).run P w = .ok z w)
    (hb : w.heap[b]? = some (.map es c)) (hn : Instr.findNow (.int q) (.int q a) es.toList 0 = some none) :
    (Instr.lookup t (.map (some b)) (.int q a) true).run P w = .ok (.tuple #[z, .bool false]) w := by
  simp [Instr.lookup, run_underlying ht, MapKept.run_getObj_map hb, run_checkKey_int hk, Instr.findKey, run_underlying hk, hn, Result.andThen, hz]
end
end Go.Proofs.YthnlenbfknbmcaaGreatDoor
namespace Go.Proofs.YthnlenbfknbmcaaGreatDoor
open Go.RowKit
set_option maxRecDepth 100000

theorem run_lookup_one {P : Program} {t k e : TypeId} {q : IntKind} (ht : P.underlying t = some (.map k e)) (hk : P.underlying k = some (.int q)) (w : World) (b : Nat) (es : Array MapEntry) (c i : Nat) (a : Int) (v : Value)
    (hb : w.heap[b]? = some (.map es c)) (hn : Instr.findNow (.int q) (.int q a) es.toList 0 = some (some (i, v))) :
    (Instr.lookup t (.map (some b)) (.int q a) false).run P w = .ok v w := by
  simp [Instr.lookup, run_underlying ht, MapKept.run_getObj_map hb, run_checkKey_int hk, Instr.findKey, run_underlying hk, hn, Result.andThen]
theorem sgn_put0 (w0 : World) : (Instr.mapUpdate 81 (.map (some w0.heap.size)) (.int .i64 4) (.string ⟨#[43]⟩)).run Tryz.prog (w0.alloc (.map #[] 0)) = .ok () (w0.alloc (.map #[{ key := .int .i64 4, val := .string ⟨#[43]⟩, born := 0 }] 1)) :=
  run_insert_new Tryz.underlying81 Tryz.underlying3 w0 #[] 0 4 _ (by kernel_rfl)
theorem sgn_put1 (w0 : World) : (Instr.mapUpdate 81 (.map (some w0.heap.size)) (.int .i64 5) (.string ⟨#[45]⟩)).run Tryz.prog (w0.alloc (.map #[{ key := .int .i64 4, val := .string ⟨#[43]⟩, born := 0 }] 1)) = .ok () (w0.alloc (.map #[{ key := .int .i64 4, val := .string ⟨#[43]⟩, born := 0 }, { key := .int .i64 5, val := .string ⟨#[45]⟩, born := 1 }] 2)) :=
  run_insert_new Tryz.underlying81 Tryz.underlying3 w0 #[{ key := .int .i64 4, val := .string ⟨#[43]⟩, born := 0 }] 1 5 _ (by kernel_rfl)
theorem sgn_put2 (w0 : World) : (Instr.mapUpdate 81 (.map (some w0.heap.size)) (.int .i64 6) (.string ⟨#[42]⟩)).run Tryz.prog (w0.alloc (.map #[{ key := .int .i64 4, val := .string ⟨#[43]⟩, born := 0 }, { key := .int .i64 5, val := .string ⟨#[45]⟩, born := 1 }] 2)) = .ok () (w0.alloc (.map #[{ key := .int .i64 4, val := .string ⟨#[43]⟩, born := 0 }, { key := .int .i64 5, val := .string ⟨#[45]⟩, born := 1 }, { key := .int .i64 6, val := .string ⟨#[42]⟩, born := 2 }] 3)) :=
  run_insert_new Tryz.underlying81 Tryz.underlying3 w0 #[{ key := .int .i64 4, val := .string ⟨#[43]⟩, born := 0 }, { key := .int .i64 5, val := .string ⟨#[45]⟩, born := 1 }] 2 6 _ (by kernel_rfl)
theorem sgn_put3 (w0 : World) : (Instr.mapUpdate 81 (.map (some w0.heap.size)) (.int .i64 7) (.string ⟨#[47]⟩)).run Tryz.prog (w0.alloc (.map #[{ key := .int .i64 4, val := .string ⟨#[43]⟩, born := 0 }, { key := .int .i64 5, val := .string ⟨#[45]⟩, born := 1 }, { key := .int .i64 6, val := .string ⟨#[42]⟩, born := 2 }] 3)) = .ok () (w0.alloc (.map #[{ key := .int .i64 4, val := .string ⟨#[43]⟩, born := 0 }, { key := .int .i64 5, val := .string ⟨#[45]⟩, born := 1 }, { key := .int .i64 6, val := .string ⟨#[42]⟩, born := 2 }, { key := .int .i64 7, val := .string ⟨#[47]⟩, born := 3 }] 4)) :=
  run_insert_new Tryz.underlying81 Tryz.underlying3 w0 #[{ key := .int .i64 4, val := .string ⟨#[43]⟩, born := 0 }, { key := .int .i64 5, val := .string ⟨#[45]⟩, born := 1 }, { key := .int .i64 6, val := .string ⟨#[42]⟩, born := 2 }] 3 7 _ (by kernel_rfl)
theorem sgn_put4 (w0 : World) : (Instr.mapUpdate 81 (.map (some w0.heap.size)) (.int .i64 11) (.string ⟨#[60]⟩)).run Tryz.prog (w0.alloc (.map #[{ key := .int .i64 4, val := .string ⟨#[43]⟩, born := 0 }, { key := .int .i64 5, val := .string ⟨#[45]⟩, born := 1 }, { key := .int .i64 6, val := .string ⟨#[42]⟩, born := 2 }, { key := .int .i64 7, val := .string ⟨#[47]⟩, born := 3 }] 4)) = .ok () (w0.alloc (.map #[{ key := .int .i64 4, val := .string ⟨#[43]⟩, born := 0 }, { key := .int .i64 5, val := .string ⟨#[45]⟩, born := 1 }, { key := .int .i64 6, val := .string ⟨#[42]⟩, born := 2 }, { key := .int .i64 7, val := .string ⟨#[47]⟩, born := 3 }, { key := .int .i64 11, val := .string ⟨#[60]⟩, born := 4 }] 5)) :=
  run_insert_new Tryz.underlying81 Tryz.underlying3 w0 #[{ key := .int .i64 4, val := .string ⟨#[43]⟩, born := 0 }, { key := .int .i64 5, val := .string ⟨#[45]⟩, born := 1 }, { key := .int .i64 6, val := .string ⟨#[42]⟩, born := 2 }, { key := .int .i64 7, val := .string ⟨#[47]⟩, born := 3 }] 4 11 _ (by kernel_rfl)
theorem sgn_put5 (w0 : World) : (Instr.mapUpdate 81 (.map (some w0.heap.size)) (.int .i64 12) (.string ⟨#[61]⟩)).run Tryz.prog (w0.alloc (.map #[{ key := .int .i64 4, val := .string ⟨#[43]⟩, born := 0 }, { key := .int .i64 5, val := .string ⟨#[45]⟩, born := 1 }, { key := .int .i64 6, val := .string ⟨#[42]⟩, born := 2 }, { key := .int .i64 7, val := .string ⟨#[47]⟩, born := 3 }, { key := .int .i64 11, val := .string ⟨#[60]⟩, born := 4 }] 5)) = .ok () (w0.alloc (.map #[{ key := .int .i64 4, val := .string ⟨#[43]⟩, born := 0 }, { key := .int .i64 5, val := .string ⟨#[45]⟩, born := 1 }, { key := .int .i64 6, val := .string ⟨#[42]⟩, born := 2 }, { key := .int .i64 7, val := .string ⟨#[47]⟩, born := 3 }, { key := .int .i64 11, val := .string ⟨#[60]⟩, born := 4 }, { key := .int .i64 12, val := .string ⟨#[61]⟩, born := 5 }] 6)) :=
  run_insert_new Tryz.underlying81 Tryz.underlying3 w0 #[{ key := .int .i64 4, val := .string ⟨#[43]⟩, born := 0 }, { key := .int .i64 5, val := .string ⟨#[45]⟩, born := 1 }, { key := .int .i64 6, val := .string ⟨#[42]⟩, born := 2 }, { key := .int .i64 7, val := .string ⟨#[47]⟩, born := 3 }, { key := .int .i64 11, val := .string ⟨#[60]⟩, born := 4 }] 5 12 _ (by kernel_rfl)
theorem sgn_put6 (w0 : World) : (Instr.mapUpdate 81 (.map (some w0.heap.size)) (.int .i64 13) (.string ⟨#[97, 110, 100]⟩)).run Tryz.prog (w0.alloc (.map #[{ key := .int .i64 4, val := .string ⟨#[43]⟩, born := 0 }, { key := .int .i64 5, val := .string ⟨#[45]⟩, born := 1 }, { key := .int .i64 6, val := .string ⟨#[42]⟩, born := 2 }, { key := .int .i64 7, val := .string ⟨#[47]⟩, born := 3 }, { key := .int .i64 11, val := .string ⟨#[60]⟩, born := 4 }, { key := .int .i64 12, val := .string ⟨#[61]⟩, born := 5 }] 6)) = .ok () (w0.alloc (.map #[{ key := .int .i64 4, val := .string ⟨#[43]⟩, born := 0 }, { key := .int .i64 5, val := .string ⟨#[45]⟩, born := 1 }, { key := .int .i64 6, val := .string ⟨#[42]⟩, born := 2 }, { key := .int .i64 7, val := .string ⟨#[47]⟩, born := 3 }, { key := .int .i64 11, val := .string ⟨#[60]⟩, born := 4 }, { key := .int .i64 12, val := .string ⟨#[61]⟩, born := 5 }, { key := .int .i64 13, val := .string ⟨#[97, 110, 100]⟩, born := 6 }] 7)) :=
  run_insert_new Tryz.underlying81 Tryz.underlying3 w0 #[{ key := .int .i64 4, val := .string ⟨#[43]⟩, born := 0 }, { key := .int .i64 5, val := .string ⟨#[45]⟩, born := 1 }, { key := .int .i64 6, val := .string ⟨#[42]⟩, born := 2 }, { key := .int .i64 7, val := .string ⟨#[47]⟩, born := 3 }, { key := .int .i64 11, val := .string ⟨#[60]⟩, born := 4 }, { key := .int .i64 12, val := .string ⟨#[61]⟩, born := 5 }] 6 13 _ (by kernel_rfl)
theorem sgn_put7 (w0 : World) : (Instr.mapUpdate 81 (.map (some w0.heap.size)) (.int .i64 14) (.string ⟨#[111, 114]⟩)).run Tryz.prog (w0.alloc (.map #[{ key := .int .i64 4, val := .string ⟨#[43]⟩, born := 0 }, { key := .int .i64 5, val := .string ⟨#[45]⟩, born := 1 }, { key := .int .i64 6, val := .string ⟨#[42]⟩, born := 2 }, { key := .int .i64 7, val := .string ⟨#[47]⟩, born := 3 }, { key := .int .i64 11, val := .string ⟨#[60]⟩, born := 4 }, { key := .int .i64 12, val := .string ⟨#[61]⟩, born := 5 }, { key := .int .i64 13, val := .string ⟨#[97, 110, 100]⟩, born := 6 }] 7)) = .ok () (w0.alloc (.map #[{ key := .int .i64 4, val := .string ⟨#[43]⟩, born := 0 }, { key := .int .i64 5, val := .string ⟨#[45]⟩, born := 1 }, { key := .int .i64 6, val := .string ⟨#[42]⟩, born := 2 }, { key := .int .i64 7, val := .string ⟨#[47]⟩, born := 3 }, { key := .int .i64 11, val := .string ⟨#[60]⟩, born := 4 }, { key := .int .i64 12, val := .string ⟨#[61]⟩, born := 5 }, { key := .int .i64 13, val := .string ⟨#[97, 110, 100]⟩, born := 6 }, { key := .int .i64 14, val := .string ⟨#[111, 114]⟩, born := 7 }] 8)) :=
  run_insert_new Tryz.underlying81 Tryz.underlying3 w0 #[{ key := .int .i64 4, val := .string ⟨#[43]⟩, born := 0 }, { key := .int .i64 5, val := .string ⟨#[45]⟩, born := 1 }, { key := .int .i64 6, val := .string ⟨#[42]⟩, born := 2 }, { key := .int .i64 7, val := .string ⟨#[47]⟩, born := 3 }, { key := .int .i64 11, val := .string ⟨#[60]⟩, born := 4 }, { key := .int .i64 12, val := .string ⟨#[61]⟩, born := 5 }, { key := .int .i64 13, val := .string ⟨#[97, 110, 100]⟩, born := 6 }] 7 14 _ (by kernel_rfl)
theorem sgn_at0 (w0 : World) : (Instr.lookup 81 (.map (some w0.heap.size)) (.int .i64 4) false).run Tryz.prog (w0.alloc (.map #[{ key := .int .i64 4, val := .string ⟨#[43]⟩, born := 0 }, { key := .int .i64 5, val := .string ⟨#[45]⟩, born := 1 }, { key := .int .i64 6, val := .string ⟨#[42]⟩, born := 2 }, { key := .int .i64 7, val := .string ⟨#[47]⟩, born := 3 }, { key := .int .i64 11, val := .string ⟨#[60]⟩, born := 4 }, { key := .int .i64 12, val := .string ⟨#[61]⟩, born := 5 }, { key := .int .i64 13, val := .string ⟨#[97, 110, 100]⟩, born := 6 }, { key := .int .i64 14, val := .string ⟨#[111, 114]⟩, born := 7 }] 8)) = .ok (.string ⟨#[43]⟩) (w0.alloc (.map #[{ key := .int .i64 4, val := .string ⟨#[43]⟩, born := 0 }, { key := .int .i64 5, val := .string ⟨#[45]⟩, born := 1 }, { key := .int .i64 6, val := .string ⟨#[42]⟩, born := 2 }, { key := .int .i64 7, val := .string ⟨#[47]⟩, born := 3 }, { key := .int .i64 11, val := .string ⟨#[60]⟩, born := 4 }, { key := .int .i64 12, val := .string ⟨#[61]⟩, born := 5 }, { key := .int .i64 13, val := .string ⟨#[97, 110, 100]⟩, born := 6 }, { key := .int .i64 14, val := .string ⟨#[111, 114]⟩, born := 7 }] 8)) :=
  run_lookup_one Tryz.underlying81 Tryz.underlying3 _ _ #[{ key := .int .i64 4, val := .string ⟨#[43]⟩, born := 0 }, { key := .int .i64 5, val := .string ⟨#[45]⟩, born := 1 }, { key := .int .i64 6, val := .string ⟨#[42]⟩, born := 2 }, { key := .int .i64 7, val := .string ⟨#[47]⟩, born := 3 }, { key := .int .i64 11, val := .string ⟨#[60]⟩, born := 4 }, { key := .int .i64 12, val := .string ⟨#[61]⟩, born := 5 }, { key := .int .i64 13, val := .string ⟨#[97, 110, 100]⟩, born := 6 }, { key := .int .i64 14, val := .string ⟨#[111, 114]⟩, born := 7 }] 8 0 4 _ (MapKept.heap_alloc w0 _).1 (by kernel_rfl)
theorem sgn_at1 (w0 : World) : (Instr.lookup 81 (.map (some w0.heap.size)) (.int .i64 5) false).run Tryz.prog (w0.alloc (.map #[{ key := .int .i64 4, val := .string ⟨#[43]⟩, born := 0 }, { key := .int .i64 5, val := .string ⟨#[45]⟩, born := 1 }, { key := .int .i64 6, val := .string ⟨#[42]⟩, born := 2 }, { key := .int .i64 7, val := .string ⟨#[47]⟩, born := 3 }, { key := .int .i64 11, val := .string ⟨#[60]⟩, born := 4 }, { key := .int .i64 12, val := .string ⟨#[61]⟩, born := 5 }, { key := .int .i64 13, val := .string ⟨#[97, 110, 100]⟩, born := 6 }, { key := .int .i64 14, val := .string ⟨#[111, 114]⟩, born := 7 }] 8)) = .ok (.string ⟨#[45]⟩) (w0.alloc (.map #[{ key := .int .i64 4, val := .string ⟨#[43]⟩, born := 0 }, { key := .int .i64 5, val := .string ⟨#[45]⟩, born := 1 }, { key := .int .i64 6, val := .string ⟨#[42]⟩, born := 2 }, { key := .int .i64 7, val := .string ⟨#[47]⟩, born := 3 }, { key := .int .i64 11, val := .string ⟨#[60]⟩, born := 4 }, { key := .int .i64 12, val := .string ⟨#[61]⟩, born := 5 }, { key := .int .i64 13, val := .string ⟨#[97, 110, 100]⟩, born := 6 }, { key := .int .i64 14, val := .string ⟨#[111, 114]⟩, born := 7 }] 8)) :=
  run_lookup_one Tryz.underlying81 Tryz.underlying3 _ _ #[{ key := .int .i64 4, val := .string ⟨#[43]⟩, born := 0 }, { key := .int .i64 5, val := .string ⟨#[45]⟩, born := 1 }, { key := .int .i64 6, val := .string ⟨#[42]⟩, born := 2 }, { key := .int .i64 7, val := .string ⟨#[47]⟩, born := 3 }, { key := .int .i64 11, val := .string ⟨#[60]⟩, born := 4 }, { key := .int .i64 12, val := .string ⟨#[61]⟩, born := 5 }, { key := .int .i64 13, val := .string ⟨#[97, 110, 100]⟩, born := 6 }, { key := .int .i64 14, val := .string ⟨#[111, 114]⟩, born := 7 }] 8 1 5 _ (MapKept.heap_alloc w0 _).1 (by kernel_rfl)
theorem sgn_at2 (w0 : World) : (Instr.lookup 81 (.map (some w0.heap.size)) (.int .i64 6) false).run Tryz.prog (w0.alloc (.map #[{ key := .int .i64 4, val := .string ⟨#[43]⟩, born := 0 }, { key := .int .i64 5, val := .string ⟨#[45]⟩, born := 1 }, { key := .int .i64 6, val := .string ⟨#[42]⟩, born := 2 }, { key := .int .i64 7, val := .string ⟨#[47]⟩, born := 3 }, { key := .int .i64 11, val := .string ⟨#[60]⟩, born := 4 }, { key := .int .i64 12, val := .string ⟨#[61]⟩, born := 5 }, { key := .int .i64 13, val := .string ⟨#[97, 110, 100]⟩, born := 6 }, { key := .int .i64 14, val := .string ⟨#[111, 114]⟩, born := 7 }] 8)) = .ok (.string ⟨#[42]⟩) (w0.alloc (.map #[{ key := .int .i64 4, val := .string ⟨#[43]⟩, born := 0 }, { key := .int .i64 5, val := .string ⟨#[45]⟩, born := 1 }, { key := .int .i64 6, val := .string ⟨#[42]⟩, born := 2 }, { key := .int .i64 7, val := .string ⟨#[47]⟩, born := 3 }, { key := .int .i64 11, val := .string ⟨#[60]⟩, born := 4 }, { key := .int .i64 12, val := .string ⟨#[61]⟩, born := 5 }, { key := .int .i64 13, val := .string ⟨#[97, 110, 100]⟩, born := 6 }, { key := .int .i64 14, val := .string ⟨#[111, 114]⟩, born := 7 }] 8)) :=
  run_lookup_one Tryz.underlying81 Tryz.underlying3 _ _ #[{ key := .int .i64 4, val := .string ⟨#[43]⟩, born := 0 }, { key := .int .i64 5, val := .string ⟨#[45]⟩, born := 1 }, { key := .int .i64 6, val := .string ⟨#[42]⟩, born := 2 }, { key := .int .i64 7, val := .string ⟨#[47]⟩, born := 3 }, { key := .int .i64 11, val := .string ⟨#[60]⟩, born := 4 }, { key := .int .i64 12, val := .string ⟨#[61]⟩, born := 5 }, { key := .int .i64 13, val := .string ⟨#[97, 110, 100]⟩, born := 6 }, { key := .int .i64 14, val := .string ⟨#[111, 114]⟩, born := 7 }] 8 2 6 _ (MapKept.heap_alloc w0 _).1 (by kernel_rfl)
theorem sgn_at3 (w0 : World) : (Instr.lookup 81 (.map (some w0.heap.size)) (.int .i64 7) false).run Tryz.prog (w0.alloc (.map #[{ key := .int .i64 4, val := .string ⟨#[43]⟩, born := 0 }, { key := .int .i64 5, val := .string ⟨#[45]⟩, born := 1 }, { key := .int .i64 6, val := .string ⟨#[42]⟩, born := 2 }, { key := .int .i64 7, val := .string ⟨#[47]⟩, born := 3 }, { key := .int .i64 11, val := .string ⟨#[60]⟩, born := 4 }, { key := .int .i64 12, val := .string ⟨#[61]⟩, born := 5 }, { key := .int .i64 13, val := .string ⟨#[97, 110, 100]⟩, born := 6 }, { key := .int .i64 14, val := .string ⟨#[111, 114]⟩, born := 7 }] 8)) = .ok (.string ⟨#[47]⟩) (w0.alloc (.map #[{ key := .int .i64 4, val := .string ⟨#[43]⟩, born := 0 }, { key := .int .i64 5, val := .string ⟨#[45]⟩, born := 1 }, { key := .int .i64 6, val := .string ⟨#[42]⟩, born := 2 }, { key := .int .i64 7, val := .string ⟨#[47]⟩, born := 3 }, { key := .int .i64 11, val := .string ⟨#[60]⟩, born := 4 }, { key := .int .i64 12, val := .string ⟨#[61]⟩, born := 5 }, { key := .int .i64 13, val := .string ⟨#[97, 110, 100]⟩, born := 6 }, { key := .int .i64 14, val := .string ⟨#[111, 114]⟩, born := 7 }] 8)) :=
  run_lookup_one Tryz.underlying81 Tryz.underlying3 _ _ #[{ key := .int .i64 4, val := .string ⟨#[43]⟩, born := 0 }, { key := .int .i64 5, val := .string ⟨#[45]⟩, born := 1 }, { key := .int .i64 6, val := .string ⟨#[42]⟩, born := 2 }, { key := .int .i64 7, val := .string ⟨#[47]⟩, born := 3 }, { key := .int .i64 11, val := .string ⟨#[60]⟩, born := 4 }, { key := .int .i64 12, val := .string ⟨#[61]⟩, born := 5 }, { key := .int .i64 13, val := .string ⟨#[97, 110, 100]⟩, born := 6 }, { key := .int .i64 14, val := .string ⟨#[111, 114]⟩, born := 7 }] 8 3 7 _ (MapKept.heap_alloc w0 _).1 (by kernel_rfl)
theorem sgn_at4 (w0 : World) : (Instr.lookup 81 (.map (some w0.heap.size)) (.int .i64 11) false).run Tryz.prog (w0.alloc (.map #[{ key := .int .i64 4, val := .string ⟨#[43]⟩, born := 0 }, { key := .int .i64 5, val := .string ⟨#[45]⟩, born := 1 }, { key := .int .i64 6, val := .string ⟨#[42]⟩, born := 2 }, { key := .int .i64 7, val := .string ⟨#[47]⟩, born := 3 }, { key := .int .i64 11, val := .string ⟨#[60]⟩, born := 4 }, { key := .int .i64 12, val := .string ⟨#[61]⟩, born := 5 }, { key := .int .i64 13, val := .string ⟨#[97, 110, 100]⟩, born := 6 }, { key := .int .i64 14, val := .string ⟨#[111, 114]⟩, born := 7 }] 8)) = .ok (.string ⟨#[60]⟩) (w0.alloc (.map #[{ key := .int .i64 4, val := .string ⟨#[43]⟩, born := 0 }, { key := .int .i64 5, val := .string ⟨#[45]⟩, born := 1 }, { key := .int .i64 6, val := .string ⟨#[42]⟩, born := 2 }, { key := .int .i64 7, val := .string ⟨#[47]⟩, born := 3 }, { key := .int .i64 11, val := .string ⟨#[60]⟩, born := 4 }, { key := .int .i64 12, val := .string ⟨#[61]⟩, born := 5 }, { key := .int .i64 13, val := .string ⟨#[97, 110, 100]⟩, born := 6 }, { key := .int .i64 14, val := .string ⟨#[111, 114]⟩, born := 7 }] 8)) :=
  run_lookup_one Tryz.underlying81 Tryz.underlying3 _ _ #[{ key := .int .i64 4, val := .string ⟨#[43]⟩, born := 0 }, { key := .int .i64 5, val := .string ⟨#[45]⟩, born := 1 }, { key := .int .i64 6, val := .string ⟨#[42]⟩, born := 2 }, { key := .int .i64 7, val := .string ⟨#[47]⟩, born := 3 }, { key := .int .i64 11, val := .string ⟨#[60]⟩, born := 4 }, { key := .int .i64 12, val := .string ⟨#[61]⟩, born := 5 }, { key := .int .i64 13, val := .string ⟨#[97, 110, 100]⟩, born := 6 }, { key := .int .i64 14, val := .string ⟨#[111, 114]⟩, born := 7 }] 8 4 11 _ (MapKept.heap_alloc w0 _).1 (by kernel_rfl)
theorem sgn_at5 (w0 : World) : (Instr.lookup 81 (.map (some w0.heap.size)) (.int .i64 12) false).run Tryz.prog (w0.alloc (.map #[{ key := .int .i64 4, val := .string ⟨#[43]⟩, born := 0 }, { key := .int .i64 5, val := .string ⟨#[45]⟩, born := 1 }, { key := .int .i64 6, val := .string ⟨#[42]⟩, born := 2 }, { key := .int .i64 7, val := .string ⟨#[47]⟩, born := 3 }, { key := .int .i64 11, val := .string ⟨#[60]⟩, born := 4 }, { key := .int .i64 12, val := .string ⟨#[61]⟩, born := 5 }, { key := .int .i64 13, val := .string ⟨#[97, 110, 100]⟩, born := 6 }, { key := .int .i64 14, val := .string ⟨#[111, 114]⟩, born := 7 }] 8)) = .ok (.string ⟨#[61]⟩) (w0.alloc (.map #[{ key := .int .i64 4, val := .string ⟨#[43]⟩, born := 0 }, { key := .int .i64 5, val := .string ⟨#[45]⟩, born := 1 }, { key := .int .i64 6, val := .string ⟨#[42]⟩, born := 2 }, { key := .int .i64 7, val := .string ⟨#[47]⟩, born := 3 }, { key := .int .i64 11, val := .string ⟨#[60]⟩, born := 4 }, { key := .int .i64 12, val := .string ⟨#[61]⟩, born := 5 }, { key := .int .i64 13, val := .string ⟨#[97, 110, 100]⟩, born := 6 }, { key := .int .i64 14, val := .string ⟨#[111, 114]⟩, born := 7 }] 8)) :=
  run_lookup_one Tryz.underlying81 Tryz.underlying3 _ _ #[{ key := .int .i64 4, val := .string ⟨#[43]⟩, born := 0 }, { key := .int .i64 5, val := .string ⟨#[45]⟩, born := 1 }, { key := .int .i64 6, val := .string ⟨#[42]⟩, born := 2 }, { key := .int .i64 7, val := .string ⟨#[47]⟩, born := 3 }, { key := .int .i64 11, val := .string ⟨#[60]⟩, born := 4 }, { key := .int .i64 12, val := .string ⟨#[61]⟩, born := 5 }, { key := .int .i64 13, val := .string ⟨#[97, 110, 100]⟩, born := 6 }, { key := .int .i64 14, val := .string ⟨#[111, 114]⟩, born := 7 }] 8 5 12 _ (MapKept.heap_alloc w0 _).1 (by kernel_rfl)
theorem sgn_at6 (w0 : World) : (Instr.lookup 81 (.map (some w0.heap.size)) (.int .i64 13) false).run Tryz.prog (w0.alloc (.map #[{ key := .int .i64 4, val := .string ⟨#[43]⟩, born := 0 }, { key := .int .i64 5, val := .string ⟨#[45]⟩, born := 1 }, { key := .int .i64 6, val := .string ⟨#[42]⟩, born := 2 }, { key := .int .i64 7, val := .string ⟨#[47]⟩, born := 3 }, { key := .int .i64 11, val := .string ⟨#[60]⟩, born := 4 }, { key := .int .i64 12, val := .string ⟨#[61]⟩, born := 5 }, { key := .int .i64 13, val := .string ⟨#[97, 110, 100]⟩, born := 6 }, { key := .int .i64 14, val := .string ⟨#[111, 114]⟩, born := 7 }] 8)) = .ok (.string ⟨#[97, 110, 100]⟩) (w0.alloc (.map #[{ key := .int .i64 4, val := .string ⟨#[43]⟩, born := 0 }, { key := .int .i64 5, val := .string ⟨#[45]⟩, born := 1 }, { key := .int .i64 6, val := .string ⟨#[42]⟩, born := 2 }, { key := .int .i64 7, val := .string ⟨#[47]⟩, born := 3 }, { key := .int .i64 11, val := .string ⟨#[60]⟩, born := 4 }, { key := .int .i64 12, val := .string ⟨#[61]⟩, born := 5 }, { key := .int .i64 13, val := .string ⟨#[97, 110, 100]⟩, born := 6 }, { key := .int .i64 14, val := .string ⟨#[111, 114]⟩, born := 7 }] 8)) :=
  run_lookup_one Tryz.underlying81 Tryz.underlying3 _ _ #[{ key := .int .i64 4, val := .string ⟨#[43]⟩, born := 0 }, { key := .int .i64 5, val := .string ⟨#[45]⟩, born := 1 }, { key := .int .i64 6, val := .string ⟨#[42]⟩, born := 2 }, { key := .int .i64 7, val := .string ⟨#[47]⟩, born := 3 }, { key := .int .i64 11, val := .string ⟨#[60]⟩, born := 4 }, { key := .int .i64 12, val := .string ⟨#[61]⟩, born := 5 }, { key := .int .i64 13, val := .string ⟨#[97, 110, 100]⟩, born := 6 }, { key := .int .i64 14, val := .string ⟨#[111, 114]⟩, born := 7 }] 8 6 13 _ (MapKept.heap_alloc w0 _).1 (by kernel_rfl)
theorem sgn_at7 (w0 : World) : (Instr.lookup 81 (.map (some w0.heap.size)) (.int .i64 14) false).run Tryz.prog (w0.alloc (.map #[{ key := .int .i64 4, val := .string ⟨#[43]⟩, born := 0 }, { key := .int .i64 5, val := .string ⟨#[45]⟩, born := 1 }, { key := .int .i64 6, val := .string ⟨#[42]⟩, born := 2 }, { key := .int .i64 7, val := .string ⟨#[47]⟩, born := 3 }, { key := .int .i64 11, val := .string ⟨#[60]⟩, born := 4 }, { key := .int .i64 12, val := .string ⟨#[61]⟩, born := 5 }, { key := .int .i64 13, val := .string ⟨#[97, 110, 100]⟩, born := 6 }, { key := .int .i64 14, val := .string ⟨#[111, 114]⟩, born := 7 }] 8)) = .ok (.string ⟨#[111, 114]⟩) (w0.alloc (.map #[{ key := .int .i64 4, val := .string ⟨#[43]⟩, born := 0 }, { key := .int .i64 5, val := .string ⟨#[45]⟩, born := 1 }, { key := .int .i64 6, val := .string ⟨#[42]⟩, born := 2 }, { key := .int .i64 7, val := .string ⟨#[47]⟩, born := 3 }, { key := .int .i64 11, val := .string ⟨#[60]⟩, born := 4 }, { key := .int .i64 12, val := .string ⟨#[61]⟩, born := 5 }, { key := .int .i64 13, val := .string ⟨#[97, 110, 100]⟩, born := 6 }, { key := .int .i64 14, val := .string ⟨#[111, 114]⟩, born := 7 }] 8)) :=
  run_lookup_one Tryz.underlying81 Tryz.underlying3 _ _ #[{ key := .int .i64 4, val := .string ⟨#[43]⟩, born := 0 }, { key := .int .i64 5, val := .string ⟨#[45]⟩, born := 1 }, { key := .int .i64 6, val := .string ⟨#[42]⟩, born := 2 }, { key := .int .i64 7, val := .string ⟨#[47]⟩, born := 3 }, { key := .int .i64 11, val := .string ⟨#[60]⟩, born := 4 }, { key := .int .i64 12, val := .string ⟨#[61]⟩, born := 5 }, { key := .int .i64 13, val := .string ⟨#[97, 110, 100]⟩, born := 6 }, { key := .int .i64 14, val := .string ⟨#[111, 114]⟩, born := 7 }] 8 7 14 _ (MapKept.heap_alloc w0 _).1 (by kernel_rfl)
end Go.Proofs.YthnlenbfknbmcaaGreatDoor
namespace Go.Proofs.YthnlenbfknbmcaaGreatDoor
open Go.RowKit Go.Shelf
set_option maxRecDepth 100000

def vS (s : List UInt8) : Value := .string ⟨s.toArray⟩
theorem infoStr8 : (Tryz.prog.info? 9).map (fun i => (i.zero, i.size, i.bytes)) = some (some (.string ⟨#[]⟩), 1, 16) := by kernel_rfl
theorem own_bas8 {w w' : World} {B base : Nat} {xs : List Value} (h : Own w B xs) (hb : Below base w w') (hB : B < base) : Own w' B xs :=
  ⟨fun i v hi => (World.cell?_of_block (w := w) (hb.block B hB)).trans (h.cell i v hi), fun i v hi => (World.frozen?_of_block (w := w) (hb.block B hB)).trans (h.fro i v hi), Nat.lt_of_lt_of_le h.lt hb.size⟩
theorem cntL_len : ∀ l : List Xp, l.length ≤ cntL l
  | [] => by simp [cntL]
  | e :: r => by
    have := cntL_len r
    have := cnt_pos e
    simp only [cntL, List.length_cons]; omega
theorem cnt_le : ∀ {l : List Xp} {e : Xp}, e ∈ l → cntE e ≤ cntL l
  | x :: r, e, h => by
    simp only [cntL]
    rcases List.mem_cons.1 h with rfl | h
    · omega
    · have := cnt_le h; omega
def ShEnd (e : Xp) (w : World) (x : Ending) (w' : World) : Prop := ∃ s k, Sw e s k ∧ x = .returned (.string ⟨s.toArray⟩) ∧ Below w.heap.size w w'
theorem nodeB_is {o n : Int} {k : Nat} (h : nodeB o n k = true) : (o = 1 ∧ k = 0 ∧ 0 ≤ n ∧ n ≤ 999999999) ∨ (o = 2 ∧ k = 0 ∧ 0 ≤ n ∧ n ≤ 1000000000) ∨ (o = 3 ∧ k = 0 ∧ 1 ≤ n ∧ n ≤ 4) ∨ (o = 15 ∧ k = 1 ∧ n = 0) ∨ (o = 10 ∧ k = 3 ∧ n = 0) ∨
    ((o = 8 ∨ o = 9 ∨ o = 4 ∨ o = 5 ∨ o = 6 ∨ o = 7 ∨ o = 11 ∨ o = 12 ∨ o = 13 ∨ o = 14) ∧ k = 2 ∧ n = 0) := by
  unfold nodeB at h
  repeat' split at h
  all_goals simp only [Bool.and_eq_true, decide_eq_true_eq] at h
  all_goals omega
theorem row_own8 {w : World} {base n : Nat} {v : Value} {ss : List (List UInt8)} (h : Dg.OwnRow w base 9 v (ss.map vS)) (hl : ss.length = n) (h0 : 0 < n) (hn : n ≤ 200) :
    ∃ g cap, v = .slice (some ⟨g, 0, none⟩) n cap ∧ ∀ j (hj : j < ss.length), w.cell? ⟨g, j, none⟩ = some (.string ⟨ss[j].toArray⟩) := by
  have hr := Dg.Row.of_own h (by simp; omega)
  obtain ⟨_, ⟨_, h2⟩ | ⟨g, cap', cur, hv, -⟩⟩ := h
  · simp at h2; subst h2; simp at hl; omega
  · subst hl
    rw [List.length_map] at hv
    refine ⟨g, _, hv, fun j hj => ?_⟩
    obtain ⟨a, e, _, h3⟩ := hr.cells _ _ _ hv j (by simpa using hj)
    cases e
    rw [Dg.add_zero0] at h3
    rw [h3]; simp [vS]
theorem str_eq {b : ByteArray} {l : List UInt8} (h : b = ⟨l.toArray⟩) : Ending.returned (.string b) = .returned (.string ⟨l.toArray⟩) := by rw [h]
set_option maxHeartbeats 3200000 in
theorem show_any (Q : Nat → Prop) : ∀ (e : Xp) (v : Value) (w : World), okE e = true → cntE e ≤ 200 → Tree Q w e v → Calls Tryz.prog 17 #[v] w (ShEnd e w) := by
  intro e
  induction e using Xp.ind with
  | h o nn kids ih =>
  intro v w hok hcn ht
  obtain ⟨ad, cap, rfl, hlen, hks⟩ := ht.shape
  simp only [Xp.o, Xp.n, Xp.ks] at *
  rw [okE_mk, Bool.and_eq_true] at hok
  rw [cntE_mk] at hcn
  have hkn := cntL_len kids
  have hIH : ∀ (k : Nat) (hk : k < kids.length) (v2 : Value) (w2 : World), Tree Q w2 kids[k] v2 → Calls Tryz.prog 17 #[v2] w2 (ShEnd kids[k] w2) := fun k hk v2 w2 h2 => by
    have hm := List.getElem_mem hk
    exact ih kids[k] hm v2 w2 (okL_mem hok.2 _ hm) (by have := cnt_le hm; omega) h2
  obtain ⟨hnd, -⟩ := hok
  clear ih
  have o2 := Own.new w #[.int .i64 o, .int .i64 nn, .slice ad kids.length cap] 24
  have hb1 : Below w.heap.size w (w.alloc (.cells #[.int .i64 o, .int .i64 nn, .slice ad kids.length cap] 24)) := by (repeat (first | exact Below.refl _ _ | assumption | refine Below.drew ?_ | refine below_drewN ?_ _ | refine Below.setCell ?_ (by first | omega | (simp <;> omega)) _ | refine Below.alloc ?_ (by first | omega | (simp <;> omega)) _))
  go_enter Tryz.func17, Tryz.ntmps17
  go_wp2_with fail
  go_loopw [3, 4] (fun z i wr => ∃ (k : Nat) (ss : List (List UInt8)), i = .int .i64 k ∧ k ≤ kids.length ∧ ss.length = k ∧ (∀ j (h : j < kids.length) (h2 : j < ss.length), ∃ q, Sw kids[j] ss[j] q) ∧ Dg.OwnRow wr (w.heap.size + 1) 9 z (ss.map vS) ∧ Own wr w.heap.size [.int .i64 o, .int .i64 nn, .slice ad kids.length cap] ∧ Below w.heap.size w wr ∧ w.heap.size + 1 ≤ wr.heap.size) (fun _ i _ => kids.length - (intOf i).toNat)
  case atStart => exact ⟨0, [], rfl, Nat.zero_le _, rfl, fun j _ h => by simp at h, Dg.OwnRow.nil _ _ _, o2, hb1, by simp⟩
  case round =>
    obtain ⟨k, ss, rfl, hkl, hsl, hss, hown, q1, q2, q4⟩ := hrel
    obtain ⟨u0, u1, u2, -, -, -, uz⟩ := q1.three
    by_cases hk : k < kids.length
    · have t1 := ht.below q2
      obtain ⟨ad', cap', hv', -, ts⟩ := t1.shape
      have hadd : ad' = ad := by simp [Xp.o, Xp.n, Xp.ks] at hv'; exact hv'.1.symm
      subst hadd
      obtain ⟨a, ad2, cap2, rfl, m0, m1, m2, tk, hab⟩ := ts.reads k hk
      simp only [Xp.ks] at m0 m1 m2 tk
      have hwk : IntKind.i64.wrap ((k : Int) + 1) = (k : Int) + 1 := IntWalk.i64_in _ (by omega)
      have hcall := hIH k hk _ wr tk
      have HN : Hid (∀ s q, Sw kids[k] s q → ∀ j (h : j < kids.length) (h2 : j < (ss ++ [s]).length), ∃ q, Sw kids[j] (ss ++ [s])[j] q) := Lib.hid (fun s q hq j h h2 => by
        rw [List.getElem_append]
        split
        · next h3 => exact hss j h h3
        · next h3 =>
          have : j = k := by simp at h2; omega
          subst this
          simp only [hsl, Nat.sub_self, List.getElem_cons_zero]
          exact ⟨q, hq⟩)
      generalize kids[k] = x at hcall HN m0 m1 m2 tk
      clear hss hv' t1 ts hnd
      go_wp2_with fail
      refine hcall.mono ?_
      rintro e w2 ⟨s, q, hq, rfl, kk⟩
      have hnx := HN.out s q hq
      have q3 := q2.trans (kk.mono q2.size)
      replace q1 := q1.below kk
      replace hown := Dg.own_below hown kk
      have q5 : w.heap.size + 1 ≤ w2.heap.size := Nat.le_trans q4 kk.size
      have hl1 : (ss.map vS).length ≤ 200 := by simp; omega
      clear u0 u1 u2 HN hq kk q2 q4
      go_wp2_with (at_builtin; refine Dg.app_row _ rfl _ _ 43 rfl (w.heap.size + 1) 9 (.string ⟨#[]⟩) 16 Tryz.underlying43 infoStr8 rfl (by decide) _ (ss.map vS) rfl (Dg.own_below hown ((Below.refl _ w2).alloc (Nat.le_refl _) _)) _ [vS s] rfl (Dg.byte_row (Own.new _ #[vS s] _)) (by intro u hu; simp at hu; subst hu; rfl) (by simp; omega) (by simp; omega) ?_; intro v3 w3 hown3 hx3; refine Hid.out ?_)
      have q6 : Below w.heap.size w w3 := by
        have a1 := (Below.refl w2.heap.size w2).alloc (Nat.le_refl _) (.cells #[vS s] 9)
        exact q3.trans ((a1.mono q3.size).trans (hx3.mono (by omega)))
      have q7 : Own w3 w.heap.size [.int .i64 o, .int .i64 nn, .slice (some a) kids.length cap] := own_bas8 (q1.below ((Below.refl w2.heap.size w2).alloc (Nat.le_refl _) _)) hx3 (by omega)
      have q8 : w.heap.size + 1 ≤ w3.heap.size := by have := hx3.size; simp at this; omega
      clear hx3 q1 q3 hown
      refine Lib.hid ?_
      go_wp2_with fail
      go_roundw
      case rel => exact ⟨k + 1, ss ++ [s], by go_num, by omega, by simp; omega, hnx, by rw [List.map_append]; exact hown3, q7, q6, q8⟩
      case measure => simp [intOf]; omega
    · have hkE : k = kids.length := by omega
      subst hkE
      clear hIH hks ht
      rcases nodeB_is hnd with ⟨rfl, hk0, h1, h2⟩ | ⟨rfl, hk0, h1, h2⟩ | ⟨rfl, hk0, h1, h2⟩ | ⟨rfl, hk0, rfl⟩ | ⟨rfl, hk0, rfl⟩ | ⟨ho, hk0, rfl⟩
      · obtain rfl := List.length_eq_zero_iff.1 hk0
        obtain ⟨a, rfl⟩ : ∃ a : Nat, nn = a := ⟨nn.toNat, by omega⟩
        clear hnd hown hss hkn hcn
        go_wp2_with fail
        refine (rdec_any a (by omega) _).mono ?_
        rintro e w' ⟨rfl, hk⟩
        obtain ⟨g1, g2⟩ := num_kind a (by omega)
        go_wp2_with fail
        go_ret
        exact ⟨_, _, .num g1 g2, rfl, q2.trans (hk.mono q2.size)⟩
      · obtain rfl := List.length_eq_zero_iff.1 hk0
        obtain ⟨a, rfl⟩ : ∃ a : Nat, nn = a := ⟨nn.toNat, by omega⟩
        clear hnd hown hss hkn hcn
        go_wp2_with fail
        refine (rtext_any a (by omega) _).mono ?_
        rintro e w' ⟨rfl, hk⟩
        obtain ⟨g1, g2⟩ := mon_kind a (by omega)
        go_wp2_with fail
        go_ret
        exact ⟨_, _, .mon g1 g2, rfl, q2.trans (hk.mono q2.size)⟩
      · obtain rfl := List.length_eq_zero_iff.1 hk0
        clear hnd hown hss hkn hcn
        obtain rfl | rfl | rfl | rfl : nn = 1 ∨ nn = 2 ∨ nn = 3 ∨ nn = 4 := by omega
        · go_wp2_with fail
          go_ret
          exact ⟨_, _, .var (t := [110, 105, 103, 104, 116, 115]) (n := 1) (by decide) (by decide) (by decide), str_eq rfl, by (repeat (first | exact Below.refl _ _ | assumption | refine Below.drew ?_ | refine below_drewN ?_ _ | refine Below.setCell ?_ (by first | omega | (simp <;> omega)) _ | refine Below.alloc ?_ (by first | omega | (simp <;> omega)) _))⟩
        · go_wp2_with fail
          go_ret
          exact ⟨_, _, .var (t := [112, 101, 114, 115, 111, 110, 115]) (n := 2) (by decide) (by decide) (by decide), str_eq rfl, by (repeat (first | exact Below.refl _ _ | assumption | refine Below.drew ?_ | refine below_drewN ?_ _ | refine Below.setCell ?_ (by first | omega | (simp <;> omega)) _ | refine Below.alloc ?_ (by first | omega | (simp <;> omega)) _))⟩
        · go_wp2_with fail
          go_ret
          exact ⟨_, _, .var (t := [110, 105, 103, 104, 116]) (n := 3) (by decide) (by decide) (by decide), str_eq rfl, by (repeat (first | exact Below.refl _ _ | assumption | refine Below.drew ?_ | refine below_drewN ?_ _ | refine Below.setCell ?_ (by first | omega | (simp <;> omega)) _ | refine Below.alloc ?_ (by first | omega | (simp <;> omega)) _))⟩
        · go_wp2_with fail
          go_ret
          exact ⟨_, _, .var (t := [119, 101, 101, 107, 100, 97, 121]) (n := 4) (by decide) (by decide) (by decide), str_eq rfl, by (repeat (first | exact Below.refl _ _ | assumption | refine Below.drew ?_ | refine below_drewN ?_ _ | refine Below.setCell ?_ (by first | omega | (simp <;> omega)) _ | refine Below.alloc ?_ (by first | omega | (simp <;> omega)) _))⟩
      · match kids, hk0, ss, hsl with
        | [x], _, [s], _ =>
          obtain ⟨g3, cap3, rfl, hc3⟩ := row_own8 (n := 1) hown rfl (by decide) (by decide)
          have r0 := hc3 0 (by simp)
          obtain ⟨p0, S0⟩ := hss 0 (by simp) (by simp)
          simp only [List.getElem_cons_zero] at r0 S0
          have z0 := (sw_count S0).2
          simp only [cntL] at hcn
          clear hnd hown hc3 hss hkn
          go_wp2_with fail
          go_ret
          exact ⟨_, _, .not S0, str_eq (by apply ByteArray.ext; simp [ByteArray.data_append, wNot]), q2⟩
      · match kids, hk0, ss, hsl with
        | [x, y, z], _, [s, t, u], _ =>
          obtain ⟨g3, cap3, rfl, hc3⟩ := row_own8 (n := 3) hown rfl (by decide) (by decide)
          have r0 := hc3 0 (by simp)
          have r1 := hc3 1 (by simp)
          have r2 := hc3 2 (by simp)
          obtain ⟨p0, S0⟩ := hss 0 (by simp) (by simp)
          obtain ⟨p1, S1⟩ := hss 1 (by simp) (by simp)
          obtain ⟨p2, S2⟩ := hss 2 (by simp) (by simp)
          simp only [List.getElem_cons_zero, List.getElem_cons_succ] at r0 S0 r1 S1 r2 S2
          have z0 := (sw_count S0).2
          have z1 := (sw_count S1).2
          have z2 := (sw_count S2).2
          simp only [cntL] at hcn
          clear hnd hown hc3 hss hkn
          have n1 : ¬ (9223372036854775807 < 4 + s.length) := by omega
          have m1 : ¬ (9223372036854775807 < (4 : Int) + (s.length : Int)) := by omega
          have n2 : ¬ (9223372036854775807 < 4 + s.length + 6) := by omega
          have m2 : ¬ (9223372036854775807 < (4 : Int) + (s.length : Int) + 6) := by omega
          have n3 : ¬ (9223372036854775807 < 4 + s.length + 6 + t.length) := by omega
          have m3 : ¬ (9223372036854775807 < (4 : Int) + (s.length : Int) + 6 + (t.length : Int)) := by omega
          have n4 : ¬ (9223372036854775807 < 4 + s.length + 6 + t.length + 6) := by omega
          have m4 : ¬ (9223372036854775807 < (4 : Int) + (s.length : Int) + 6 + (t.length : Int) + 6) := by omega
          have n5 : ¬ (9223372036854775807 < 4 + s.length + 6 + t.length + 6 + u.length) := by omega
          have m5 : ¬ (9223372036854775807 < (4 : Int) + (s.length : Int) + 6 + (t.length : Int) + 6 + (u.length : Int)) := by omega
          have n6 : ¬ (9223372036854775807 < 4 + s.length + 6 + t.length + 6 + u.length + 1) := by omega
          have m6 : ¬ (9223372036854775807 < (4 : Int) + (s.length : Int) + 6 + (t.length : Int) + 6 + (u.length : Int) + 1) := by omega
          go_wp2_with fail
          go_quiet (fail)
          go_wp2_with fail
          go_ret
          exact ⟨_, _, .ite S0 S1 S2, str_eq (by apply ByteArray.ext; simp [ByteArray.data_append, wIf, wThen, wElse]), belD q2 _⟩
      · match kids, hk0, ss, hsl with
        | [x, y], _, [s, t], _ =>
          obtain ⟨g3, cap3, rfl, hc3⟩ := row_own8 (n := 2) hown rfl (by decide) (by decide)
          have r0 := hc3 0 (by simp)
          have r1 := hc3 1 (by simp)
          obtain ⟨p0, S0⟩ := hss 0 (by simp) (by simp)
          obtain ⟨p1, S1⟩ := hss 1 (by simp) (by simp)
          simp only [List.getElem_cons_zero, List.getElem_cons_succ] at r0 S0 r1 S1
          have z0 := (sw_count S0).2
          have z1 := (sw_count S1).2
          simp only [cntL] at hcn
          clear hown hc3 hss hkn
          rcases ho with rfl | rfl | ho
          · clear hnd
            have n1 : ¬ (9223372036854775807 < 4 + s.length) := by omega
            have m1 : ¬ (9223372036854775807 < (4 : Int) + (s.length : Int)) := by omega
            have n2 : ¬ (9223372036854775807 < 4 + s.length + 2) := by omega
            have m2 : ¬ (9223372036854775807 < (4 : Int) + (s.length : Int) + 2) := by omega
            have n3 : ¬ (9223372036854775807 < 4 + s.length + 2 + t.length) := by omega
            have m3 : ¬ (9223372036854775807 < (4 : Int) + (s.length : Int) + 2 + (t.length : Int)) := by omega
            have n4 : ¬ (9223372036854775807 < 4 + s.length + 2 + t.length + 1) := by omega
            have m4 : ¬ (9223372036854775807 < (4 : Int) + (s.length : Int) + 2 + (t.length : Int) + 1) := by omega
            go_wp2_with fail
            go_quiet (fail)
            go_wp2_with fail
            go_ret
            exact ⟨_, _, .min S0 S1, str_eq (by apply ByteArray.ext; simp [ByteArray.data_append, wMin]), belD q2 _⟩
          · clear hnd
            have n1 : ¬ (9223372036854775807 < 4 + s.length) := by omega
            have m1 : ¬ (9223372036854775807 < (4 : Int) + (s.length : Int)) := by omega
            have n2 : ¬ (9223372036854775807 < 4 + s.length + 2) := by omega
            have m2 : ¬ (9223372036854775807 < (4 : Int) + (s.length : Int) + 2) := by omega
            have n3 : ¬ (9223372036854775807 < 4 + s.length + 2 + t.length) := by omega
            have m3 : ¬ (9223372036854775807 < (4 : Int) + (s.length : Int) + 2 + (t.length : Int)) := by omega
            have n4 : ¬ (9223372036854775807 < 4 + s.length + 2 + t.length + 1) := by omega
            have m4 : ¬ (9223372036854775807 < (4 : Int) + (s.length : Int) + 2 + (t.length : Int) + 1) := by omega
            go_wp2_with fail
            go_quiet (fail)
            go_wp2_with fail
            go_ret
            exact ⟨_, _, .max S0 S1, str_eq (by apply ByteArray.ext; simp [ByteArray.data_append, wMax]), belD q2 _⟩
          · have hmm := @run_makeMap Tryz.prog
            have hp0 := sgn_put0
            have hp1 := sgn_put1
            have hp2 := sgn_put2
            have hp3 := sgn_put3
            have hp4 := sgn_put4
            have hp5 := sgn_put5
            have hp6 := sgn_put6
            have hp7 := sgn_put7
            have bb : Below wr.heap.size wr (wr.alloc (.map #[{ key := .int .i64 4, val := .string ⟨#[43]⟩, born := 0 }, { key := .int .i64 5, val := .string ⟨#[45]⟩, born := 1 }, { key := .int .i64 6, val := .string ⟨#[42]⟩, born := 2 }, { key := .int .i64 7, val := .string ⟨#[47]⟩, born := 3 }, { key := .int .i64 11, val := .string ⟨#[60]⟩, born := 4 }, { key := .int .i64 12, val := .string ⟨#[61]⟩, born := 5 }, { key := .int .i64 13, val := .string ⟨#[97, 110, 100]⟩, born := 6 }, { key := .int .i64 14, val := .string ⟨#[111, 114]⟩, born := 7 }] 8)) := (Below.refl _ wr).alloc (Nat.le_refl _) _
            have b0 := (bb.cell (p := ⟨g3, 0, none⟩) (lblock_lt r0)).trans r0
            have b1 := (bb.cell (p := ⟨g3, 1, none⟩) (lblock_lt r1)).trans r1
            have q9 := q1.below bb
            have qz : Below w.heap.size w (wr.alloc (.map #[{ key := .int .i64 4, val := .string ⟨#[43]⟩, born := 0 }, { key := .int .i64 5, val := .string ⟨#[45]⟩, born := 1 }, { key := .int .i64 6, val := .string ⟨#[42]⟩, born := 2 }, { key := .int .i64 7, val := .string ⟨#[47]⟩, born := 3 }, { key := .int .i64 11, val := .string ⟨#[60]⟩, born := 4 }, { key := .int .i64 12, val := .string ⟨#[61]⟩, born := 5 }, { key := .int .i64 13, val := .string ⟨#[97, 110, 100]⟩, born := 6 }, { key := .int .i64 14, val := .string ⟨#[111, 114]⟩, born := 7 }] 8)) := q2.trans (bb.mono q2.size)
            rcases ho with rfl | rfl | rfl | rfl | rfl | rfl | rfl | rfl
            · clear hnd
              obtain ⟨y0, y1, y2, -, -, -, yz⟩ := q9.three
              have hlk := sgn_at0 wr
              have n1 : ¬ (9223372036854775807 < 1 + s.length) := by omega
              have m1 : ¬ (9223372036854775807 < (1 : Int) + (s.length : Int)) := by omega
              have n2 : ¬ (9223372036854775807 < 1 + s.length + 1) := by omega
              have m2 : ¬ (9223372036854775807 < (1 : Int) + (s.length : Int) + 1) := by omega
              have n3 : ¬ (9223372036854775807 < 1 + s.length + 1 + 1) := by omega
              have m3 : ¬ (9223372036854775807 < (1 : Int) + (s.length : Int) + 1 + 1) := by omega
              have n4 : ¬ (9223372036854775807 < 1 + s.length + 1 + 1 + 1) := by omega
              have m4 : ¬ (9223372036854775807 < (1 : Int) + (s.length : Int) + 1 + 1 + 1) := by omega
              have n5 : ¬ (9223372036854775807 < 1 + s.length + 1 + 1 + 1 + t.length) := by omega
              have m5 : ¬ (9223372036854775807 < (1 : Int) + (s.length : Int) + 1 + 1 + 1 + (t.length : Int)) := by omega
              have n6 : ¬ (9223372036854775807 < 1 + s.length + 1 + 1 + 1 + t.length + 1) := by omega
              have m6 : ¬ (9223372036854775807 < (1 : Int) + (s.length : Int) + 1 + 1 + 1 + (t.length : Int) + 1) := by omega
              go_wp2_with fail
              go_quiet (fail)
              go_wp2_with fail
              go_ret
              exact ⟨_, _, .two S0 .add S1, str_eq (by apply ByteArray.ext; simp [ByteArray.data_append]), belD qz _⟩
            · clear hnd
              obtain ⟨y0, y1, y2, -, -, -, yz⟩ := q9.three
              have hlk := sgn_at1 wr
              have n1 : ¬ (9223372036854775807 < 1 + s.length) := by omega
              have m1 : ¬ (9223372036854775807 < (1 : Int) + (s.length : Int)) := by omega
              have n2 : ¬ (9223372036854775807 < 1 + s.length + 1) := by omega
              have m2 : ¬ (9223372036854775807 < (1 : Int) + (s.length : Int) + 1) := by omega
              have n3 : ¬ (9223372036854775807 < 1 + s.length + 1 + 1) := by omega
              have m3 : ¬ (9223372036854775807 < (1 : Int) + (s.length : Int) + 1 + 1) := by omega
              have n4 : ¬ (9223372036854775807 < 1 + s.length + 1 + 1 + 1) := by omega
              have m4 : ¬ (9223372036854775807 < (1 : Int) + (s.length : Int) + 1 + 1 + 1) := by omega
              have n5 : ¬ (9223372036854775807 < 1 + s.length + 1 + 1 + 1 + t.length) := by omega
              have m5 : ¬ (9223372036854775807 < (1 : Int) + (s.length : Int) + 1 + 1 + 1 + (t.length : Int)) := by omega
              have n6 : ¬ (9223372036854775807 < 1 + s.length + 1 + 1 + 1 + t.length + 1) := by omega
              have m6 : ¬ (9223372036854775807 < (1 : Int) + (s.length : Int) + 1 + 1 + 1 + (t.length : Int) + 1) := by omega
              go_wp2_with fail
              go_quiet (fail)
              go_wp2_with fail
              go_ret
              exact ⟨_, _, .two S0 .sub S1, str_eq (by apply ByteArray.ext; simp [ByteArray.data_append]), belD qz _⟩
            · clear hnd
              obtain ⟨y0, y1, y2, -, -, -, yz⟩ := q9.three
              have hlk := sgn_at2 wr
              have n1 : ¬ (9223372036854775807 < 1 + s.length) := by omega
              have m1 : ¬ (9223372036854775807 < (1 : Int) + (s.length : Int)) := by omega
              have n2 : ¬ (9223372036854775807 < 1 + s.length + 1) := by omega
              have m2 : ¬ (9223372036854775807 < (1 : Int) + (s.length : Int) + 1) := by omega
              have n3 : ¬ (9223372036854775807 < 1 + s.length + 1 + 1) := by omega
              have m3 : ¬ (9223372036854775807 < (1 : Int) + (s.length : Int) + 1 + 1) := by omega
              have n4 : ¬ (9223372036854775807 < 1 + s.length + 1 + 1 + 1) := by omega
              have m4 : ¬ (9223372036854775807 < (1 : Int) + (s.length : Int) + 1 + 1 + 1) := by omega
              have n5 : ¬ (9223372036854775807 < 1 + s.length + 1 + 1 + 1 + t.length) := by omega
              have m5 : ¬ (9223372036854775807 < (1 : Int) + (s.length : Int) + 1 + 1 + 1 + (t.length : Int)) := by omega
              have n6 : ¬ (9223372036854775807 < 1 + s.length + 1 + 1 + 1 + t.length + 1) := by omega
              have m6 : ¬ (9223372036854775807 < (1 : Int) + (s.length : Int) + 1 + 1 + 1 + (t.length : Int) + 1) := by omega
              go_wp2_with fail
              go_quiet (fail)
              go_wp2_with fail
              go_ret
              exact ⟨_, _, .two S0 .mul S1, str_eq (by apply ByteArray.ext; simp [ByteArray.data_append]), belD qz _⟩
            · clear hnd
              obtain ⟨y0, y1, y2, -, -, -, yz⟩ := q9.three
              have hlk := sgn_at3 wr
              have n1 : ¬ (9223372036854775807 < 1 + s.length) := by omega
              have m1 : ¬ (9223372036854775807 < (1 : Int) + (s.length : Int)) := by omega
              have n2 : ¬ (9223372036854775807 < 1 + s.length + 1) := by omega
              have m2 : ¬ (9223372036854775807 < (1 : Int) + (s.length : Int) + 1) := by omega
              have n3 : ¬ (9223372036854775807 < 1 + s.length + 1 + 1) := by omega
              have m3 : ¬ (9223372036854775807 < (1 : Int) + (s.length : Int) + 1 + 1) := by omega
              have n4 : ¬ (9223372036854775807 < 1 + s.length + 1 + 1 + 1) := by omega
              have m4 : ¬ (9223372036854775807 < (1 : Int) + (s.length : Int) + 1 + 1 + 1) := by omega
              have n5 : ¬ (9223372036854775807 < 1 + s.length + 1 + 1 + 1 + t.length) := by omega
              have m5 : ¬ (9223372036854775807 < (1 : Int) + (s.length : Int) + 1 + 1 + 1 + (t.length : Int)) := by omega
              have n6 : ¬ (9223372036854775807 < 1 + s.length + 1 + 1 + 1 + t.length + 1) := by omega
              have m6 : ¬ (9223372036854775807 < (1 : Int) + (s.length : Int) + 1 + 1 + 1 + (t.length : Int) + 1) := by omega
              go_wp2_with fail
              go_quiet (fail)
              go_wp2_with fail
              go_ret
              exact ⟨_, _, .two S0 .div S1, str_eq (by apply ByteArray.ext; simp [ByteArray.data_append]), belD qz _⟩
            · clear hnd
              obtain ⟨y0, y1, y2, -, -, -, yz⟩ := q9.three
              have hlk := sgn_at4 wr
              have n1 : ¬ (9223372036854775807 < 1 + s.length) := by omega
              have m1 : ¬ (9223372036854775807 < (1 : Int) + (s.length : Int)) := by omega
              have n2 : ¬ (9223372036854775807 < 1 + s.length + 1) := by omega
              have m2 : ¬ (9223372036854775807 < (1 : Int) + (s.length : Int) + 1) := by omega
              have n3 : ¬ (9223372036854775807 < 1 + s.length + 1 + 1) := by omega
              have m3 : ¬ (9223372036854775807 < (1 : Int) + (s.length : Int) + 1 + 1) := by omega
              have n4 : ¬ (9223372036854775807 < 1 + s.length + 1 + 1 + 1) := by omega
              have m4 : ¬ (9223372036854775807 < (1 : Int) + (s.length : Int) + 1 + 1 + 1) := by omega
              have n5 : ¬ (9223372036854775807 < 1 + s.length + 1 + 1 + 1 + t.length) := by omega
              have m5 : ¬ (9223372036854775807 < (1 : Int) + (s.length : Int) + 1 + 1 + 1 + (t.length : Int)) := by omega
              have n6 : ¬ (9223372036854775807 < 1 + s.length + 1 + 1 + 1 + t.length + 1) := by omega
              have m6 : ¬ (9223372036854775807 < (1 : Int) + (s.length : Int) + 1 + 1 + 1 + (t.length : Int) + 1) := by omega
              go_wp2_with fail
              go_quiet (fail)
              go_wp2_with fail
              go_ret
              exact ⟨_, _, .two S0 .less S1, str_eq (by apply ByteArray.ext; simp [ByteArray.data_append]), belD qz _⟩
            · clear hnd
              obtain ⟨y0, y1, y2, -, -, -, yz⟩ := q9.three
              have hlk := sgn_at5 wr
              have n1 : ¬ (9223372036854775807 < 1 + s.length) := by omega
              have m1 : ¬ (9223372036854775807 < (1 : Int) + (s.length : Int)) := by omega
              have n2 : ¬ (9223372036854775807 < 1 + s.length + 1) := by omega
              have m2 : ¬ (9223372036854775807 < (1 : Int) + (s.length : Int) + 1) := by omega
              have n3 : ¬ (9223372036854775807 < 1 + s.length + 1 + 1) := by omega
              have m3 : ¬ (9223372036854775807 < (1 : Int) + (s.length : Int) + 1 + 1) := by omega
              have n4 : ¬ (9223372036854775807 < 1 + s.length + 1 + 1 + 1) := by omega
              have m4 : ¬ (9223372036854775807 < (1 : Int) + (s.length : Int) + 1 + 1 + 1) := by omega
              have n5 : ¬ (9223372036854775807 < 1 + s.length + 1 + 1 + 1 + t.length) := by omega
              have m5 : ¬ (9223372036854775807 < (1 : Int) + (s.length : Int) + 1 + 1 + 1 + (t.length : Int)) := by omega
              have n6 : ¬ (9223372036854775807 < 1 + s.length + 1 + 1 + 1 + t.length + 1) := by omega
              have m6 : ¬ (9223372036854775807 < (1 : Int) + (s.length : Int) + 1 + 1 + 1 + (t.length : Int) + 1) := by omega
              go_wp2_with fail
              go_quiet (fail)
              go_wp2_with fail
              go_ret
              exact ⟨_, _, .two S0 .equal S1, str_eq (by apply ByteArray.ext; simp [ByteArray.data_append]), belD qz _⟩
            · clear hnd
              obtain ⟨y0, y1, y2, -, -, -, yz⟩ := q9.three
              have hlk := sgn_at6 wr
              have n1 : ¬ (9223372036854775807 < 1 + s.length) := by omega
              have m1 : ¬ (9223372036854775807 < (1 : Int) + (s.length : Int)) := by omega
              have n2 : ¬ (9223372036854775807 < 1 + s.length + 1) := by omega
              have m2 : ¬ (9223372036854775807 < (1 : Int) + (s.length : Int) + 1) := by omega
              have n3 : ¬ (9223372036854775807 < 1 + s.length + 1 + 3) := by omega
              have m3 : ¬ (9223372036854775807 < (1 : Int) + (s.length : Int) + 1 + 3) := by omega
              have n4 : ¬ (9223372036854775807 < 1 + s.length + 1 + 3 + 1) := by omega
              have m4 : ¬ (9223372036854775807 < (1 : Int) + (s.length : Int) + 1 + 3 + 1) := by omega
              have n5 : ¬ (9223372036854775807 < 1 + s.length + 1 + 3 + 1 + t.length) := by omega
              have m5 : ¬ (9223372036854775807 < (1 : Int) + (s.length : Int) + 1 + 3 + 1 + (t.length : Int)) := by omega
              have n6 : ¬ (9223372036854775807 < 1 + s.length + 1 + 3 + 1 + t.length + 1) := by omega
              have m6 : ¬ (9223372036854775807 < (1 : Int) + (s.length : Int) + 1 + 3 + 1 + (t.length : Int) + 1) := by omega
              go_wp2_with fail
              go_quiet (fail)
              go_wp2_with fail
              go_ret
              exact ⟨_, _, .two S0 .and S1, str_eq (by apply ByteArray.ext; simp [ByteArray.data_append, wAnd]), belD qz _⟩
            · clear hnd
              obtain ⟨y0, y1, y2, -, -, -, yz⟩ := q9.three
              have hlk := sgn_at7 wr
              have n1 : ¬ (9223372036854775807 < 1 + s.length) := by omega
              have m1 : ¬ (9223372036854775807 < (1 : Int) + (s.length : Int)) := by omega
              have n2 : ¬ (9223372036854775807 < 1 + s.length + 1) := by omega
              have m2 : ¬ (9223372036854775807 < (1 : Int) + (s.length : Int) + 1) := by omega
              have n3 : ¬ (9223372036854775807 < 1 + s.length + 1 + 2) := by omega
              have m3 : ¬ (9223372036854775807 < (1 : Int) + (s.length : Int) + 1 + 2) := by omega
              have n4 : ¬ (9223372036854775807 < 1 + s.length + 1 + 2 + 1) := by omega
              have m4 : ¬ (9223372036854775807 < (1 : Int) + (s.length : Int) + 1 + 2 + 1) := by omega
              have n5 : ¬ (9223372036854775807 < 1 + s.length + 1 + 2 + 1 + t.length) := by omega
              have m5 : ¬ (9223372036854775807 < (1 : Int) + (s.length : Int) + 1 + 2 + 1 + (t.length : Int)) := by omega
              have n6 : ¬ (9223372036854775807 < 1 + s.length + 1 + 2 + 1 + t.length + 1) := by omega
              have m6 : ¬ (9223372036854775807 < (1 : Int) + (s.length : Int) + 1 + 2 + 1 + (t.length : Int) + 1) := by omega
              go_wp2_with fail
              go_quiet (fail)
              go_wp2_with fail
              go_ret
              exact ⟨_, _, .two S0 .or S1, str_eq (by apply ByteArray.ext; simp [ByteArray.data_append, wOr]), belD qz _⟩
end Go.Proofs.YthnlenbfknbmcaaGreatDoor
