/-
  A map of known numbers: looked up, written.
-/
import Derived.Test.YtbkcpcjdpfndpaaTypFew
namespace Go.Proofs.Ytbkcpcjdpfndpaa
open Go.RowKit Go.Shelf
set_option maxRecDepth 100000

def entsB : Nat → List Int → List MapEntry
  | _, [] => []
  | i, a :: r => { key := .int .i64 a, val := .bool true, born := i } :: entsB (i + 1) r
theorem entsB_app : ∀ (i : Nat) (a b : List Int), entsB i (a ++ b) = entsB i a ++ entsB (i + a.length) b
  | _, [], _ => rfl
  | i, x :: a, b => by simp only [List.cons_append, entsB, entsB_app (i + 1) a b, List.length_cons]; rw [show i + 1 + a.length = i + (a.length + 1) by omega]
theorem entsB_len : ∀ (i : Nat) (a : List Int), (entsB i a).length = a.length
  | _, [] => rfl
  | i, x :: a => by simp only [entsB, List.length_cons, entsB_len (i + 1) a]
theorem findB_no {a : Int} : ∀ {ks : List Int} {j i : Nat}, a ∉ ks → Instr.findNow (.int .i64) (.int .i64 a) (entsB j ks) i = some none
  | [], _, _, _ => rfl
  | b :: r, j, i, h => by
    have hne : (a == b) = false := by rw [beq_eq_false_iff_ne]; rintro rfl; exact h (by simp)
    simp only [entsB, Instr.findNow, Instr.sameNow, if_true, hne]
    exact findB_no (fun h2 => h (by simp [h2]))
theorem findB_yes {a : Int} : ∀ {ks : List Int} {j i : Nat}, a ∈ ks → ∃ q, Instr.findNow (.int .i64) (.int .i64 a) (entsB j ks) i = some (some (i + q, .bool true)) ∧ (entsB j ks)[q]? = some { key := .int .i64 a, val := .bool true, born := j + q }
  | b :: r, j, i, h => by
    by_cases e : a = b
    · subst e
      exact ⟨0, by simp [entsB, Instr.findNow, Instr.sameNow], by simp [entsB]⟩
    · have hne : (a == b) = false := by rw [beq_eq_false_iff_ne]; exact e
      obtain ⟨q, h1, h2⟩ := findB_yes (ks := r) (j := j + 1) (i := i + 1) (by simpa [e] using h)
      refine ⟨q + 1, ?_, ?_⟩
      · simp only [entsB, Instr.findNow, Instr.sameNow, if_true, hne]
        rw [h1, show i + 1 + q = i + (q + 1) by omega]
      · simp only [entsB, List.getElem?_cons_succ]
        rw [h2, show j + 1 + q = j + (q + 1) by omega]
/-- the block of the map -/
def MapB (w : World) (m : Nat) (ks : List Int) : Prop := w.heap[m]? = some (.map (entsB 0 ks).toArray ks.length)
theorem MapB.below {w w1 : World} {m : Nat} {ks : List Int} (h : MapB w m ks) (hb : Below w.heap.size w w1) : MapB w1 m ks := (hb.block m (Array.getElem?_eq_some_iff.1 h).1).trans h
theorem MapB.lt {w : World} {m : Nat} {ks : List Int} (h : MapB w m ks) : m < w.heap.size := (Array.getElem?_eq_some_iff.1 h).1
theorem MapB.grown {w w' : World} {m : Nat} {ks : List Int} {row : Option Nat} (h : MapB w m ks) (hg : w.grownBy w' row) (hn : ∀ r, row = some r → r ≠ m) : MapB w' m ks := (hg.block m h.lt (fun e => hn m e.symm rfl)).trans h
theorem mapB_new (w : World) : MapB (w.alloc (.map #[] 0)) w.heap.size [] := (MapKept.heap_alloc w _).1
theorem under_mapB : Try.prog.underlying 46 = some (.map 3 4) := by kernel_rfl
theorem look_B {w : World} {m : Nat} {ks : List Int} (h : MapB w m ks) (a : Int) : (Instr.lookup 46 (.map (some m)) (.int .i64 a) false).run Try.prog w = .ok (.bool (decide (a ∈ ks))) w := by
  by_cases ha : a ∈ ks
  · obtain ⟨q, h1, _⟩ := findB_yes (j := 0) (i := 0) ha
    rw [show decide (a ∈ ks) = true by simpa using ha]
    exact run_lookT under_mapB Try.underlying3 w m _ _ _ a _ h h1
  · rw [show decide (a ∈ ks) = false by simpa using ha]
    exact run_lookN under_mapB Try.underlying3 w m _ _ a _ (by kernel_rfl) h (findB_no ha)
theorem kept_setObj {w : World} {m : Nat} {o : Obj} : Kept (some m) w { w with heap := w.heap.setIfInBounds m o } := by
  refine ⟨rfl, rfl, rfl, by simp, fun k hk hq => ?_⟩
  show (w.heap.setIfInBounds m o)[k]? = w.heap[k]?
  rw [Array.getElem?_setIfInBounds, if_neg (fun e => hq (by rw [e]))]
/-- the keys behind a writing -/
def addB (ks : List Int) (a : Int) : List Int := if a ∈ ks then ks else ks ++ [a]
theorem mem_addB {ks : List Int} {a b : Int} : b ∈ addB ks a ↔ b ∈ ks ∨ b = a := by
  unfold addB
  split
  · next h => exact ⟨.inl, fun h2 => h2.elim id (fun e => e ▸ h)⟩
  · simp
theorem put_B {w : World} {m : Nat} {ks : List Int} (h : MapB w m ks) (a : Int) : ∃ w', (Instr.mapUpdate 46 (.map (some m)) (.int .i64 a) (.bool true)).run Try.prog w = .ok () w' ∧ MapB w' m (addB ks a) ∧ Kept (some m) w w' := by
  have hlt := h.lt
  have hh : w.heap[m]? = some (.map (entsB 0 ks).toArray ks.length) := h
  by_cases ha : a ∈ ks
  · obtain ⟨q, h1, h2⟩ := findB_yes (j := 0) (i := 0) ha
    rw [Nat.zero_add] at h1
    have hmod : (entsB 0 ks).modify q (fun e => { e with key := .int .i64 a, val := .bool true }) = entsB 0 ks := by
      apply List.ext_getElem?
      intro i
      rw [List.getElem?_modify]
      by_cases e : q = i
      · subst e
        simp [h2]
      · cases (entsB 0 ks)[i]? <;> simp [e]
    refine ⟨{ w with heap := w.heap.setIfInBounds m (.map (entsB 0 ks).toArray ks.length) }, ?_, ?_, kept_setObj⟩
    · have hk : (Instr.keyThatStays (.int .i64 a) (.int .i64 a)).run Try.prog w = .ok (.int .i64 a) w := by
        simp [Instr.keyThatStays, Instr.sameBits, go_sem]
      simp [Instr.mapUpdate, run_underlying under_mapB, MapKept.run_getObj_map hh, run_checkT Try.underlying3, Instr.findKey, run_underlying Try.underlying3, h1, h2, hk, hmod, MapKept.run_setObj_map _ hh, Result.andThen]
    · unfold MapB addB
      rw [if_pos ha]
      simp [hlt]
  · refine ⟨{ w with heap := w.heap.setIfInBounds m (.map ((entsB 0 ks).toArray.push { key := .int .i64 a, val := .bool true, born := ks.length }) (ks.length + 1)) }, ?_, ?_, kept_setObj⟩
    · simp [Instr.mapUpdate, run_underlying under_mapB, MapKept.run_getObj_map hh, run_checkT Try.underlying3, Instr.findKey, run_underlying Try.underlying3, findB_no (j := 0) (i := 0) ha, MapKept.run_setObj_map _ hh, Result.andThen]
    · unfold MapB addB
      rw [if_neg ha, entsB_app, Nat.zero_add]
      simp [hlt, entsB]
end Go.Proofs.Ytbkcpcjdpfndpaa
