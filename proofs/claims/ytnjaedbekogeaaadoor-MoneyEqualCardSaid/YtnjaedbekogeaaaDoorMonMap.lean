/-
  The map of rates, with an array of two currencies as its key: inserted into, looked up.
-/
import Derived.Test.YtnjaedbekogeaaaDoorMonA
import Derived.Laws.StructEq
import Derived.DeepKeys
import Derived.Maps.Own
namespace Go.Proofs.YtnjaedbekogeaaaDoor
open Go.RowKit
set_option maxRecDepth 100000

def pairV (a b : Int) : Value := .agg #[.int .i64 a, .int .i64 b]
def entV (i : Nat) (x : Ex) : MapEntry := { key := pairV x.f x.t, val := ratV x.n x.d, born := i }
def entsV : Nat → List Ex → List MapEntry
  | _, [] => []
  | i, x :: r => entV i x :: entsV (i + 1) r
theorem entsV_app : ∀ (i : Nat) (a b : List Ex), entsV i (a ++ b) = entsV i a ++ entsV (i + a.length) b
  | _, [], _ => rfl
  | i, x :: a, b => by simp only [List.cons_append, entsV, entsV_app (i + 1) a b, List.length_cons]; rw [show i + 1 + a.length = i + (a.length + 1) by omega]

theorem under_pair : Tryd.prog.underlying 58 = some (.array 2 3) := by kernel_rfl
theorem cells_int : Tryd.prog.cellsOf 3 = 1 := by kernel_rfl
theorem run_equal_pair (a b c d : Int) (w : World) : (Op.equal 58 (pairV a b) (pairV c d)).run Tryd.prog w = .ok (a == c && b == d) w := by
  obtain ⟨i, hi⟩ : ∃ i, Tryd.prog.info? 3 = some i := Option.isSome_iff_exists.1 (by kernel_rfl)
  obtain ⟨m, hm⟩ : ∃ m, Op.maxDepth = m + 1 + 1 := ⟨9998, rfl⟩
  unfold Op.equal pairV
  rw [hm, run_equalIn_array w (m + 1) _ _ under_pair hi]
  by_cases h1 : a = c <;> by_cases h2 : b = d <;> simp [Op.eqItems, List.range, List.range.loop, part, go_sem, run_equalIn_int _ _ _ _ _ _ _ Tryd.underlying3, h1, h2, cells_int]
theorem run_check_pair' (em : Bool) (n : Nat) (a b : Int) (w : World) : (Instr.checkKey em (n + 1 + 1) 58 (pairV a b)).run Tryd.prog w = .ok () w := by
  have h : ∀ z : Int, (Instr.checkKey em (n + 1) 3 (.int .i64 z)).run Tryd.prog w = .ok () w := fun z => run_checkKey_int' Tryd.underlying3 em n z w
  have hs : (sizeOf 3).run Tryd.prog w = .ok 1 w := by kernel_rfl
  have hp0 : (part 3 #[.int .i64 a, .int .i64 b] (0 * 1)).run Tryd.prog w = .ok (.int .i64 a) w := by kernel_rfl
  have hp1 : (part 3 #[.int .i64 a, .int .i64 b] (1 * 1)).run Tryd.prog w = .ok (.int .i64 b) w := by kernel_rfl
  unfold pairV
  rw [Instr.checkKey]
  simp only [Sem.run_bind, run_underlying under_pair, Result.andThen_ok, Std.Legacy.Range.forIn_eq_forIn_range', Std.Legacy.Range.size, Nat.sub_zero, Nat.add_one_sub_one, Nat.div_one]
  rw [show List.range' 0 2 = [0, 1] from rfl]
  simp only [List.forIn_cons, List.forIn_nil, Sem.run_bind, hs, hp0, hp1, h, Result.andThen_ok, Sem.run_pure]
theorem run_check_pair (em : Bool) (a b : Int) (w : World) : (Instr.checkKey em 10000 58 (pairV a b)).run Tryd.prog w = .ok () w := run_check_pair' em 9998 a b w
theorem run_asking (a b : Int) (w : World) : ∀ (l : List Ex) (j i : Nat), ∃ r, (Instr.findAsking 58 (pairV a b) (entsV j l) i).run Tryd.prog w = .ok r w ∧
    (match rateOf l a b with | none => r = none | some x => ∃ k, r = some (k, ratV x.n x.d))
  | [], _, _ => ⟨none, by simp [entsV, Instr.findAsking, go_sem], rfl⟩
  | x :: l, j, i => by
    have he := run_equal_pair a b x.f x.t w
    by_cases hk : a = x.f ∧ b = x.t
    · refine ⟨some (i, ratV x.n x.d), ?_, ?_⟩
      · simp [entsV, entV, Instr.findAsking, hk.1, hk.2, go_sem, Result.andThen, run_equal_pair]
      · simp [rateOf, keyB, hk.1, hk.2]
    · obtain ⟨r, hr, hm⟩ := run_asking a b w l (j + 1) (i + 1)
      have hf : (a == x.f && b == x.t) = false := by simpa using hk
      have hf2 : keyB a b x = false := by simp [keyB]; intro e1 e2; exact hk ⟨e1.symm, e2.symm⟩
      refine ⟨r, ?_, ?_⟩
      · rw [hf] at he
        simp [entsV, entV, Instr.findAsking, he, go_sem, Result.andThen, hr]
      · unfold rateOf at *
        rw [List.find?_cons, hf2]
        exact hm
theorem findNow_pair (a b : Int) (j i : Nat) : ∀ (l : List Ex), Instr.findNow (.array 2 3) (pairV a b) (entsV j l) i = none ∨ l = []
  | [] => .inr rfl
  | x :: l => .inl (by simp [entsV, Instr.findNow, Instr.sameNow])
theorem run_find (a b : Int) (w : World) (l : List Ex) : ∃ r, (Instr.findKey 58 (pairV a b) (entsV 0 l)).run Tryd.prog w = .ok r w ∧
    (match rateOf l a b with | none => r = none | some x => ∃ k, r = some (k, ratV x.n x.d)) := by
  obtain ⟨r, hr, hm⟩ := run_asking a b w l 0 0
  rcases findNow_pair a b 0 0 l with h | rfl
  · exact ⟨r, by simp [Instr.findKey, run_underlying under_pair, h, hr, Result.andThen], hm⟩
  · exact ⟨none, by simp [Instr.findKey, run_underlying under_pair, entsV, Instr.findNow, Result.andThen, go_sem], rfl⟩

/-- the block of the map -/
def MapAt (w : World) (b : Nat) (l : List Ex) : Prop := w.heap[b]? = some (.map (entsV 0 l).toArray l.length)
theorem MapAt.below {w w1 : World} {b : Nat} {l : List Ex} (h : MapAt w b l) (hb : Below w.heap.size w w1) : MapAt w1 b l :=
  (hb.block b (Array.getElem?_eq_some_iff.1 h).1).trans h
theorem under_map : Tryd.prog.underlying 54 = some (.map 58 40) := by kernel_rfl
theorem look_in {w : World} {b : Nat} {l : List Ex} {x : Ex} (h : MapAt w b l) (a c : Int) (hr : rateOf l a c = some x) :
    (Instr.lookup 54 (.map (some b)) (.agg #[.int .i64 a, .int .i64 c]) true).run Tryd.prog w = .ok (.tuple #[.agg #[.int .i64 x.n, .int .i64 x.d], .bool true]) w := by
  obtain ⟨r, hf, hm⟩ := run_find a c w l
  rw [hr] at hm
  obtain ⟨k, rfl⟩ := hm
  have hc := fun em => run_check_pair em a c w
  unfold pairV at hc hf
  simp [Instr.lookup, run_underlying under_map, MapKept.run_getObj_map h, hc, hf, Result.andThen, ratV]
theorem look_out {w : World} {b : Nat} {l : List Ex} (h : MapAt w b l) (a c : Int) (hr : rateOf l a c = none) :
    (Instr.lookup 54 (.map (some b)) (.agg #[.int .i64 a, .int .i64 c]) true).run Tryd.prog w = .ok (.tuple #[.agg #[.int .i64 0, .int .i64 0], .bool false]) w := by
  obtain ⟨r, hf, hm⟩ := run_find a c w l
  rw [hr] at hm
  subst hm
  have hc := fun em => run_check_pair em a c w
  have hz : (zeroValue 40).run Tryd.prog w = .ok (.agg #[.int .i64 0, .int .i64 0]) w := by kernel_rfl
  unfold pairV at hc hf
  simp [Instr.lookup, run_underlying under_map, MapKept.run_getObj_map h, hc, hf, Result.andThen, hz]
/-- the world behind an insertion -/
theorem put_new {w : World} {b : Nat} {l : List Ex} (x : Ex) (h : MapAt w b l) (hr : rateOf l x.f x.t = none) : ∃ w',
    (Instr.mapUpdate 54 (.map (some b)) (.agg #[.int .i64 x.f, .int .i64 x.t]) (.agg #[.int .i64 x.n, .int .i64 x.d])).run Tryd.prog w = .ok () w' ∧ MapAt w' b (l ++ [x]) ∧ ∀ B, B ≤ b → Below B w w' := by
  obtain ⟨r, hf, hm⟩ := run_find x.f x.t w l
  rw [hr] at hm
  subst hm
  have hc := fun em => run_check_pair em x.f x.t w
  have hlt := (Array.getElem?_eq_some_iff.1 h).1
  unfold pairV at hc hf
  refine ⟨{ w with heap := w.heap.setIfInBounds b (.map ((entsV 0 l).toArray.push { key := pairV x.f x.t, val := ratV x.n x.d, born := l.length }) (l.length + 1)) }, ?_, ?_, fun B hB => ?_⟩
  · simp [Instr.mapUpdate, run_underlying under_map, MapKept.run_getObj_map h, hc, hf, Result.andThen, MapKept.run_setObj_map _ h, pairV, ratV]
  · unfold MapAt
    rw [entsV_app, Nat.zero_add]
    simp [hlt, entsV, entV]
  · refine ⟨rfl, rfl, rfl, by simp, fun i hi => ?_⟩
    show (w.heap.setIfInBounds b _)[i]? = w.heap[i]?
    rw [Array.getElem?_setIfInBounds, if_neg (by omega)]
end Go.Proofs.YtnjaedbekogeaaaDoor
