/-
  Slices of slices; arrays of eight bytes compared.
-/
import Derived.Test.YtpgnlmhkigpjgaaCodFrm
import Derived.Laws.StructEq
import Derived.DeepKeys
import Derived.DataElems
namespace Go.Proofs.Ytpgnlmhkigpjgaa
open Go.RowKit

/-- no longer than its room -/
def Fat (v : Value) : Prop := ∀ ad n cap, v = .slice ad n cap → n ≤ cap
theorem fat_own {w : World} {base : Nat} {e : TypeId} {v : Value} {xs : List Value} (h : OwnRow w base e v xs) : Fat v := by
  obtain ⟨_, ⟨rfl, _⟩ | ⟨g, cap', cur, rfl, _, _, hc, _⟩⟩ := h
  · intro _ _ _ e; cases e; exact Nat.le_refl _
  · intro _ _ _ e; cases e; exact hc
theorem fat_mk (ad : Option Addr) {n cap : Nat} (h : n ≤ cap) : Fat (.slice ad n cap) := by intro _ _ _ e; cases e; exact h

/-- from l up to h, with room up to m -/
theorem row_sub {w : World} {ad : Option Addr} {n cap : Nat} {xs : List Value} (hr : Row w (.slice ad n cap) xs) (l h m : Nat) (h1 : l ≤ h) (h2 : h ≤ n) (h3 : h ≤ m) (h4 : m ≤ cap) : Row w (sliced ad l h m 1) ((xs.take h).drop l) ∧ Fat (sliced ad l h m 1) := by
  obtain ⟨_, _, e0⟩ := hr.shape
  have hn : n = xs.length := by cases e0; rfl
  have hlen : ((xs.take h).drop l).length = h - l := by rw [List.length_drop, List.length_take]; omega
  have hsh := hr.short
  refine ⟨⟨⟨_, _, by rw [hlen]; rfl⟩, fun ad' n' c' e i hi => ?_, by omega, fun n' c' e => ?_⟩, fat_mk _ (by omega)⟩
  · unfold sliced at e
    rw [if_neg (by omega), Nat.mul_one] at e
    cases e
    rw [hlen] at hi
    obtain ⟨a, ha, hb, hc⟩ := hr.cells _ _ _ rfl (l + i) (by omega)
    subst ha
    refine ⟨_, rfl, by rw [blk_add]; exact hb, ?_⟩
    rw [Addr.add_add, hc]
    simp
  · unfold sliced at e
    have had : ad = none := by
      cases ad with
      | none => rfl
      | some a => simp at e; split at e <;> simp_all
    subst had
    obtain ⟨q, rfl⟩ := hr.bare _ _ rfl
    have : m - l = c' ∧ h - l = n' := by injection e with _ e2 e3; exact ⟨e3, e2⟩
    omega

theorem part_u8 (xs : List UInt8) (i : Nat) (x : UInt8) (h : xs[i]? = some x) (w : World) : (part 5 (xs.map vB).toArray i).run Try.prog w = .ok (vB x) w := by
  have hu : Try.prog.underlying 5 = some (.int .u8) := by kernel_rfl
  have ha : (isAgg 5).run Try.prog w = .ok false w := by
    unfold isAgg
    rw [Sem.run_bind, run_underlying hu w]
    rfl
  simp [part, Sem.run_bind, ha, h, vB]
theorem eq_items (d : Nat) (xs ys : List UInt8) (w : World) (hl : xs.length = ys.length) : ∀ (n k : Nat), n + k = xs.length → (Op.eqItems (d + 1) 5 1 (xs.map vB).toArray (ys.map vB).toArray (List.range' k n)).run Try.prog w = .ok (decide (xs.drop k = ys.drop k)) w
  | 0, k, h => by
    rw [List.drop_of_length_le (by omega), List.drop_of_length_le (by omega)]
    simp [Op.eqItems]
  | n + 1, k, h => by
    have hk : k < xs.length := by omega
    have hk2 : k < ys.length := by omega
    have hu : Try.prog.underlying 5 = some (.int .u8) := by kernel_rfl
    have ih := eq_items d xs ys w hl n (k + 1) (by omega)
    have d1 := drop_cons hk
    have d2 := drop_cons hk2
    rw [List.range'_succ]
    simp only [Op.eqItems, Sem.run_bind, Nat.mul_one, part_u8 xs k _ (List.getElem?_eq_getElem hk), part_u8 ys k _ (List.getElem?_eq_getElem hk2), Result.andThen_ok]
    simp only [vB, run_equalIn_int w d _ _ _ _ _ hu, Result.andThen_ok]
    by_cases e : xs[k] = ys[k]
    · rw [e]
      simp only [beq_self_eq_true, Bool.not_true, Bool.false_eq_true, if_false, ih]
      have e3 : decide (xs.drop (k + 1) = ys.drop (k + 1)) = decide (xs.drop k = ys.drop k) := decide_eq_decide.2 (by rw [d1, d2, e, List.cons.injEq]; exact ⟨fun h => ⟨rfl, h⟩, And.right⟩)
      rw [e3]
    · have e2 : (((xs[k]).toNat : Int) == ((ys[k]).toNat : Int)) = false := by
        rw [beq_eq_false_iff_ne]
        intro h
        exact e (UInt8.toNat.inj (by omega))
      have e3 : decide (xs.drop k = ys.drop k) = false := decide_eq_false (by rw [d1, d2, List.cons.injEq]; exact fun h => e h.1)
      rw [e2, e3]
      rfl
theorem neq_bytes (xs ys : List UInt8) (h1 : xs.length = 8) (h2 : ys.length = 8) (w : World) : (binOp .neq 48 (.agg (xs.map vB).toArray) (.agg (ys.map vB).toArray)).run Try.prog w = .ok (.bool (!decide (xs = ys))) w := by
  have hu : Try.prog.underlying 48 = some (.array 8 5) := by kernel_rfl
  obtain ⟨i, hi⟩ : ∃ i, Try.prog.info? 5 = some i := Option.isSome_iff_exists.1 (by kernel_rfl)
  have hc : Try.prog.cellsOf 5 = 1 := by kernel_rfl
  obtain ⟨m, hm⟩ : ∃ m, Op.maxDepth = m + 1 + 1 := ⟨9998, rfl⟩
  have key : (Op.equalIn (m + 1 + 1) 48 (.agg (xs.map vB).toArray) (.agg (ys.map vB).toArray)).run Try.prog w = .ok (decide (xs = ys)) w := by
    rw [run_equalIn_array w (m + 1) _ _ hu hi, hc, List.range_eq_range']
    exact eq_items m xs ys w (by omega) 8 0 (by omega)
  simp only [binOp, Op.equal, hm]
  simp only [Sem.run_bind, key, go_sem, Result.andThen]
  simp
end Go.Proofs.Ytpgnlmhkigpjgaa
