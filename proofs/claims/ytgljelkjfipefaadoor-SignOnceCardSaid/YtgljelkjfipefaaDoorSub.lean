/-
  Slices of slices of integers; arguments no longer than their room.
-/
import Derived.Test.YtgljelkjfipefaaDoorDigArg
import Derived.Laws.StructEq
import Derived.DeepKeys
import Derived.DataElems
namespace Go.Proofs.YtgljelkjfipefaaDoor
open Go.ChangeShapes Go.WideShapes Go.RowKit Go.Deep

/-- no longer than its room -/
def Fat (v : Value) : Prop := ∀ ad n cap, v = .slice ad n cap → n ≤ cap
theorem fat_own {w : World} {base : Nat} {e : TypeId} {v : Value} {xs : List Value} (h : OwnRow w base e v xs) : Fat v := by
  obtain ⟨_, ⟨rfl, _⟩ | ⟨g, cap', cur, rfl, _, _, hc, _⟩⟩ := h
  · intro _ _ _ e; cases e; exact Nat.le_refl _
  · intro _ _ _ e; cases e; exact hc
theorem fat_mk (ad : Option Addr) {n cap : Nat} (h : n ≤ cap) : Fat (.slice ad n cap) := by intro _ _ _ e; cases e; exact h
/-- from l up to h, with room up to m -/
theorem row_sub {w : World} {ad : Option Addr} {n cap : Nat} {xs : List Value} (hr : Row w (.slice ad n cap) xs) (l h m : Nat) (h1 : l ≤ h) (h2 : h ≤ n) (h3 : h ≤ m) (h4 : m ≤ cap) : Row w (sliced ad l h m 1) ((xs.take h).drop l) ∧ Fat (sliced ad l h m 1) := by
  obtain ⟨_, _, e0⟩ := hr.shape
  have hn : n = xs.length := by cases e0; rfl
  have hlen : ((xs.take h).drop l).length = h - l := by rw [List.length_drop, List.length_take]; omega
  have hsh := hr.short
  refine ⟨⟨⟨_, _, by rw [hlen]; rfl⟩, fun ad' n' c' e i hi => ?_, by omega, fun n' c' e => ?_⟩, fat_mk _ (by omega)⟩
  · unfold sliced at e
    rw [if_neg (by omega), Nat.mul_one] at e
    cases e
    rw [hlen] at hi
    obtain ⟨a, ha, hb, hc⟩ := hr.cells _ _ _ rfl (l + i) (by omega)
    subst ha
    refine ⟨_, rfl, by rw [blk_add]; exact hb, ?_⟩
    rw [Addr.add_add, hc]
    simp
  · unfold sliced at e
    have had : ad = none := by
      cases ad with
      | none => rfl
      | some a => simp at e; split at e <;> simp_all
    subst had
    obtain ⟨q, rfl⟩ := hr.bare _ _ rfl
    have : m - l = c' ∧ h - l = n' := by injection e with _ e2 e3; exact ⟨e3, e2⟩
    omega

/-- its first places -/
theorem row_upto {w : World} {ad : Option Addr} {n cap : Nat} {xs : List Value} (hr : Row w (.slice ad n cap) xs) (k : Nat) (hk : k ≤ n) : Row w (.slice ad k cap) (xs.take k) := by
  obtain ⟨_, _, e0⟩ := hr.shape
  have hn : n = xs.length := by cases e0; rfl
  have hsh := hr.short
  have hlen : (xs.take k).length = k := by rw [List.length_take]; omega
  refine ⟨⟨_, _, by rw [hlen]⟩, fun ad' n' c' e i hi => ?_, by omega, fun n' c' e => ?_⟩
  · cases e
    obtain ⟨a, ha, hb, hc⟩ := hr.cells _ _ _ rfl i (by omega)
    exact ⟨a, ha, hb, by rw [hc]; simp⟩
  · cases e
    have := hr.bare _ _ rfl
    omega
theorem underI : Tryd.prog.underlying 24 = some (.slice (Tryd.prog.elem 24)) := by kernel_rfl
theorem sizeI (w : World) : (sizeOf 3).run Tryd.prog w = .ok 1 w := by
  obtain ⟨i, hi⟩ : ∃ i, Tryd.prog.info? 3 = some i := Option.isSome_iff_exists.1 (by kernel_rfl)
  rw [run_sizeOf w hi, show Tryd.prog.cellsOf 3 = 1 by kernel_rfl]
theorem elemI : Tryd.prog.elem 24 = 3 := by kernel_rfl
theorem run_uptoI (ad : Option Addr) (n cap k : Nat) (hk : k ≤ cap) (w : World) : (Instr.sliceAt 24 (.slice ad n cap) none (some (.int .i64 (k : Int))) none).run Tryd.prog w = .ok (sliced ad 0 k cap 1) w := by
  rw [run_sliceAt_slice _ _ _ _ _ _ underI, run_slice_h _ _ _ _ _ underI _ _ (by omega) (by omega), elemI, sizeI]
  rfl
theorem fat_row {H : Type} {enc : TypeId × Value → H} {W : World} {base : Nat} {held : Bool} {t e : TypeId} {k : IntKind} {p : Option Addr} {n c : Nat} {d : DataW H} {ps : List MemPlace}
    (ht : Tryd.prog.underlying t = some (.slice e)) (he : Tryd.prog.underlying e = some (.int k)) (hc : Tryd.prog.cellsOf e = 1)
    (h : DataW.Trod enc Tryd.prog W base (fun _ => true) held t (.slice p n c) d ps) : Fat (.slice p n c) := by
  obtain ⟨fuel, hf⟩ := h
  rcases open_ints ht he hc hf with ⟨hcs, _⟩ | ⟨a, len, cap, zs, hcs, hb, hlc, _⟩
  · have hcs : Value.slice p n c = .slice none 0 0 := by simpa [Value.cells] using hcs
    cases hcs; exact fat_mk _ (Nat.le_refl _)
  · have hcs : Value.slice p n c = .slice (some a) len cap := by simpa [Value.cells] using hcs
    cases hcs; exact fat_mk _ hlc
theorem fat_ints {H : Type} {enc : TypeId × Value → H} {W : World} {base : Nat} {held : Bool} {p : Option Addr} {n c : Nat} {d : DataW H} {ps : List MemPlace}
    (h : DataW.Trod enc Tryd.prog W base (fun _ => true) held 24 (.slice p n c) d ps) : Fat (.slice p n c) := fat_row Tryd.underlying24 Tryd.underlying3 (by kernel_rfl) h
end Go.Proofs.YtgljelkjfipefaaDoor
