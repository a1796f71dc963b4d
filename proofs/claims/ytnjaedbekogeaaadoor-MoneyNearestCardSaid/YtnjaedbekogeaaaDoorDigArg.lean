/-
  Arguments that are slices of bytes, of integers: what they read.
-/
import Derived.Test.YtnjaedbekogeaaaDoorDigRefN
import Derived.Deep.Slices
import Derived.ChangeSlices
import Derived.SizedLaws
namespace Go.Proofs.YtnjaedbekogeaaaDoor
open Go.ChangeShapes Go.WideShapes Go.RowKit Go.Deep

theorem block_lt {w : World} {a : Addr} {v : Value} (h : w.cell? a = some v) : a.block < w.heap.size := by
  unfold World.cell? at h
  rcases Nat.lt_or_ge a.block w.heap.size with hl | hg
  · exact hl
  · rw [Array.getElem?_eq_none hg] at h; cases h

theorem row_of_ints {H : Type} {enc : TypeId × Value → H} {W : World} {base : Nat} {held : Bool} {t e : TypeId} {k : IntKind} {fuel : Nat} {v : Value} {x : DataW H × List MemPlace}
    (ht : Tryd.prog.underlying t = some (.slice e)) (he : Tryd.prog.underlying e = some (.int k)) (hc : Tryd.prog.cellsOf e = 1)
    (h : DataW.trod enc Tryd.prog W base (fun _ => true) held fuel t [v] = some x) : ∃ zs : List Int, Row W v (zs.map (.int k)) ∧ ∀ z ∈ zs, (Lit.int k z).wf = true := by
  rcases open_ints ht he hc h with ⟨hcs, _⟩ | ⟨a, len, cap, zs, hcs, hb, hlc, hcm, hzs, hx, hcell, hwf⟩
  · obtain rfl : v = .slice none 0 0 := by simpa using hcs
    exact ⟨[], Row.nil _, fun z hz => by cases hz⟩
  · obtain rfl : v = .slice (some a) len cap := by simpa using hcs
    simp only [if_true] at hzs
    have hlen : ((zs.take len).map (Value.int k)).length = len := by simp; omega
    refine ⟨zs.take len, ⟨⟨_, _, by rw [hlen]⟩, fun ad n c e i hi => ?_, by rw [hlen]; unfold maxLen at hcm; omega, fun n c e => by cases e⟩, fun z hz => hwf z (List.mem_of_mem_take hz)⟩
    cases e
    have hi' : i < zs.length := by simp at hi; omega
    have h1 := hcell i hi'
    have hbk := block_lt h1
    rw [blk_add] at hbk
    refine ⟨a, rfl, hbk, ?_⟩
    rw [h1]
    simp [hi']

theorem bytes_of_trod {H : Type} {enc : TypeId × Value → H} {W : World} {base : Nat} {held : Bool} {p : Option Addr} {n c : Nat} {d : DataW H} {ps : List MemPlace}
    (h : DataW.Trod enc Tryd.prog W base (fun _ => true) held 66 (.slice p n c) d ps) : ∃ l, Bytes W (.slice p n c) l := by
  obtain ⟨fuel, hf⟩ := h
  obtain ⟨zs, hr, hw⟩ := row_of_ints (v := .slice p n c) Tryd.underlying66 Tryd.underlying5 (by kernel_rfl) (by simpa [Value.cells] using hf)
  refine ⟨zs.map fun z => UInt8.ofNat z.toNat, ?_⟩
  unfold Bytes
  rw [List.map_map]
  have : zs.map (vB ∘ fun z => UInt8.ofNat z.toNat) = zs.map (.int .u8) := by
    refine List.map_congr_left fun z hz => ?_
    have hz2 := hw z hz
    have hz3 : 0 ≤ z ∧ z ≤ 255 := by simpa [Lit.wf, IntKind.min, IntKind.max, IntKind.signed, IntKind.bits] using hz2
    obtain ⟨h1, h2⟩ := hz3
    simp only [Function.comp, vB]
    congr 1
    rw [show (UInt8.ofNat z.toNat).toNat = z.toNat by simp; omega]
    omega
  rw [this]
  exact hr
theorem ints_of_trod1 {H : Type} {enc : TypeId × Value → H} {W : World} {base : Nat} {held : Bool} {fuel : Nat} {v : Value} {x : DataW H × List MemPlace}
    (h : DataW.trod enc Tryd.prog W base (fun _ => true) held fuel 25 [v] = some x) : ∃ l, Ints W v l := by
  obtain ⟨zs, hr, hw⟩ := row_of_ints Tryd.underlying25 Tryd.underlying3 (by kernel_rfl) h
  refine ⟨zs, hr, fun z hz => ?_⟩
  have hz2 := hw z hz
  simp only [Lit.wf, Bool.and_eq_true, decide_eq_true_eq, IntKind.min, IntKind.max, IntKind.signed, IntKind.bits] at hz2
  exact ⟨hz2.1, hz2.2⟩
theorem ints_of_trod {H : Type} {enc : TypeId × Value → H} {W : World} {base : Nat} {held : Bool} {p : Option Addr} {n c : Nat} {d : DataW H} {ps : List MemPlace}
    (h : DataW.Trod enc Tryd.prog W base (fun _ => true) held 25 (.slice p n c) d ps) : ∃ l, Ints W (.slice p n c) l := by
  obtain ⟨fuel, hf⟩ := h
  exact ints_of_trod1 (v := .slice p n c) (by simpa [Value.cells] using hf)
end Go.Proofs.YtnjaedbekogeaaaDoor
