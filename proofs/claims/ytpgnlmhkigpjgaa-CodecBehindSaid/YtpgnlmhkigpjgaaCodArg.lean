/-
  Arguments that are slices of bytes, of integers, of such slices: what they read.
-/
import Derived.Test.YtpgnlmhkigpjgaaCodRow
import Derived.Deep.Slices
import Derived.ChangeSlices
import Derived.SizedLaws
namespace Go.Proofs.Ytpgnlmhkigpjgaa
open Go.ChangeShapes Go.WideShapes Go.RowKit Go.Deep

theorem block_lt {w : World} {a : Addr} {v : Value} (h : w.cell? a = some v) : a.block < w.heap.size := by
  unfold World.cell? at h
  rcases Nat.lt_or_ge a.block w.heap.size with hl | hg
  · exact hl
  · rw [Array.getElem?_eq_none hg] at h; cases h

theorem row_of_ints {H : Type} {enc : TypeId × Value → H} {W : World} {base : Nat} {held : Bool} {t e : TypeId} {k : IntKind} {fuel : Nat} {v : Value} {x : DataW H × List MemPlace}
    (ht : Try.prog.underlying t = some (.slice e)) (he : Try.prog.underlying e = some (.int k)) (hc : Try.prog.cellsOf e = 1)
    (h : DataW.trod enc Try.prog W base (fun _ => true) held fuel t [v] = some x) : ∃ zs : List Int, Row W v (zs.map (.int k)) ∧ ∀ z ∈ zs, (Lit.int k z).wf = true := by
  rcases open_ints ht he hc h with ⟨hcs, _⟩ | ⟨a, len, cap, zs, hcs, hb, hlc, hcm, hzs, hx, hcell, hwf⟩
  · obtain rfl : v = .slice none 0 0 := by simpa using hcs
    exact ⟨[], Row.nil _, fun z hz => by cases hz⟩
  · obtain rfl : v = .slice (some a) len cap := by simpa using hcs
    simp only [if_true] at hzs
    have hlen : ((zs.take len).map (Value.int k)).length = len := by simp; omega
    refine ⟨zs.take len, ⟨⟨_, _, by rw [hlen]⟩, fun ad n c e i hi => ?_, by rw [hlen]; unfold maxLen at hcm; omega, fun n c e => by cases e⟩, fun z hz => hwf z (List.mem_of_mem_take hz)⟩
    cases e
    have hi' : i < zs.length := by simp at hi; omega
    have h1 := hcell i hi'
    have hbk := block_lt h1
    rw [blk_add] at hbk
    refine ⟨a, rfl, hbk, ?_⟩
    rw [h1]
    simp [hi']

theorem bytes_of_trod {H : Type} {enc : TypeId × Value → H} {W : World} {base : Nat} {held : Bool} {p : Option Addr} {n c : Nat} {d : DataW H} {ps : List MemPlace}
    (h : DataW.Trod enc Try.prog W base (fun _ => true) held 23 (.slice p n c) d ps) : ∃ l, Bytes W (.slice p n c) l := by
  obtain ⟨fuel, hf⟩ := h
  obtain ⟨zs, hr, hw⟩ := row_of_ints (v := .slice p n c) Try.underlying23 Try.underlying5 (by kernel_rfl) (by simpa [Value.cells] using hf)
  refine ⟨zs.map fun z => UInt8.ofNat z.toNat, ?_⟩
  unfold Bytes
  rw [List.map_map]
  have : zs.map (vB ∘ fun z => UInt8.ofNat z.toNat) = zs.map (.int .u8) := by
    refine List.map_congr_left fun z hz => ?_
    have hz2 := hw z hz
    have hz3 : 0 ≤ z ∧ z ≤ 255 := by simpa [Lit.wf, IntKind.min, IntKind.max, IntKind.signed, IntKind.bits] using hz2
    obtain ⟨h1, h2⟩ := hz3
    simp only [Function.comp, vB]
    congr 1
    rw [show (UInt8.ofNat z.toNat).toNat = z.toNat by simp; omega]
    omega
  rw [this]
  exact hr
theorem ints_of_trod1 {H : Type} {enc : TypeId × Value → H} {W : World} {base : Nat} {held : Bool} {fuel : Nat} {v : Value} {x : DataW H × List MemPlace}
    (h : DataW.trod enc Try.prog W base (fun _ => true) held fuel 22 [v] = some x) : ∃ l, Ints W v l := by
  obtain ⟨zs, hr, hw⟩ := row_of_ints Try.underlying22 Try.underlying3 (by kernel_rfl) h
  refine ⟨zs, hr, fun z hz => ?_⟩
  have hz2 := hw z hz
  simp only [Lit.wf, Bool.and_eq_true, decide_eq_true_eq, IntKind.min, IntKind.max, IntKind.signed, IntKind.bits] at hz2
  exact ⟨hz2.1, hz2.2⟩
theorem ints_of_trod {H : Type} {enc : TypeId × Value → H} {W : World} {base : Nat} {held : Bool} {p : Option Addr} {n c : Nat} {d : DataW H} {ps : List MemPlace}
    (h : DataW.Trod enc Try.prog W base (fun _ => true) held 22 (.slice p n c) d ps) : ∃ l, Ints W (.slice p n c) l := by
  obtain ⟨fuel, hf⟩ := h
  exact ints_of_trod1 (v := .slice p n c) (by simpa [Value.cells] using hf)
theorem lists_of_trod {H : Type} {enc : TypeId × Value → H} {W : World} {base : Nat} {held : Bool} {p : Option Addr} {n c : Nat} {d : DataW H} {ps : List MemPlace}
    (h : DataW.Trod enc Try.prog W base (fun _ => true) held 32 (.slice p n c) d ps) : ∃ l, Lists W (.slice p n c) l := by
  obtain ⟨fuel, hf⟩ := h
  rcases open_slice1 (cs := [.slice p n c]) Try.underlying32 (by kernel_rfl) (by simpa [Value.cells] using hf) with ⟨hcs, _⟩ | ⟨a, len, cap, m, k, V, D, Pl, hcs, hb, hlc, hcm, hm, _, hall⟩
  · simp at hcs
    obtain ⟨rfl, rfl, rfl⟩ := hcs
    exact ⟨[], [], Row.nil _, rfl, fun i h => by simp at h⟩
  · simp at hcs
    obtain ⟨rfl, rfl, rfl⟩ := hcs
    simp only [if_true] at hm
    subst hm
    have hex : ∀ i, ∃ l, i < n → Ints W (V i) l := fun i => by
      by_cases hi : i < n
      · obtain ⟨l, hl⟩ := ints_of_trod1 (hall i (by omega)).2
        exact ⟨l, fun _ => hl⟩
      · exact ⟨[], fun h => absurd h hi⟩
    let L : Nat → List Int := fun i => (hex i).choose
    have hL : ∀ i, i < n → Ints W (V i) (L i) := fun i hi => (hex i).choose_spec hi
    refine ⟨(List.range n).map L, (List.range n).map V, ⟨⟨some a, m, by simp⟩, fun ad n' c' e i hi => ?_, by simp; unfold maxLen at hcm; omega, fun n c e => by cases e⟩, by simp, fun i h1 h2 => ?_⟩
    · cases e
      have hi' : i < n := by simpa using hi
      obtain ⟨g0, _⟩ := hall i (by omega)
      have hbk := block_lt g0
      rw [blk_add] at hbk
      exact ⟨a, rfl, hbk, by rw [g0]; simp⟩
    · have hi' : i < n := by simpa using h1
      simp only [List.getElem_map, List.getElem_range]
      exact hL i hi'
theorem lits_len {H : Type} (k : IntKind) : ∀ (l : List Int), (lits k l : List (DataW H)).length = l.length := fun l => by simp [lits]
theorem ints_size {H : Type} {enc : TypeId × Value → H} {W : World} {p : Option Addr} {n c : Nat} {d : DataW H} {ps : List MemPlace} {l : List Int} (hl : Ints W (.slice p n c) l)
    (h : DataW.Trod enc Try.prog W 0 (fun _ => true) true 22 (.slice p n c) d ps)
    (hs : ∀ el sp, d = .slice el sp → (el.length + sp.length) * Try.prog.bytesOf 3 ≤ reachBytes) : l.length * 8 ≤ 140737488355328 := by
  have hln : n = l.length := by
    obtain ⟨ad, cap, e⟩ := hl.1.shape
    rw [List.length_map] at e
    cases e; rfl
  rw [← hln]
  obtain ⟨fuel, hf⟩ := h
  rcases open_ints Try.underlying22 Try.underlying3 (by kernel_rfl) hf with ⟨hcs, _⟩ | ⟨a, len, cap, zs, hcs, hb, hlc, hcm, hzs, hx, _, _⟩
  · have hcs : Value.slice p n c = .slice none 0 0 := by simpa [Value.cells] using hcs
    cases hcs; omega
  · have hcs : Value.slice p n c = .slice (some a) len cap := by simpa [Value.cells] using hcs
    cases hcs
    simp only [if_true] at hzs
    obtain ⟨hd, _⟩ := Prod.mk.inj hx
    have := hs _ _ hd
    rw [lits_len, lits_len, ← List.length_append, List.take_append_drop, hzs, show Try.prog.bytesOf 3 = 8 by kernel_rfl] at this
    unfold reachBytes at this
    omega
end Go.Proofs.Ytpgnlmhkigpjgaa
