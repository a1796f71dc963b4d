/-
  Lists of lists in part; a byte changed.
-/
import Derived.Test.YtpgnlmhkigpjgaaLawCodKit
namespace Go.Proofs.Ytpgnlmhkigpjgaa
open Go.RowKit
set_option linter.unusedVariables false
theorem elemL : Try.prog.elem 32 = 22 := by kernel_rfl
theorem underL : Try.prog.underlying 32 = some (.slice (Try.prog.elem 32)) := by kernel_rfl
theorem sizeL (w : World) : (sizeOf 22).run Try.prog w = .ok 1 w := by
  obtain ⟨i, hi⟩ : ∃ i, Try.prog.info? 22 = some i := Option.isSome_iff_exists.1 (by kernel_rfl)
  rw [run_sizeOf w hi, show Try.prog.cellsOf 22 = 1 by kernel_rfl]
theorem run_fromL (ad : Option Addr) (n cap k : Nat) (hk : k ≤ n) (w : World) : (Instr.sliceAt 32 (.slice ad n cap) (some (.int .i64 (k : Int))) none none).run Try.prog w = .ok (sliced ad k n cap 1) w := by
  rw [run_sliceAt_slice _ _ _ _ _ _ underL, run_slice_l _ _ _ _ _ underL _ _ (by omega) (by omega), elemL, sizeL]
  rfl
theorem run_uptoL (ad : Option Addr) (n cap k : Nat) (hk : k ≤ cap) (w : World) : (Instr.sliceAt 32 (.slice ad n cap) none (some (.int .i64 (k : Int))) none).run Try.prog w = .ok (sliced ad 0 k cap 1) w := by
  rw [run_sliceAt_slice _ _ _ _ _ _ underL, run_slice_h _ _ _ _ _ underL _ _ (by omega) (by omega), elemL, sizeL]
  rfl
theorem Vs.take {w : World} {vs : List Value} {l : List (List Int)} (h : Vs w vs l) (k : Nat) : Vs w (vs.take k) (l.take k) := by
  refine ⟨by rw [List.length_take, List.length_take, h.1], fun i h1 h2 => ?_⟩
  rw [List.getElem_take, List.getElem_take]
  exact h.2 i _ _
theorem Vs.drop {w : World} {vs : List Value} {l : List (List Int)} (h : Vs w vs l) (k : Nat) : Vs w (vs.drop k) (l.drop k) := by
  refine ⟨by rw [List.length_drop, List.length_drop, h.1], fun i h1 h2 => ?_⟩
  rw [List.getElem_drop, List.getElem_drop]
  exact h.2 _ _ _
theorem lists_sub {w : World} {ad : Option Addr} {n cap : Nat} {vs : List Value} {L : List (List Int)} (hr : Row w (.slice ad n cap) vs) (hv : Vs w vs L) (l h m : Nat) (h1 : l ≤ h) (h2 : h ≤ n) (h3 : h ≤ m) (h4 : m ≤ cap) : Lists w (sliced ad l h m 1) ((L.take h).drop l) :=
  have hv2 := (hv.take h).drop l
  ⟨_, (row_sub hr l h m h1 h2 h3 h4).1, hv2.1, hv2.2⟩
theorem lists_open {w : World} {v : Value} {L : List (List Int)} (h : Lists w v L) : ∃ ad cap vs, v = .slice ad L.length cap ∧ Row w (.slice ad L.length cap) vs ∧ Vs w vs L := by
  obtain ⟨vs, hr, hl, hi⟩ := h
  obtain ⟨ad, cap, e⟩ := hr.shape
  rw [hl] at e
  exact ⟨ad, cap, vs, e, e ▸ hr, hl, hi⟩
/-- what Frames gives, with its room -/
theorem frames_fat (v : Value) (b : List UInt8) (w : World) (h : Bytes w v b) (hf : Fat v) (hl : b.length ≤ 200000) (L : List (List Int)) (n : Nat) (he : lframes b = (L, n)) (m : Nat) (hm : L.length = m) :
    Calls Try.prog 18 #[v] w fun e w' => ∃ ad cap vs, e = .returned (.tuple #[.slice ad m cap, .int .i64 (n : Int), .int .i64 0]) ∧ Row w' (.slice ad m cap) vs ∧ Vs w' vs L ∧ m ≤ cap ∧ Below w.heap.size w w' := by
  subst hm
  have hlen := lframes_len _ b (Nat.le_refl _)
  refine (Frames_any v b w h hf hl).mono ?_
  rw [he] at hlen ⊢
  rintro e w' ⟨v', vs, rfl, h2, h3, h4⟩
  obtain ⟨ad, cap, vs', e2, hr, hv⟩ := lists_open (lists_of_own h2 (by simp only at hlen ⊢; omega) h3.plain)
  subst e2
  exact ⟨ad, cap, vs', rfl, hr, hv, fat_own h2 _ _ _ rfl, h4⟩
theorem lists_parts {w : World} {ad : Option Addr} {cap : Nat} {vs : List Value} (A B : List (List Int)) (n : Nat) (hn : n = A.length + B.length) (hr : Row w (.slice ad n cap) vs) (hv : Vs w vs (A ++ B)) (hc : n ≤ cap) :
    ∃ V1 V2, (∀ w, (Instr.sliceAt 32 (.slice ad n cap) none (some (.int .i64 (A.length : Int))) none).run Try.prog w = .ok V1 w) ∧ (∀ w, (Instr.sliceAt 32 (.slice ad n cap) (some (.int .i64 (A.length : Int))) none none).run Try.prog w = .ok V2 w) ∧ Lists w V1 A ∧ Lists w V2 B := by
  have h1 := lists_sub hr hv 0 A.length cap (by omega) (by omega) (by omega) (by omega)
  have h2 := lists_sub hr hv A.length n cap (by omega) (by omega) (by omega) (by omega)
  rw [List.take_left, List.drop_zero] at h1
  rw [List.take_of_length_le (by rw [List.length_append]; omega), List.drop_left] at h2
  exact ⟨_, _, run_uptoL ad n cap A.length (by omega), run_fromL ad n cap A.length (by omega), h1, h2⟩
theorem lframes_size : ∀ (n : Nat) (b : List UInt8), b.length ≤ n → (lframes b).2 ≤ b.length
  | n, b, hn => by
    cases hf : lfirst b with
    | none => rw [lframes_none hf]; simp
    | some p =>
      have hs := lfirst_size hf
      rw [lframes_some hf]
      match n, hn with
      | 0, hn => omega
      | n + 1, hn =>
        have := lframes_size n (b.drop p.2) (by rw [List.length_drop]; omega)
        rw [List.length_drop] at this
        simp only
        omega
theorem lframes_changed {ls : List (List Int)} (hg : ∀ l ∈ ls, Good l) {M : Nat} (hM : ls.length = M + 1) {i : Nat} (h3 : 3 ≤ i) {fl : List UInt8} (hfl : fl = ls.flatMap lframe) (hi : flen ls M + i < fl.length) {v : UInt8} (hv : v ≠ fl[flen ls M + i]) : lframes (fl.set (flen ls M + i) v) = (ls.take M, flen ls M) := by
  subst hfl
  have e : ls.flatMap lframe = (ls.take M).flatMap lframe ++ lframe ls[M] := by
    have h1 : ls = ls.take M ++ [ls[M]] := by
      rw [← List.take_succ_eq_append_getElem (by omega), List.take_of_length_le (by omega)]
    have h2 := congrArg (List.flatMap lframe) h1
    rw [h2, List.flatMap_append]
    simp
  have hl : ((ls.take M).flatMap lframe).length = flen ls M := rfl
  have hv2 : v ≠ ((ls.take M).flatMap lframe ++ lframe ls[M])[flen ls M + i]'(by rw [← e]; exact hi) := by
    intro h
    apply hv
    rw [h]
    congr 1
    exact e.symm
  have hi2 : i < (lframe ls[M]).length := by rw [e, List.length_append, hl] at hi; omega
  rw [List.getElem_append_right (by rw [hl]; omega)] at hv2
  simp only [hl, Nat.add_sub_cancel_left] at hv2
  rw [e, List.set_append_right _ _ (by rw [hl]; omega), hl, Nat.add_sub_cancel_left, lframes_flat _ _ (fun l hl => hg l (List.mem_of_mem_take hl)), lframes_none (lfirst_changed (hg _ (List.getElem_mem _)) h3 hi2 hv2), hl]
  simp
theorem ends_last {w : World} {ad : Option Addr} {cap N : Nat} {ls : List (List Int)} (h : Row w (.slice ad (N + 2) cap) ((endsF ls (N + 2)).map (.int .i64))) : ∃ p, ad = some p ∧ w.cell? (p.add N) = some (.int .i64 ((flen ls (N + 1) : Nat) : Int)) := by
  obtain ⟨p, hp, _, hc⟩ := h.cells _ _ _ rfl N (by rw [List.length_map, endsF_len]; omega)
  rw [List.getElem_map, show (endsF ls (N + 2))[N]'(by rw [endsF_len]; omega) = ((flen ls (N + 1) : Nat) : Int) by simp [endsF]] at hc
  exact ⟨p, hp, hc⟩
theorem own_fro {w : World} {base : Nat} {e : TypeId} {g n cap : Nat} {xs : List Value} (h : OwnRow w base e (.slice (some ⟨g, 0, none⟩) n cap) xs) : ∀ i, i < xs.length → w.frozen? ⟨g, i, none⟩ = false := by
  obtain ⟨_, ⟨e, _⟩ | ⟨g', cap', cur, e, _, hh, _⟩⟩ := h
  · cases e
  · cases e
    intro i _
    simp [World.frozen?, hh]
theorem lists_i64 {w : World} {v : Value} {ls : List (List Int)} (h : Lists w v ls) : ∀ l ∈ ls, ∀ x ∈ l, I64 x := by
  obtain ⟨vs, hr, hl, hi⟩ := h
  intro l hm
  obtain ⟨i, hlt, rfl⟩ := List.getElem_of_mem hm
  exact (hi i (by omega) hlt).2
theorem frames_open (v : Value) (ls : List (List Int)) (w : World) (h : Lists w v ls) (hn10 : ls.length ≤ 10) (h30 : ∀ x ∈ ls, x.length ≤ 30) (h64 : ∀ l ∈ ls, ∀ x ∈ l, I64 x) (fl : List UInt8) (hfl : fl = ls.flatMap lframe) (hlen : fl.length ≤ 100000) :
    Calls Try.prog 22 #[v] w fun e w' => ∃ ad2 cap2 ad3 cap3, e = .returned (.tuple #[.slice ad2 fl.length cap2, .slice ad3 ls.length cap3, .bool true]) ∧ Row w' (.slice ad2 fl.length cap2) (fl.map vB) ∧ fl.length ≤ cap2 ∧ Row w' (.slice ad3 ls.length cap3) ((endsF ls ls.length).map (.int .i64)) ∧ Below w.heap.size w w' := by
  refine (frames_any v ls w h hn10 h30 h64).mono ?_
  rintro e w' ⟨v1, v2, rfl, ho, he, hx⟩
  rw [← hfl] at ho
  obtain ⟨ad2, cap2, e2, p2⟩ := own_shape ho (by omega)
  have hf := fat_own ho
  subst e2
  have hl : ((endsF ls ls.length).map (Value.int .i64)).length = ls.length := by rw [List.length_map, endsF_len]
  have p3 := Row.of_own he (by omega)
  obtain ⟨ad3, cap3, e3⟩ := p3.shape
  rw [hl] at e3
  subst e3
  exact ⟨ad2, cap2, ad3, cap3, rfl, p2, hf _ _ _ rfl, p3, hx⟩
theorem bits_xor_u8 (x y : UInt8) : bits .xor .u8 (x.toNat : Int) (y.toNat : Int) = ((x ^^^ y).toNat : Int) := by
  have hx : x.toNat ^^^ y.toNat < 2 ^ 8 := Nat.xor_lt_two_pow x.toNat_lt y.toNat_lt
  have h1 : (BitVec.ofInt 8 (x.toNat : Int)).toNat = x.toNat := by
    rw [BitVec.ofInt_natCast, BitVec.toNat_ofNat]; exact Nat.mod_eq_of_lt x.toNat_lt
  have h2 : (BitVec.ofInt 8 (y.toNat : Int)).toNat = y.toNat := by
    rw [BitVec.ofInt_natCast, BitVec.toNat_ofNat]; exact Nat.mod_eq_of_lt y.toNat_lt
  show IntKind.u8.wrap ((BitVec.ofInt 8 (x.toNat : Int) ^^^ BitVec.ofInt 8 (y.toNat : Int)).toNat : Int) = _
  rw [BitVec.toNat_xor, h1, h2, UInt8.toNat_xor]
  rw [IntKind.wrap_u8]
  omega
theorem row_set {w : World} {g n cap : Nat} {xs : List Value} (h : Row w (.slice (some ⟨g, 0, none⟩) n cap) xs) {i : Nat} (hi : i < xs.length) (y : Value) : Row (w.setCell ⟨g, i, none⟩ y) (.slice (some ⟨g, 0, none⟩) n cap) (xs.set i y) := by
  refine ⟨by rw [List.length_set]; exact h.shape, fun ad n' c' e j hj => ?_, by rw [List.length_set]; exact h.short, fun n' c' e => by cases e⟩
  cases e
  rw [List.length_set] at hj
  obtain ⟨a, ha, hb, hc⟩ := h.cells _ _ _ rfl j hj
  cases ha
  refine ⟨_, rfl, by simpa using hb, ?_⟩
  rw [add_zero0] at hc ⊢
  by_cases hij : i = j
  · subst hij
    rw [List.getElem_set_self]
    exact World.cell?_setCell_same _ _ _ hc
  · rw [List.getElem_set_ne hij, World.cell?_setCell_other _ _ _ _ (by first | (simp; done) | (simp; omega))]
    exact hc
end Go.Proofs.Ytpgnlmhkigpjgaa
