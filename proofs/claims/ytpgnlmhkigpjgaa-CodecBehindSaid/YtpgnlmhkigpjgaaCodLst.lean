/-
  The program: the reader reads a list, and its end.
-/
import Derived.Test.YtpgnlmhkigpjgaaCodInt
import Derived.Deep.OwnRows
namespace Go.Proofs.Ytpgnlmhkigpjgaa
open Go.RowKit

theorem int_some {w0 w : World} {R k : Nat} {v : Value} {bs : List UInt8} (h : RD w0 R v bs k w) (hlen : bs.length ≤ 1000000) {p : Int × Nat} (hr : rdI (bs.drop k) = some p) :
    Calls Try.prog 36 #[.pointer (some ⟨R, 0, none⟩)] w fun e w' => e = .returned (.int .i64 p.1) ∧ Only R w w' ∧ RD w0 R v bs (k + p.2) w' := by
  refine (int_any h hlen).mono ?_
  rw [hr]
  rintro e w' ⟨h1, h2, h3⟩
  exact ⟨h2, h1, h3⟩
theorem int_none {w0 w : World} {R k : Nat} {v : Value} {bs : List UInt8} (h : RD w0 R v bs k w) (hlen : bs.length ≤ 1000000) (hr : rdI (bs.drop k) = none) :
    Calls Try.prog 36 #[.pointer (some ⟨R, 0, none⟩)] w fun e w' => e = .panicked bad ∧ Only R w w' := by
  refine (int_any h hlen).mono ?_
  rw [hr]
  rintro e w' ⟨h1, h2⟩
  exact ⟨h2, h1⟩
theorem rdU_lt : ∀ (l : List UInt8) (j : Nat) (p : Nat × Nat), rdU j l = some p → p.1 * 128 ^ j < 18446744073709551616 ∧ p.2 ≤ l.length
  | [], j, p, h => by cases h
  | x :: l, j, p, h => by
    by_cases hok : x.toNat % 128 * 128 ^ j < 18446744073709551616
    · by_cases hx : x.toNat < 128
      · by_cases hz : x.toNat = 0 ∧ 0 < j
        · rw [rdU_zero _ hz.1 hz.2] at h; cases h
        · rw [rdU_last _ hok hx hz] at h
          cases h
          rw [Nat.mod_eq_of_lt hx] at hok
          exact ⟨hok, by simp⟩
      · rw [rdU_more _ hok hx] at h
        cases hq : rdU (j + 1) l with
        | none => rw [hq] at h; cases h
        | some q =>
          rw [hq] at h
          cases h
          have ⟨h1, h2⟩ := rdU_lt l (j + 1) q hq
          refine ⟨?_, by simp only [List.length_cons]; omega⟩
          simp only
          by_cases h9 : 9 < j
          · rw [rdU_late (by omega)] at hq; cases hq
          · obtain ⟨c, hc⟩ : ∃ c, 18446744073709551616 = c * 128 ^ j := ⟨2 * 128 ^ (9 - j), by rw [Nat.mul_assoc, ← Nat.pow_add, show 9 - j + j = 9 by omega]⟩
            have hj8 : j ≤ 8 := by
              rcases Nat.lt_or_ge 8 j with h8 | h8
              · rw [rdU_late (by omega)] at hq; cases hq
              · exact h8
            obtain ⟨c2, hc2⟩ : ∃ c, 18446744073709551616 = c * 128 ^ (j + 1) := ⟨2 * 128 ^ (8 - j), by rw [Nat.mul_assoc, ← Nat.pow_add, show 8 - j + (j + 1) = 9 by omega]⟩
            have h3 : q.1 < c2 := by rw [hc2] at h1; exact Nat.lt_of_mul_lt_mul_right h1
            have h4 : 18446744073709551616 = c2 * 128 * 128 ^ j := by rw [Nat.mul_assoc, ← Nat.pow_succ']; exact hc2
            have h5 : x.toNat % 128 + 128 * q.1 + 1 ≤ c2 * 128 := by omega
            have h6 := Nat.mul_le_mul_right (128 ^ j) h5
            rw [← h4, Nat.add_mul, Nat.one_mul] at h6
            have := Nat.pow_pos (n := j) (show 0 < 128 by decide)
            omega
    · rw [rdU_bad _ hok] at h; cases h
theorem unum_i64 {u : Nat} (h : u < 18446744073709551616) : I64 (unum u) := by
  unfold unum I64; split <;> constructor <;> omega
theorem rdI_i64 {b : List UInt8} {p : Int × Nat} (h : rdI b = some p) : I64 p.1 := by
  unfold rdI at h
  cases hq : rdU 0 b with
  | none => rw [hq] at h; cases h
  | some q =>
    rw [hq] at h; cases h
    have := (rdU_lt _ _ _ hq).1
    exact unum_i64 (by simpa using this)

/-- a list, and how many bytes it has -/
def lrd (b : List UInt8) : Option (List Int × Nat) :=
  (rdI b).bind fun p => if p.1 < 0 ∨ 4000 < p.1 then none else (rdN p.1.toNat (b.drop p.2)).map fun q => (q.1, p.2 + q.2)
theorem lget_lrd (b : List UInt8) : lget b = (lrd b).bind fun q => if q.2 = b.length then some q.1 else none := by
  unfold lget lrd
  cases rdI b with
  | none => rfl
  | some p =>
    simp only [Option.bind_some]
    split
    · rfl
    · cases rdN p.1.toNat (b.drop p.2) <;> rfl

theorem made_list (n : Nat) (z : Value) : (madeCells #[z] n).toList = List.replicate n z := by
  refine List.ext_getElem (by simp [madeCells]) fun i h1 h2 => ?_
  simp [madeCells, Nat.mod_one]
theorem Own.setAt {w : World} {B i : Nat} {xs : List Value} (h : Own w B xs) (v : Value) (hi : i < xs.length) : Own (w.setCell ⟨B, i, none⟩ v) B (xs.set i v) := by
  refine ⟨fun j x hj => ?_, fun j x hj => ?_, by simpa using h.lt⟩
  · by_cases e : i = j
    · subst e
      rw [List.getElem?_set_self hi] at hj
      cases hj
      exact World.cell?_setCell_same _ _ _ (h.cell i xs[i] (List.getElem?_eq_getElem hi))
    · rw [List.getElem?_set_ne e] at hj
      rw [World.cell?_setCell_other _ _ _ _ (by simp)]
      exact h.cell j x hj
  · have hj' : j < xs.length := by
      have := (List.getElem?_eq_some_iff.1 hj).1
      simpa using this
    rw [World.frozen?_setCell]
    exact h.fro j xs[j] (List.getElem?_eq_getElem hj')
theorem Row.own {w : World} {B c : Nat} {xs : List Value} (h : Own w B xs) (hx : xs.length ≤ 1000000000) : Row w (.slice (some ⟨B, 0, none⟩) xs.length c) xs := by
  refine ⟨⟨_, _, rfl⟩, fun ad n cap e i hi => ?_, by omega, fun n cap e => by cases e⟩
  cases e
  refine ⟨_, rfl, h.lt, ?_⟩
  rw [add_zero0]
  exact h.cell i _ (List.getElem?_eq_getElem hi)
theorem Only.setNew {R B i : Nat} {w w' : World} (h : Only R w w') (hB : w.heap.size ≤ B) (v : Value) : Only R w (w'.setCell ⟨B, i, none⟩ v) :=
  ⟨h.os, h.tape, h.output, by simpa using h.size, fun k hk hR => (heap_setCell_other _ _ _ _ (by simp; omega)).trans (h.block k hk hR)⟩
theorem Only.alloc {R : Nat} {w w' : World} (h : Only R w w') (o : Obj) : Only R w (w'.alloc o) := h.trans (Only.of ((Below.refl _ w').alloc (Nat.le_refl _) o))

/-- a block of places of one type -/
def Typed (w : World) (B : Nat) (t : TypeId) : Prop := ∃ cur, w.heap[B]? = some (.cells cur t (0, 0))
theorem Typed.of {w w' : World} {B : Nat} {t : TypeId} (h : Typed w B t) (e : w'.heap[B]? = w.heap[B]?) : Typed w' B t := by obtain ⟨c, hc⟩ := h; exact ⟨c, e.trans hc⟩
theorem Typed.lt {w : World} {B : Nat} {t : TypeId} (h : Typed w B t) : B < w.heap.size := by obtain ⟨c, hc⟩ := h; exact (Array.getElem?_eq_some_iff.1 hc).1
theorem Typed.below {w w' : World} {B : Nat} {t : TypeId} (h : Typed w B t) (hb : Below w.heap.size w w') : Typed w' B t := h.of (hb.block B h.lt)
theorem Typed.only {w w' : World} {B R : Nat} {t : TypeId} (h : Typed w B t) (hR : B ≠ R) (hb : Only R w w') : Typed w' B t := h.of (hb.block B h.lt hR)
theorem Typed.new (w : World) (xs : Array Value) (t : TypeId) : Typed (w.alloc (.cells xs t)) w.heap.size t := ⟨xs, by simp only [World.alloc, Array.getElem?_push_size]⟩
theorem Typed.set {w : World} {B : Nat} {t : TypeId} (h : Typed w B t) (a : Addr) (v : Value) : Typed (w.setCell a v) B t := by
  obtain ⟨c, hc⟩ := h
  by_cases e : a.block = B
  · refine ⟨if a.spot.isSome then c else c.setIfInBounds a.off v, ?_⟩
    simp only [World.setCell]
    rw [Array.getElem?_modify, if_pos e, hc]
    rfl
  · exact ⟨c, (Below.heap_setCell w a v B (fun h => e h.symm)).trans hc⟩

/-- what reading a list does -/
def ListPost (w0 : World) (R : Nat) (v : Value) (bs : List UInt8) (k : Nat) (w : World) (o : Option (List Int × Nat)) (e : Ending) (w' : World) : Prop :=
  Only R w w' ∧ match o with
    | some q => ∃ B, e = .returned (.slice (some ⟨B, 0, none⟩) q.1.length q.1.length) ∧ w.heap.size ≤ B ∧ Own w' B (q.1.map (.int .i64)) ∧ Typed w' B 3 ∧ q.1.length ≤ 4000 ∧ (∀ x ∈ q.1, I64 x) ∧ RD w0 R v bs (k + q.2) w'
    | none => e = .panicked bad

set_option maxRecDepth 100000 in
set_option maxHeartbeats 4000000 in
theorem list_any {w0 w : World} {R k : Nat} {v : Value} {bs : List UInt8} (h : RD w0 R v bs k w) (hlen : bs.length ≤ 1000000) :
    Calls Try.prog 29 #[.pointer (some ⟨R, 0, none⟩)] w (ListPost w0 R v bs k w (lrd (bs.drop k))) := by
  cases hr : rdI (bs.drop k) with
  | none =>
    have hl : lrd (bs.drop k) = none := by unfold lrd; rw [hr]; rfl
    rw [hl]
    have hn := int_none h hlen hr
    go_enter Try.func29, Try.ntmps29
    go_wp2_with (go_at_call 36; refine hn.mono ?_; rintro e w2 ⟨rfl, hon2⟩)
    exact ⟨rfl, hon2, rfl⟩
  | some p =>
    have hn := int_some h hlen hr
    have hi64 := rdI_i64 hr
    obtain ⟨n, m⟩ := p
    simp only at hn hi64
    by_cases hbad : n < 0 ∨ 4000 < n
    · have hl : lrd (bs.drop k) = none := by unfold lrd; rw [hr]; simp only [Option.bind_some]; rw [if_pos hbad]
      rw [hl]
      clear hr hl
      by_cases h0 : n < 0
      · have h1 : decide (0 ≤ n) = false := by simp; omega
        clear hbad h0
        go_enter Try.func29, Try.ntmps29
        go_wp2_with (first | (go_at_call 36; refine hn.mono ?_; rintro e w2 ⟨rfl, hon2, h2⟩) | (go_at_call 37; refine (must_false _).mono ?_; rintro e w3 ⟨rfl, rfl⟩))
        exact ⟨rfl, hon2, rfl⟩
      · have h1 : decide (0 ≤ n) = true := by simp; omega
        have h3 : decide (n ≤ 4000) = false := by simp; omega
        clear hbad h0
        go_enter Try.func29, Try.ntmps29
        go_wp2_with (first | (go_at_call 36; refine hn.mono ?_; rintro e w2 ⟨rfl, hon2, h2⟩) | (go_at_call 37; refine (must_false _).mono ?_; rintro e w3 ⟨rfl, rfl⟩))
        exact ⟨rfl, hon2, rfl⟩
    · obtain ⟨N, rfl⟩ : ∃ N : Nat, n = N := ⟨n.toNat, by omega⟩
      have hN : N ≤ 4000 := by omega
      have h1 : decide (0 ≤ (N : Int)) = true := by simp
      have h3 : decide ((N : Int) ≤ 4000) = true := by simp; omega
      have hl : lrd (bs.drop k) = (rdN N (bs.drop (k + m))).map fun q => (q.1, m + q.2) := by
        unfold lrd; rw [hr]; simp only [Option.bind_some]; rw [if_neg hbad, Int.toNat_natCast, List.drop_drop]
      have hmk := fun w => run_make_row' (P := Try.prog) 22 3 (.int .i64 0) 8 Try.underlying22 Try.infoInt rfl .i64 .i64 N (by omega) (by omega) w
      rw [hl]
      clear hr hl hbad
      go_enter Try.func29, Try.ntmps29
      go_wp2_with (first | (go_at_call 36; refine hn.mono ?_; rintro e w2 ⟨rfl, hon2, h2⟩) | (go_at_call 37; refine (must_true _).mono ?_; rintro e w3 ⟨rfl, rfl⟩))
      have hBR : w2.heap.size ≠ R := by have := h.own.lt; have := hon2.size; omega
      have hwB : w.heap.size ≤ w2.heap.size := hon2.size
      have h0B : w0.heap.size ≤ w2.heap.size := by have := h.le; have := h.own.lt; omega
      have ho := Own.new w2 (madeCells #[.int .i64 0] N) 3
      rw [made_list] at ho
      have hty := Typed.new w2 (madeCells #[.int .i64 0] N) 3
      have hon3 := hon2.alloc (.cells (madeCells #[.int .i64 0] N) 3)
      have h3' := h2.only (Only.of ((Below.refl _ w2).alloc (Nat.le_refl _) (.cells (madeCells #[.int .i64 0] N) 3))) (h2.own.alloc _)
      generalize w2.alloc (.cells (madeCells #[.int .i64 0] N) 3) = W at ho hon3 h3' hty ⊢
      generalize w2.heap.size = B at *
      clear hn hon2 h2 h hmk
      go_loopw [19] (fun i wr => ∃ (j s : Nat) (d : List Int), j ≤ N ∧ i = .int .i64 (j : Int) ∧ d.length = j ∧ (∀ x ∈ d, I64 x) ∧ Own wr B (d.map (.int .i64) ++ List.replicate (N - j) (.int .i64 0)) ∧ Typed wr B 3 ∧ Only R w wr ∧ RD w0 R v bs (k + m + s) wr ∧
          rdN N (bs.drop (k + m)) = (rdN (N - j) (bs.drop (k + m + s))).map (fun q => (d ++ q.1, s + q.2)))
        (fun i _ => N - (intOf i).toNat)
      case atStart => exact ⟨0, 0, [], by omega, rfl, rfl, by simp, by simpa using ho, hty, hon3, h3', by simp⟩
      case round =>
        clear ho hon3 h3' hty
        obtain ⟨j, s, d, hj, rfl, hd, hdi, ho, hty, hon, h, hrd⟩ := hrel
        by_cases hjn : j < N
        · cases hr : rdI (bs.drop (k + m + s)) with
          | none =>
            have hn := int_none h hlen hr
            have hnone : rdN N (bs.drop (k + m)) = none := by
              rw [hrd, show N - j = (N - (j + 1)) + 1 by omega, rdN, hr]; rfl
            clear hrd hr
            go_wp2_with (go_at_call 36; refine hn.mono ?_; rintro e w2 ⟨rfl, hon2⟩)
            exact ⟨rfl, hon.trans hon2, by rw [hnone]; rfl⟩
          | some p =>
            have hn := int_some h hlen hr
            have hp := rdI_i64 hr
            obtain ⟨x, t⟩ := p
            simp only at hn hp
            rw [show N - j = (N - (j + 1)) + 1 by omega, rdN, hr] at hrd
            simp only [Option.bind_some, Option.map_map, List.drop_drop] at hrd
            replace hrd := Lib.hid hrd
            have hxs : (d.map (Value.int .i64) ++ List.replicate (N - j) (Value.int .i64 0))[j]? = some (.int .i64 0) := by
              rw [List.getElem?_append_right (by simp; omega), List.length_map, hd, Nat.sub_self, List.getElem?_replicate, if_pos (by omega)]
            have hlx : j < (d.map (Value.int .i64) ++ List.replicate (N - j) (Value.int .i64 0)).length := by simp; omega
            clear hr
            go_wp2_with (go_at_call 36; refine hn.mono ?_; rintro e w2 ⟨rfl, hon2, h2⟩; have ho2 := ho.only hBR hon2; have hc := ho2.cell j _ hxs; have hf := ho2.fro j _ hxs)
            go_roundw
            case rel =>
              refine ⟨j + 1, s + t, d ++ [x], by omega, by go_num, by simp [hd], ?_, ?_, (hty.only hBR hon2).set _ _, (hon.trans hon2).setNew hwB _, ?_, ?_⟩
              · intro y hy
                rcases List.mem_append.1 hy with hy | hy
                · exact hdi y hy
                · rw [List.mem_singleton] at hy; subst hy; exact hp
              · have h5 := ho2.setAt (.int .i64 x) hlx
                have e5 : (d.map (Value.int .i64) ++ List.replicate (N - j) (Value.int .i64 0)).set j (.int .i64 x) = (d ++ [x]).map (Value.int .i64) ++ List.replicate (N - (j + 1)) (.int .i64 0) := by
                  rw [List.set_append_right _ _ (by simp; omega), show N - j = (N - (j + 1)) + 1 by omega, List.replicate_succ, List.length_map, hd, Nat.sub_self, List.set_cons_zero, List.map_append, List.map_singleton, List.append_assoc]
                  rfl
                rw [e5] at h5
                exact h5
              · rw [← Nat.add_assoc]
                exact ⟨h2.old, h2.le, Below.setCell (p := ⟨B, j, none⟩) h2.bel h0B _, h2.own.only hBR.symm ((Only.refl B w2).set j _)⟩
              · rw [hrd.out, ← Nat.add_assoc]
                congr 1
                funext q
                simp [Function.comp, Nat.add_assoc]
            case measure => simp [intOf]; omega
        · obtain rfl : j = N := by omega
          rw [Nat.sub_self] at ho hrd
          simp only [List.replicate_zero, List.append_nil, rdN, Option.map_some] at ho hrd
          go_wp2_with fail
          go_ret
          refine ⟨hon, ?_⟩
          rw [hrd]
          refine ⟨B, ?_, hwB, ho, hty, by simp only [hd]; exact hN, hdi, by rw [← Nat.add_assoc]; exact h⟩
          simp only [hd]
          rfl
end Go.Proofs.Ytpgnlmhkigpjgaa
