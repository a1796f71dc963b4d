/-
  Slices of the call's own with one cell a place: append behind them; what they read.
-/
import Derived.Test.YtpgnlmhkigpjgaaCodA
import Derived.Laws.AppendOwn
import Derived.Laws.AppendOwnNone
import Derived.Lib.AppendStr
namespace Go.Proofs.Ytpgnlmhkigpjgaa
open Go.RowKit Go.Lib

theorem Try.infoU8 : (Try.prog.info? 5).map (fun i => (i.zero, i.size, i.bytes)) = some (some (.int .u8 0), 1, 1) := by kernel_rfl
theorem Try.infoInt : (Try.prog.info? 3).map (fun i => (i.zero, i.size, i.bytes)) = some (some (.int .i64 0), 1, 8) := by kernel_rfl
theorem Try.infoInts : (Try.prog.info? 22).map (fun i => (i.zero, i.size, i.bytes)) = some (some (.slice none 0 0), 1, 24) := by kernel_rfl

/-- a slice of the call's own that reads xs, in blocks from base on -/
def OwnRow (w : World) (base : Nat) (e : TypeId) (v : Value) (xs : List Value) : Prop := w.ownsRow base e 1 v xs.length xs

theorem add_zero0 (g m : Nat) : (⟨g, 0, none⟩ : Addr).add m = ⟨g, m, none⟩ := by
  unfold Addr.add; split
  · next h => subst h; rfl
  · simp
theorem Row.of_own {w : World} {v : Value} {xs : List Value} {base : Nat} {e : TypeId} (h : OwnRow w base e v xs) (hs : xs.length ≤ 9223372036854775807) : Row w v xs := by
  obtain ⟨_, ⟨h1, h0⟩ | ⟨g, cap', cur, hv, _, hh, _, _, _, hct⟩⟩ := h
  · rw [List.length_eq_zero_iff] at h0
    subst h0 h1
    exact Row.nil w
  · refine ⟨⟨_, _, hv⟩, fun ad n cap e i hil => ?_, hs, fun n cap e => ?_⟩
    · rw [hv] at e; cases e
      refine ⟨_, rfl, (Array.getElem?_eq_some_iff.1 hh).1, ?_⟩
      rw [add_zero0]
      have h2 : (cur.toList.take (xs.length * 1))[i]? = some xs[i] := by rw [hct]; exact List.getElem?_eq_getElem hil
      rw [List.getElem?_take] at h2
      split at h2
      · simpa [World.cell?, hh] using h2
      · cases h2
    · rw [hv] at e; cases e
theorem own_below {w w1 : World} {base : Nat} {e : TypeId} {v : Value} {xs : List Value} (h : OwnRow w base e v xs) (hb : Below w.heap.size w w1) : OwnRow w1 base e v xs := by
  obtain ⟨h0, h1 | ⟨g, cap, cur, hv, hg, hh, hr⟩⟩ := h
  · exact ⟨h0, .inl h1⟩
  · exact ⟨h0, .inr ⟨g, cap, cur, hv, hg, (hb.block g (Array.getElem?_eq_some_iff.1 hh).1).trans hh, hr⟩⟩
theorem OwnRow.nil (w : World) (base : Nat) (e : TypeId) : OwnRow w base e (.slice none 0 0) [] := ⟨rfl, .inl ⟨rfl, rfl⟩⟩
theorem OwnRow.new (w : World) (base : Nat) (hb : base ≤ w.heap.size) (e : TypeId) (xs : List Value) (hx : xs.length ≤ 1000) : OwnRow (w.alloc (.cells xs.toArray e)) base e (.slice (some ⟨w.heap.size, 0, none⟩) xs.length xs.length) xs :=
  ⟨by simp, .inr ⟨w.heap.size, xs.length, xs.toArray, rfl, hb, by simp only [World.alloc, Array.getElem?_push_size], by omega, by unfold maxLen; omega, by simp, by simp⟩⟩

/-- behind the append: the row is longer; only its own block has changed -/
theorem grown_below {w w' : World} {base : Nat} {e : TypeId} {v : Value} {xs : List Value} (ho : OwnRow w base e v xs) (hg : w.grownBy w' v.ownBlock) (hB : base ≤ w.heap.size) : Below base w w' := by
  refine (Below.refl base w).grown hg hB (fun k hk => ?_)
  obtain ⟨_, ⟨rfl, _⟩ | ⟨g, cap, cur, rfl, hg, _⟩⟩ := ho
  · cases hk
  · cases hk; exact hg

section
variable {ops : Array Oper} {rest : List Oper} {o : Oper} {a : Act} {Q : Exit → Act → World → Prop}
theorem app_row (w : World) (hgd : o.guard = none) (s x : Operand) (t : TypeId) (ho : o.op = .call { callee := .builtin .append, args := #[s, x], argTypes := #[t, t] })
    (base : Nat) (e : TypeId) (z : Value) (bytes : Nat) (ht : Try.prog.underlying t = some (.slice e)) (hi : (Try.prog.info? e).map (fun i => (i.zero, i.size, i.bytes)) = some (some z, 1, bytes)) (hz : z.cells.size = 1) (h24 : bytes ≤ 24)
    (v : Value) (xs : List Value) (hs : a.eval s = v) (hown : OwnRow w base e v xs) (vx : Value) (ys : List Value) (hx : a.eval x = vx) (hr : Row w vx ys) (h1 : ∀ u ∈ ys, u.oneCell' = true)
    (hlim : xs.length + ys.length ≤ 1000000000) (hB : base ≤ w.heap.size)
    (h : ∀ v' w', OwnRow w' base e v' (xs ++ ys) → Below base w w' → wpList Try.prog ops Q rest (a.put o.dst v') w') : wpList Try.prog ops Q (o :: rest) a w := by
  obtain ⟨i, hi, hz0, hz1, hz2⟩ := info_parts hi
  obtain ⟨ad, cap, rfl⟩ := hr.shape
  cases ad with
  | none =>
    obtain ⟨h0, rfl⟩ := hr.bare _ _ rfl
    rw [h0] at hx
    rw [List.length_eq_zero_iff] at h0
    subst h0
    refine wpList_append_own_none hgd s x t ho base e i 1 ht hi v _ xs hs hown hx ?_
    have := h v w (by rw [List.append_nil]; exact hown) (Below.refl _ _)
    exact this
  | some ad =>
    refine wpList_append_own w hgd s x t ho base e i z 1 bytes ht hi hz0 hz1 hz2 hz (by decide) v xs.length xs hs hown ad ys.length cap ys hx (by simp) ?_ h1 (by unfold maxLen; omega) (by have := Nat.mul_le_mul hlim h24; omega) hB ?_
    · intro j u hj
      obtain ⟨hl, rfl⟩ := List.getElem?_eq_some_iff.1 hj
      obtain ⟨a', e', _, hc⟩ := hr.cells _ _ _ rfl j hl
      cases e'; exact hc
    · intro v' w' hown' hg _
      exact h v' w' (by unfold OwnRow; rw [List.length_append]; exact hown') (grown_below hown hg hB)
end
theorem byte_one {l : List UInt8} : ∀ u ∈ l.map vB, u.oneCell' = true := by
  intro u hu
  obtain ⟨x, _, rfl⟩ := List.mem_map.1 hu
  rfl
theorem byte_row {w : World} {B : Nat} {x : Value} {c : Nat} (h : Own w B [x]) : Row w (.slice (some ⟨B, 0, none⟩) 1 c) [x] := by
  refine ⟨⟨_, _, rfl⟩, fun ad n cap e i hi => ?_, by simp, fun n cap e => by cases e⟩
  cases e
  obtain ⟨c0, _, z⟩ := h.one
  refine ⟨_, rfl, z, ?_⟩
  have : i = 0 := by simpa using hi
  subst this
  rw [add_zero0]; exact c0
theorem bytes_of_own {w : World} {base : Nat} {v : Value} {l : List UInt8} (h : OwnRow w base 5 v (l.map vB)) (hl : l.length ≤ 1000000000) : Bytes w v l := Row.of_own h (by simp; omega)
theorem Lists.below {w w1 : World} {v : Value} {l : List (List Int)} (h : Lists w v l) (hb : Below w.heap.size w w1) : Lists w1 v l := by
  obtain ⟨vs, h1, h2, h3⟩ := h
  exact ⟨vs, h1.below hb, h2, fun i h h2 => ⟨(h3 i h h2).1.below hb, (h3 i h h2).2⟩⟩
theorem int_one {l : List Int} : ∀ u ∈ l.map (Value.int .i64), u.oneCell' = true := by
  intro u hu
  obtain ⟨x, _, rfl⟩ := List.mem_map.1 hu
  rfl
/-- number and integers of a list, laid by the call -/
theorem ints_of_own {w : World} {base : Nat} {v : Value} {l : List Int} (h : OwnRow w base 3 v (l.map (.int .i64))) (hl : l.length ≤ 1000000) (hi : ∀ x ∈ l, I64 x) : Ints w v l :=
  ⟨Row.of_own h (by simp; omega), hi⟩
instance I64.dec (x : Int) : Decidable (I64 x) := inferInstanceAs (Decidable (_ ∧ _))
theorem Bytes.below {w w1 : World} {v : Value} {l : List UInt8} (h : Bytes w v l) (hb : Below w.heap.size w w1) : Bytes w1 v l := Row.below h hb
theorem Ints.below {w w1 : World} {v : Value} {l : List Int} (h : Ints w v l) (hb : Below w.heap.size w w1) : Ints w1 v l := ⟨h.1.below hb, h.2⟩
def Vs (w : World) (vs : List Value) (l : List (List Int)) : Prop := vs.length = l.length ∧ ∀ i (h : i < vs.length) (h2 : i < l.length), Ints w vs[i] l[i]
theorem Vs.below {w w1 : World} {vs : List Value} {l : List (List Int)} (h : Vs w vs l) (hb : Below w.heap.size w w1) : Vs w1 vs l := ⟨h.1, fun i h1 h2 => (h.2 i h1 h2).below hb⟩
theorem Vs.nil (w : World) : Vs w [] [] := ⟨rfl, fun i h => by simp at h⟩
theorem Vs.one {w : World} {v : Value} {l : List Int} (h : Ints w v l) : Vs w [v] [l] := ⟨rfl, fun i h1 h2 => by
  have : i = 0 := by simpa using h1
  subst this; exact h⟩
theorem Vs.app {w : World} {vs us : List Value} {l m : List (List Int)} (h : Vs w vs l) (k : Vs w us m) : Vs w (vs ++ us) (l ++ m) := by
  refine ⟨by simp [h.1, k.1], fun i h1 h2 => ?_⟩
  by_cases hi : i < vs.length
  · rw [List.getElem_append_left hi, List.getElem_append_left (by rw [← h.1]; exact hi)]
    exact h.2 i hi _
  · rw [List.getElem_append_right (by omega), List.getElem_append_right (by rw [← h.1]; omega)]
    simp only [← h.1]
    simp only [List.length_append] at h1 h2
    exact k.2 _ (by omega) (by have := h.1; omega)
theorem Vs.cells {w : World} {vs : List Value} {l : List (List Int)} (h : Vs w vs l) : ∀ u ∈ vs, u.oneCell' = true := by
  intro u hu
  obtain ⟨i, hi, rfl⟩ := List.getElem_of_mem hu
  obtain ⟨ad, cap, e⟩ := (h.2 i hi (by rw [← h.1]; exact hi)).1.shape
  rw [e]; rfl
theorem lists_of_own {w : World} {base : Nat} {v : Value} {vs : List Value} {l : List (List Int)} (h : OwnRow w base 22 v vs) (hl : l.length ≤ 1000000) (hv : Vs w vs l) : Lists w v l :=
  ⟨vs, Row.of_own h (by have := hv.1; omega), hv⟩
theorem one_row {w : World} (x : Value) (e : TypeId) : Row (w.alloc (.cells #[x] e)) (.slice (some ⟨w.heap.size, 0, none⟩) 1 1) [x] := byte_row (Own.new w #[x] e)
theorem row_mark (w : World) (xs : List Value) (e : TypeId) (m : Nat × Nat) (h : xs.length ≤ 1000) : Row (w.alloc (.cells xs.toArray e m)) (.slice (some ⟨w.heap.size, 0, none⟩) xs.length xs.length) xs := by
  refine ⟨⟨_, _, rfl⟩, fun ad n cap e i hi => ?_, by omega, fun n cap e => by cases e⟩
  cases e
  refine ⟨_, rfl, by simp, ?_⟩
  rw [add_zero0, World.cell?_alloc_mark]
  simp [hi]
set_option maxHeartbeats 1000000 in
theorem refSum_any (v : Value) (bs : List UInt8) (w : World) (h : Bytes w v bs) : Calls Try.prog 27 #[v] w (Ret (vD (fnv fnv0 bs)) w) := by
  obtain ⟨ad, cap, rfl⟩ := h.shape
  have hcell := h.cells _ _ _ rfl
  have hlen := h.short
  simp only [List.length_map] at hcell hlen ⊢
  go_enter Try.func27, Try.ntmps27
  go_wp2_with fail
  go_loopw [3, 4] (fun d i wr => ∃ k : Nat, k ≤ bs.length ∧ i = .int .i64 k ∧ d = .int .u64 ((fnv fnv0 (bs.take k)).toNat : Int) ∧ Below w.heap.size w wr)
    (fun _ i _ => bs.length - (intOf i).toNat)
  case atStart => exact ⟨0, by omega, rfl, rfl, Below.refl _ _⟩
  case round =>
    obtain ⟨k, hk, rfl, rfl, hb⟩ := hrel
    by_cases hkl : k < bs.length
    · obtain ⟨a, rfl, hab, hc⟩ := hcell k (by simpa using hkl)
      have hr := (hb.cell (p := a.add k) (by rw [blk_add]; omega)).trans hc
      rw [List.getElem_map, vB] at hr
      go_wp2_with fail
      go_roundw
      case rel => exact ⟨k + 1, by omega, by go_num, by rw [stp_int, List.take_succ_eq_append_getElem hkl, fnv_app]; rfl, by (repeat (first | exact Below.refl _ _ | assumption | refine Below.drew ?_ | refine below_drewN ?_ _ | refine Below.setCell ?_ (by first | omega | (simp <;> omega)) _ | refine Below.alloc ?_ (by first | omega | (simp <;> omega)) _))⟩
      case measure => simp [intOf]; omega
    · go_wp2_with fail
      go_ret
      rw [List.take_of_length_le (by omega)]
      exact Ret.mk rfl (by (repeat (first | exact Below.refl _ _ | assumption | refine Below.drew ?_ | refine below_drewN ?_ _ | refine Below.setCell ?_ (by first | omega | (simp <;> omega)) _ | refine Below.alloc ?_ (by first | omega | (simp <;> omega)) _)))
section
variable {ops : Array Oper} {rest : List Oper} {o : Oper} {a : Act} {Q : Exit → Act → World → Prop}
theorem app_big (w : World) (hgd : o.guard = none) (s x : Operand) (t : TypeId) (ho : o.op = .call { callee := .builtin .append, args := #[s, x], argTypes := #[t, t] })
    (base : Nat) (e : TypeId) (z : Value) (bytes : Nat) (ht : Try.prog.underlying t = some (.slice e)) (hi : (Try.prog.info? e).map (fun i => (i.zero, i.size, i.bytes)) = some (some z, 1, bytes)) (hz : z.cells.size = 1)
    (v : Value) (xs : List Value) (hs : a.eval s = v) (hown : OwnRow w base e v xs) (vx : Value) (ys : List Value) (hx : a.eval x = vx) (hr : Row w vx ys) (h1 : ∀ u ∈ ys, u.oneCell' = true)
    (h63 : xs.length + ys.length ≤ maxLen) (hbytes : (xs.length + ys.length) * bytes ≤ 140737488355328) (hB : base ≤ w.heap.size)
    (h : ∀ v' w', OwnRow w' base e v' (xs ++ ys) → Below base w w' → wpList Try.prog ops Q rest (a.put o.dst v') w') : wpList Try.prog ops Q (o :: rest) a w := by
  obtain ⟨i, hi, hz0, hz1, hz2⟩ := info_parts hi
  obtain ⟨ad, cap, rfl⟩ := hr.shape
  cases ad with
  | none =>
    obtain ⟨h0, rfl⟩ := hr.bare _ _ rfl
    rw [h0] at hx
    rw [List.length_eq_zero_iff] at h0
    subst h0
    refine wpList_append_own_none hgd s x t ho base e i 1 ht hi v _ xs hs hown hx ?_
    have := h v w (by rw [List.append_nil]; exact hown) (Below.refl _ _)
    exact this
  | some ad =>
    refine wpList_append_own w hgd s x t ho base e i z 1 bytes ht hi hz0 hz1 hz2 hz (by decide) v xs.length xs hs hown ad ys.length cap ys hx (by simp) ?_ h1 h63 hbytes hB ?_
    · intro j u hj
      obtain ⟨hl, rfl⟩ := List.getElem?_eq_some_iff.1 hj
      obtain ⟨a', e', _, hc⟩ := hr.cells _ _ _ rfl j hl
      cases e'; exact hc
    · intro v' w' hown' hg _
      exact h v' w' (by unfold OwnRow; rw [List.length_append]; exact hown') (grown_below hown hg hB)
end
theorem ints_big {w : World} {base : Nat} {v : Value} {l : List Int} (h : OwnRow w base 3 v (l.map (.int .i64))) (hl : l.length ≤ 9223372036854775807) (hi : ∀ x ∈ l, I64 x) : Ints w v l :=
  ⟨Row.of_own h (by rw [List.length_map]; exact hl), hi⟩
end Go.Proofs.Ytpgnlmhkigpjgaa
