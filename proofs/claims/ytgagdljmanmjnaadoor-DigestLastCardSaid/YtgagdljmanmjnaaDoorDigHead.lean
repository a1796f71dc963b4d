/-
  What the laws of the digest share: literals, appended slices; the examples of the chapter.
-/
import Derived.Test.YtgagdljmanmjnaaDoorDigArg
import Derived.Lib.SmallJoins
namespace Go.Proofs.YtgagdljmanmjnaaDoor
open Go.RowKit Go.Shelf

instance I64.dec (x : Int) : Decidable (I64 x) := inferInstanceAs (Decidable (_ ∧ _))

theorem Bytes.below {w w1 : World} {v : Value} {l : List UInt8} (h : Bytes w v l) (hb : Below w.heap.size w w1) : Bytes w1 v l := Row.below h hb
theorem Ints.below {w w1 : World} {v : Value} {l : List Int} (h : Ints w v l) (hb : Below w.heap.size w w1) : Ints w1 v l := ⟨h.1.below hb, h.2⟩
def Vs (w : World) (vs : List Value) (l : List (List Int)) : Prop := vs.length = l.length ∧ ∀ i (h : i < vs.length) (h2 : i < l.length), Ints w vs[i] l[i]
theorem Vs.below {w w1 : World} {vs : List Value} {l : List (List Int)} (h : Vs w vs l) (hb : Below w.heap.size w w1) : Vs w1 vs l := ⟨h.1, fun i h1 h2 => (h.2 i h1 h2).below hb⟩
theorem Vs.nil (w : World) : Vs w [] [] := ⟨rfl, fun i h => by simp at h⟩
theorem Vs.one {w : World} {v : Value} {l : List Int} (h : Ints w v l) : Vs w [v] [l] := ⟨rfl, fun i h1 h2 => by
  have : i = 0 := by simpa using h1
  subst this; exact h⟩
theorem Vs.app {w : World} {vs us : List Value} {l m : List (List Int)} (h : Vs w vs l) (k : Vs w us m) : Vs w (vs ++ us) (l ++ m) := by
  refine ⟨by simp [h.1, k.1], fun i h1 h2 => ?_⟩
  by_cases hi : i < vs.length
  · rw [List.getElem_append_left hi, List.getElem_append_left (by rw [← h.1]; exact hi)]
    exact h.2 i hi _
  · rw [List.getElem_append_right (by omega), List.getElem_append_right (by rw [← h.1]; omega)]
    simp only [← h.1]
    simp only [List.length_append] at h1 h2
    exact k.2 _ (by omega) (by have := h.1; omega)
theorem Vs.cells {w : World} {vs : List Value} {l : List (List Int)} (h : Vs w vs l) : ∀ u ∈ vs, u.oneCell' = true := by
  intro u hu
  obtain ⟨i, hi, rfl⟩ := List.getElem_of_mem hu
  obtain ⟨ad, cap, e⟩ := (h.2 i hi (by rw [← h.1]; exact hi)).1.shape
  rw [e]; rfl
theorem lists_of_own {w : World} {base : Nat} {v : Value} {vs : List Value} {l : List (List Int)} (h : OwnRow w base 24 v vs) (hl : l.length ≤ 1000000) (hv : Vs w vs l) : Lists w v l :=
  ⟨vs, Row.of_own h (by have := hv.1; omega), hv⟩
theorem one_row {w : World} (x : Value) (e : TypeId) : Row (w.alloc (.cells #[x] e)) (.slice (some ⟨w.heap.size, 0, none⟩) 1 1) [x] := byte_row (Own.new w #[x] e)
theorem row_mark (w : World) (xs : List Value) (e : TypeId) (m : Nat × Nat) (h : xs.length ≤ 1000) : Row (w.alloc (.cells xs.toArray e m)) (.slice (some ⟨w.heap.size, 0, none⟩) xs.length xs.length) xs := by
  refine ⟨⟨_, _, rfl⟩, fun ad n cap e i hi => ?_, by omega, fun n cap e => by cases e⟩
  cases e
  refine ⟨_, rfl, by simp, ?_⟩
  rw [add_zero0, World.cell?_alloc_mark]
  simp [hi]

theorem dd_small (u : Nat) (h : u < 10) : Lib.decDigits u = [UInt8.ofNat (48 + u)] := by rw [Lib.decDigits, dif_pos h]
theorem itoa5 : Lib.itoa 5 = [53] := by rw [Lib.itoa, if_neg (by omega), dd_small _ (by decide)]; rfl
theorem itoam1 : Lib.itoa (-1) = [45, 49] := by rw [Lib.itoa, if_pos (by omega), dd_small _ (by decide)]; rfl
theorem ex_next : nxt 97 [5, -1] = fnv fnv0 [0, 0, 0, 0, 0, 0, 0, 97, 53, 32, 45, 49, 32] := by
  have : txt [5, -1] = [53, 32, 45, 49, 32] := by simp [txt, itoa5, itoam1]
  unfold nxt; rw [this]; rfl
theorem ex_a : fnv fnv0 [97] = 12638187200555641996 := by decide
theorem ex_chain : chn fnv0 [[7], []] = nxt (nxt fnv0 [1, 7]) [0] := by simp [chn]
theorem ex_foobar : fnv fnv0 [102, 111, 111, 98, 97, 114] = 9625390261332436968 := by decide

set_option maxRecDepth 100000 in
set_option maxHeartbeats 8000000 in
theorem head_any (w : World) (hT : Tab w) : Calls Tryd.prog 9 #[] w (Ret (.bool true) w) := by
  have hb := Below.refl w.heap.size w
  go_enter Tryd.func9, Tryd.ntmps9
  go_wp2_with fail
  refine (show Calls Tryd.prog _ _ _ (Ret (.int .u64 14695981039346656037) w) from (sum_any (.slice none 0 0) [] w (Row.nil _))).mono ?_
  rintro e w1 ⟨rfl, hx⟩
  replace hT := hT.below hx
  replace hb := hb.trans (hx.mono hb.size)
  clear hx
  have hconv := Joins.run_convert_bytes_const_at (P := Tryd.prog) w1 22 5 #[.int .u8 97] 1 1 w1.heap.size rfl Tryd.underlying22 Tryd.underlying5
  replace hT := hT.below ((Below.refl _ w1).alloc (Nat.le_refl _) (.cells #[.int .u8 97] 5 (1, 2)))
  replace hb := hb.alloc hb.size (.cells #[.int .u8 97] 5 (1, 2))
  have k1 : Bytes (w1.alloc (.cells #[.int .u8 97] 5 (1, 2))) (.slice (some ⟨w1.heap.size, 0, none⟩) 1 1) [97] := row_mark w1 [.int .u8 97] 5 (1, 2) (by simp)
  go_wp2_with fail
  refine (show Calls Tryd.prog _ _ _ (Ret (.int .u64 12638187200555641996) (w1.alloc (.cells #[.int .u8 97] 5 (1, 2)))) from by have := sum_any _ _ _ k1; rw [ex_a] at this; exact this).mono ?_
  rintro e w2 ⟨rfl, hx⟩
  replace hT := hT.below hx
  replace hb := hb.trans (hx.mono hb.size)
  clear hx
  clear k1 hconv
  have hconv := Joins.run_convert_bytes_const_at (P := Tryd.prog) w2 22 5 #[.int .u8 102, .int .u8 111, .int .u8 111, .int .u8 98, .int .u8 97, .int .u8 114] 6 6 w2.heap.size rfl Tryd.underlying22 Tryd.underlying5
  replace hT := hT.below ((Below.refl _ w2).alloc (Nat.le_refl _) (.cells #[.int .u8 102, .int .u8 111, .int .u8 111, .int .u8 98, .int .u8 97, .int .u8 114] 5 (6, 7)))
  replace hb := hb.alloc hb.size (.cells #[.int .u8 102, .int .u8 111, .int .u8 111, .int .u8 98, .int .u8 97, .int .u8 114] 5 (6, 7))
  have k2 : Bytes (w2.alloc (.cells #[.int .u8 102, .int .u8 111, .int .u8 111, .int .u8 98, .int .u8 97, .int .u8 114] 5 (6, 7))) (.slice (some ⟨w2.heap.size, 0, none⟩) 6 6) [102, 111, 111, 98, 97, 114] := row_mark w2 [.int .u8 102, .int .u8 111, .int .u8 111, .int .u8 98, .int .u8 97, .int .u8 114] 5 (6, 7) (by simp)
  go_wp2_with fail
  refine (show Calls Tryd.prog _ _ _ (Ret (.int .u64 9625390261332436968) (w2.alloc (.cells #[.int .u8 102, .int .u8 111, .int .u8 111, .int .u8 98, .int .u8 97, .int .u8 114] 5 (6, 7)))) from by have := sum_any _ _ _ k2; rw [ex_foobar] at this; exact this).mono ?_
  rintro e w3 ⟨rfl, hx⟩
  replace hT := hT.below hx
  replace hb := hb.trans (hx.mono hb.size)
  clear hx
  clear k2 hconv
  replace hT := hT.below ((Below.refl _ w3).alloc (Nat.le_refl _) (.cells #[.int .i64 5, .int .i64 (-1)] 3))
  replace hb := hb.alloc hb.size (.cells #[.int .i64 5, .int .i64 (-1)] 3)
  have i1 : Ints (w3.alloc (.cells #[.int .i64 5, .int .i64 (-1)] 3)) (.slice (some ⟨w3.heap.size, 0, none⟩) 2 2) [5, -1] := ⟨row_mark w3 [.int .i64 5, .int .i64 (-1)] 3 (0, 0) (by simp), by decide⟩
  go_wp2_with fail
  refine (show Calls Tryd.prog _ #[.int .u64 97, _] _ (Ret (.int .u64 ((nxt 97 [5, -1]).toNat : Int)) (w3.alloc (.cells #[.int .i64 5, .int .i64 (-1)] 3))) from next_any 97 _ _ _ hT i1).mono ?_
  rintro e w4 ⟨rfl, hx⟩
  replace hT := hT.below hx
  replace i1 := i1.below hx
  replace hb := hb.trans (hx.mono hb.size)
  clear hx
  clear i1
  replace hT := hT.below ((Below.refl _ w4).alloc (Nat.le_refl _) (.cells #[.int .u8 0, .int .u8 0, .int .u8 0, .int .u8 0, .int .u8 0, .int .u8 0, .int .u8 0, .int .u8 97, .int .u8 53, .int .u8 32, .int .u8 45, .int .u8 49, .int .u8 32] 5))
  replace hb := hb.alloc hb.size (.cells #[.int .u8 0, .int .u8 0, .int .u8 0, .int .u8 0, .int .u8 0, .int .u8 0, .int .u8 0, .int .u8 97, .int .u8 53, .int .u8 32, .int .u8 45, .int .u8 49, .int .u8 32] 5)
  have k4 : Bytes (w4.alloc (.cells #[.int .u8 0, .int .u8 0, .int .u8 0, .int .u8 0, .int .u8 0, .int .u8 0, .int .u8 0, .int .u8 97, .int .u8 53, .int .u8 32, .int .u8 45, .int .u8 49, .int .u8 32] 5)) (.slice (some ⟨w4.heap.size, 0, none⟩) 13 13) [0, 0, 0, 0, 0, 0, 0, 97, 53, 32, 45, 49, 32] := row_mark w4 [.int .u8 0, .int .u8 0, .int .u8 0, .int .u8 0, .int .u8 0, .int .u8 0, .int .u8 0, .int .u8 97, .int .u8 53, .int .u8 32, .int .u8 45, .int .u8 49, .int .u8 32] 5 (0, 0) (by simp)
  go_wp2_with fail
  refine (show Calls Tryd.prog _ _ _ (Ret (.int .u64 ((nxt 97 [5, -1]).toNat : Int)) (w4.alloc (.cells #[.int .u8 0, .int .u8 0, .int .u8 0, .int .u8 0, .int .u8 0, .int .u8 0, .int .u8 0, .int .u8 97, .int .u8 53, .int .u8 32, .int .u8 45, .int .u8 49, .int .u8 32] 5))) from by have := sum_any _ _ _ k4; rw [← ex_next] at this; exact this).mono ?_
  rintro e w5 ⟨rfl, hx⟩
  replace hT := hT.below hx
  replace hb := hb.trans (hx.mono hb.size)
  clear hx
  clear k4
  replace hT := hT.below ((Below.refl _ w5).alloc (Nat.le_refl _) (.cells #[.int .i64 7] 3))
  replace hb := hb.alloc hb.size (.cells #[.int .i64 7] 3)
  have i2 : Ints (w5.alloc (.cells #[.int .i64 7] 3)) (.slice (some ⟨w5.heap.size, 0, none⟩) 1 1) [7] := ⟨row_mark w5 [.int .i64 7] 3 (0, 0) (by simp), by decide⟩
  have j2 : Vs (w5.alloc (.cells #[.int .i64 7] 3)) [.slice (some ⟨w5.heap.size, 0, none⟩) 1 1, .slice none 0 0] [[7], []] := (Vs.one i2).app (Vs.one ⟨Row.nil _, by decide⟩)
  replace hT := hT.below ((Below.refl _ (w5.alloc (.cells #[.int .i64 7] 3))).alloc (Nat.le_refl _) (.cells #[.slice (some ⟨w5.heap.size, 0, none⟩) 1 1, .slice none 0 0] 24))
  replace i2 := i2.below ((Below.refl _ (w5.alloc (.cells #[.int .i64 7] 3))).alloc (Nat.le_refl _) (.cells #[.slice (some ⟨w5.heap.size, 0, none⟩) 1 1, .slice none 0 0] 24))
  replace j2 := j2.below ((Below.refl _ (w5.alloc (.cells #[.int .i64 7] 3))).alloc (Nat.le_refl _) (.cells #[.slice (some ⟨w5.heap.size, 0, none⟩) 1 1, .slice none 0 0] 24))
  replace hb := hb.alloc hb.size (.cells #[.slice (some ⟨w5.heap.size, 0, none⟩) 1 1, .slice none 0 0] 24)
  have l2 : Lists ((w5.alloc (.cells #[.int .i64 7] 3)).alloc (.cells #[.slice (some ⟨w5.heap.size, 0, none⟩) 1 1, .slice none 0 0] 24)) (.slice (some ⟨w5.heap.size + 1, 0, none⟩) 2 2) [[7], []] := ⟨_, by have := row_mark (w5.alloc (.cells #[.int .i64 7] 3)) [.slice (some ⟨w5.heap.size, 0, none⟩) 1 1, .slice none 0 0] 24 (0, 0) (by simp); simpa using this, j2⟩
  clear i2
  clear j2
  go_wp2_with fail
  refine (show Calls Tryd.prog _ _ _ (Ret (.int .u64 ((nxt (nxt fnv0 [1, 7]) [0]).toNat : Int)) ((w5.alloc (.cells #[.int .i64 7] 3)).alloc (.cells #[.slice (some ⟨w5.heap.size, 0, none⟩) 1 1, .slice none 0 0] 24))) from by have := chain_any _ [[7], []] _ hT l2 (by simp) (by simp); rw [ex_chain] at this; exact this).mono ?_
  rintro e w6 ⟨rfl, hx⟩
  replace hT := hT.below hx
  replace hb := hb.trans (hx.mono hb.size)
  clear hx
  clear l2
  replace hT := hT.below ((Below.refl _ w6).alloc (Nat.le_refl _) (.cells #[.int .i64 1, .int .i64 7] 3))
  replace hb := hb.alloc hb.size (.cells #[.int .i64 1, .int .i64 7] 3)
  have i3 : Ints (w6.alloc (.cells #[.int .i64 1, .int .i64 7] 3)) (.slice (some ⟨w6.heap.size, 0, none⟩) 2 2) [1, 7] := ⟨row_mark w6 [.int .i64 1, .int .i64 7] 3 (0, 0) (by simp), by decide⟩
  go_wp2_with fail
  refine (show Calls Tryd.prog _ #[.int .u64 14695981039346656037, _] _ (Ret (.int .u64 ((nxt fnv0 [1, 7]).toNat : Int)) (w6.alloc (.cells #[.int .i64 1, .int .i64 7] 3))) from next_any fnv0 _ _ _ hT i3).mono ?_
  rintro e w7 ⟨rfl, hx⟩
  replace hT := hT.below hx
  replace i3 := i3.below hx
  replace hb := hb.trans (hx.mono hb.size)
  clear hx
  clear i3
  replace hT := hT.below ((Below.refl _ w7).alloc (Nat.le_refl _) (.cells #[.int .i64 0] 3))
  replace hb := hb.alloc hb.size (.cells #[.int .i64 0] 3)
  have i4 : Ints (w7.alloc (.cells #[.int .i64 0] 3)) (.slice (some ⟨w7.heap.size, 0, none⟩) 1 1) [0] := ⟨row_mark w7 [.int .i64 0] 3 (0, 0) (by simp), by decide⟩
  go_wp2_with fail
  refine (show Calls Tryd.prog _ #[.int .u64 ((nxt fnv0 [1, 7]).toNat : Int), _] _ (Ret (.int .u64 ((nxt (nxt fnv0 [1, 7]) [0]).toNat : Int)) (w7.alloc (.cells #[.int .i64 0] 3))) from next_any (nxt fnv0 [1, 7]) _ _ _ hT i4).mono ?_
  rintro e w8 ⟨rfl, hx⟩
  replace hT := hT.below hx
  replace i4 := i4.below hx
  replace hb := hb.trans (hx.mono hb.size)
  clear hx
  clear i4
  go_wp2_with fail
  refine (show Calls Tryd.prog _ _ _ (Ret (.int .u64 14695981039346656037) w8) from chain_any _ [] _ hT ⟨[], Row.nil _, Vs.nil _⟩ (by simp) (by simp)).mono ?_
  rintro e w9 ⟨rfl, hx⟩
  replace hT := hT.below hx
  replace hb := hb.trans (hx.mono hb.size)
  clear hx
  go_wp2_with fail
  refine (show Calls Tryd.prog _ _ _ (Ret (.int .u64 14695981039346656037) w9) from (sum_any (.slice none 0 0) [] w9 (Row.nil _))).mono ?_
  rintro e w10 ⟨rfl, hx⟩
  replace hT := hT.below hx
  replace hb := hb.trans (hx.mono hb.size)
  clear hx
  go_wp2_with fail
  go_ret
  exact Ret.mk (by simp) hb
end Go.Proofs.YtgagdljmanmjnaaDoor
