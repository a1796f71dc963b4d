/-
  The examples of the chapter; few, lines, flat.
-/
import Derived.Test.YtfnclecfldddeaaDoorLexLink
namespace Go.Proofs.YtfnclecfldddeaaDoor
open Go.RowKit Go.Shelf
set_option maxRecDepth 100000

def toksG : Nat → Nat → Nat → List UInt8 → List Tok × Nat × Nat
  | _, _, _, [] => ([], 0, 0)
  | 0, _, _, _ :: _ => ([], 0, 0)
  | f + 1, line, cnt, c :: r => if c = 32 then toksG f line cnt r else if c = 10 then toksG f (line + 1) cnt r else if c = 35 then toksG f line cnt (r.dropWhile (· != 10))
    else if kindF ((c :: r).take (sizeF (c :: r))) = 0 then ([], 8, line) else if cnt = 5000 then ([], 2, line) else
      consF ⟨kindF ((c :: r).take (sizeF (c :: r))), line, (c :: r).take (sizeF (c :: r))⟩ (toksG f line (cnt + 1) ((c :: r).drop (sizeF (c :: r))))
theorem toks_fuel : ∀ (f line cnt : Nat) (s : List UInt8), s.length ≤ f → toksF line cnt s = toksG f line cnt s
  | f, line, cnt, [], _ => by rw [toks_nil]; cases f <;> rfl
  | 0, _, _, _ :: _, h => by simp at h
  | f + 1, line, cnt, c :: r, h => by
    simp only [List.length_cons] at h
    rw [toksG]
    by_cases h1 : c = 32
    · subst h1; rw [if_pos rfl, toks_blank, toks_fuel f _ _ _ (by omega)]
    rw [if_neg h1]
    by_cases h2 : c = 10
    · subst h2; rw [if_pos rfl, toks_feed, toks_fuel f _ _ _ (by omega)]
    rw [if_neg h2]
    by_cases h3 : c = 35
    · subst h3; have := drop_len r; rw [if_pos rfl, toks_note, toks_fuel f _ _ _ (by omega)]
    have hp := size_pos (s := c :: r) (by simp)
    rw [if_neg h3, toks_eq _ _ h1 h2 h3, toks_fuel f _ _ _ (by rw [List.length_drop]; simp only [List.length_cons]; omega)]
abbrev src1 : List UInt8 := [114, 97, 116, 101, 32, 49, 50, 32, 35, 32, 104, 105, 103, 104, 10, 112, 114, 105, 99, 101, 32, 57, 57, 46, 53, 48, 59]
abbrev src2 : List UInt8 := [97, 10, 49, 48, 48, 48, 48, 48, 48, 48, 46, 48, 49]
abbrev src3 : List UInt8 := [49, 46, 53]
abbrev want : List RT := [⟨1, 1, [114, 97, 116, 101]⟩, ⟨2, 1, [49, 50]⟩, ⟨1, 2, [112, 114, 105, 99, 101]⟩, ⟨3, 2, [57, 57, 46, 53, 48]⟩, ⟨4, 2, [59]⟩]
abbrev txt1 : List UInt8 := [114, 97, 116, 101, 32, 49, 50, 10, 112, 114, 105, 99, 101, 32, 57, 57, 46, 53, 48, 32, 59]
theorem tk1 : (tokP src1).1.map Tok.rt = want ∧ (tokP src1).2 = (0, 0) := by
  unfold tokP; rw [if_neg (by decide), toks_fuel 40 1 0 src1 (by decide)]; decide +kernel
theorem tk2 : (tokP src2).2 = (8, 2) := by
  unfold tokP; rw [if_neg (by decide), toks_fuel 40 1 0 src2 (by decide)]; decide +kernel
theorem tk3 : (tokP src3).2 = (8, 1) := by
  unfold tokP; rw [if_neg (by decide), toks_fuel 40 1 0 src3 (by decide)]; decide +kernel
theorem jn1 : joinP want = (txt1, 0) := by decide +kernel
theorem jn2 : joinP [⟨0, 0, []⟩] = ([], 1) := by decide +kernel
theorem want_rs : RS want := by rw [← tk1.1]; exact tok_rs _
theorem zero_rs : RS [⟨0, 0, []⟩] := by intro x hx; rw [List.mem_singleton.1 hx]; exact ⟨⟨by decide, by decide⟩, ⟨by decide, by decide⟩, by simp⟩
theorem toks_new (w : World) (l : List RT) (hi : RS l) (hl : 1 ≤ l.length) (hl2 : l.length ≤ 1000) : Toks (w.alloc (.cells (l.flatMap rtC).toArray 36)) (.slice (some ⟨w.heap.size, 0, none⟩) l.length l.length) l := by
  refine (toks_of_own (base := w.heap.size) (n := l.length) ⟨by rw [lenT], .inr ⟨w.heap.size, l.length, (l.flatMap rtC).toArray, rfl, Nat.le_refl _, by simp only [World.alloc, Array.getElem?_push_size], Nat.le_refl _, by unfold maxLen; omega, ?_, ?_⟩⟩ hi (by omega)).2
  · rw [List.size_toArray, lenT]
  · show List.take (l.length * 3) (l.flatMap rtC) = _
    rw [← lenT l, List.take_length]

/-- the tokens of a source, as a law holds them -/
def TokR (s : List UInt8) (w : World) (e : Ending) (w' : World) : Prop := ∃ v, e = .returned (.tuple #[v, .int .i64 (tokP s).2.1, .int .i64 (tokP s).2.2]) ∧ Toks w' v ((tokP s).1.map Tok.rt) ∧
  w'.ownsRow w.heap.size 36 3 v ((tokP s).1.map Tok.rt).length (((tokP s).1.map Tok.rt).flatMap rtC) ∧ Below w.heap.size w w'
theorem tokR_of {s : List UInt8} {w w' : World} {e : Ending} (h : TokEnd s w e w') : TokR s w e w' := by
  obtain ⟨v, he, ho, hb⟩ := h
  have hn := tok_count s
  refine ⟨v, he, (toks_of_own ho (tok_rs s) (by rw [List.length_map]; omega)).2, by rw [List.length_map]; exact ho, hb⟩
theorem tok_any (s : List UInt8) (w : World) (hL : Lay w) : Calls Tryd.prog 10 #[.string ⟨s.toArray⟩] w (TokR s w) := (toks_any s w hL).mono fun _ _ h => tokR_of h
theorem rtok_any (s : List UInt8) (w : World) : Calls Tryd.prog 11 #[.string ⟨s.toArray⟩] w (TokR s w) := (rtoks_any s w).mono fun _ _ h => tokR_of h

set_option maxHeartbeats 8000000 in
theorem lhead_any (w : World) (hL : Lay w) : Calls Tryd.prog 8 #[] w (Ret (.bool true) w) := by
  have hT1 : ∀ wk, Below w.heap.size w wk → Calls Tryd.prog 10 #[.string ⟨#[114, 97, 116, 101, 32, 49, 50, 32, 35, 32, 104, 105, 103, 104, 10, 112, 114, 105, 99, 101, 32, 57, 57, 46, 53, 48, 59]⟩] wk (fun e w' => ∃ v, e = .returned (.tuple #[v, .int .i64 0, .int .i64 0]) ∧ Toks w' v want ∧ Below wk.heap.size wk w') := fun wk h => by
    refine (tok_any src1 wk (hL.below h)).mono ?_
    rintro e w' ⟨v, he, hv, _, hb⟩
    rw [tk1.1] at hv; rw [tk1.2] at he
    exact ⟨v, he, hv, hb⟩
  have hT2 : ∀ wk, Below w.heap.size w wk → Calls Tryd.prog 10 #[.string ⟨#[97, 10, 49, 48, 48, 48, 48, 48, 48, 48, 46, 48, 49]⟩] wk (fun e w' => ∃ v, e = .returned (.tuple #[v, .int .i64 8, .int .i64 2]) ∧ Below wk.heap.size wk w') := fun wk h => by
    refine (tok_any src2 wk (hL.below h)).mono ?_
    rintro e w' ⟨v, he, hv, _, hb⟩
    rw [tk2] at he
    exact ⟨v, he, hb⟩
  have hT3 : ∀ wk, Below w.heap.size w wk → Calls Tryd.prog 10 #[.string ⟨#[49, 46, 53]⟩] wk (fun e w' => ∃ v, e = .returned (.tuple #[v, .int .i64 8, .int .i64 1]) ∧ Below wk.heap.size wk w') := fun wk h => by
    refine (tok_any src3 wk (hL.below h)).mono ?_
    rintro e w' ⟨v, he, hv, _, hb⟩
    rw [tk3] at he
    exact ⟨v, he, hb⟩
  have hJ1 : ∀ v wk, Toks wk v want → Below w.heap.size w wk → Calls Tryd.prog 13 #[v] wk (Ret (.tuple #[.string ⟨#[114, 97, 116, 101, 32, 49, 50, 10, 112, 114, 105, 99, 101, 32, 57, 57, 46, 53, 48, 32, 59]⟩, .int .i64 0]) wk) := fun v wk hv h => by
    have := join_any v want wk hv (by intro x hx; revert hx; revert x; decide) (hL.below h); rw [jn1] at this; exact this
  have hJ2 : ∀ v wk, Toks wk v [⟨0, 0, []⟩] → Below w.heap.size w wk → Calls Tryd.prog 13 #[v] wk (Ret (.tuple #[.string ⟨#[]⟩, .int .i64 1]) wk) := fun v wk hv h => by
    have := join_any v [⟨0, 0, []⟩] wk hv (by intro x hx; rw [List.mem_singleton.1 hx]; simp) (hL.below h); rw [jn2] at this; exact this
  have hS : ∀ v u wk, Toks wk v want → Toks wk u want → Calls Tryd.prog 12 #[v, u] wk (Ret (.bool true) wk) := fun v u wk hv hu => by
    have := rsame_any v u want want wk hv hu; rw [decide_eq_true rfl] at this; exact this
  clear hL
  go_enter Tryd.func8, Tryd.ntmps8
  go_wp2_with fail
  refine (hT1 _ (Below.refl _ _)).mono ?_
  rintro e w1 ⟨v1, rfl, hv1, hb1⟩
  clear hT1
  go_wp2_with fail
  refine (hT2 _ hb1).mono ?_
  rintro e w2 ⟨v2, rfl, hb2⟩
  replace hv1 := hv1.below hb2
  replace hb2 := hb1.trans (hb2.mono hb1.size)
  clear hT2 hb1
  go_wp2_with fail
  refine (hT3 _ hb2).mono ?_
  rintro e w3 ⟨v3, rfl, hb3⟩
  replace hv1 := hv1.below hb3
  replace hb3 := hb2.trans (hb3.mono hb2.size)
  clear hT3 hb2
  go_wp2_with fail
  refine (hJ1 _ _ hv1 hb3).mono ?_
  rintro e w4 ⟨rfl, hb4⟩
  replace hv1 := hv1.below hb4
  replace hb4 := hb3.trans (hb4.mono hb3.size)
  clear hJ1 hb3
  go_wp2_with fail
  have hz := toks_new w4 [⟨0, 0, []⟩] zero_rs (by simp) (by simp)
  have hv1 := hv1.below ((Below.refl _ _).alloc (Nat.le_refl _) (.cells #[.int .i64 0, .int .i64 0, .string ⟨#[]⟩] 36))
  refine (hJ2 _ _ hz (belB hb4 _)).mono ?_
  rintro e w5 ⟨rfl, hb5⟩
  replace hv1 := hv1.below hb5
  replace hb5 := (belB hb4 (.cells #[.int .i64 0, .int .i64 0, .string ⟨#[]⟩] 36)).trans (hb5.mono (belB hb4 _).size)
  clear hJ2 hb4 hz
  go_wp2_with fail
  have hu := toks_new w5 want want_rs (by simp) (by simp)
  have hv2 := hv1.below ((Below.refl _ _).alloc (Nat.le_refl _) (.cells (want.flatMap rtC).toArray 36))
  refine (hS _ _ _ hv2 hu).mono ?_
  rintro e w6 ⟨rfl, hb6⟩
  have hb7 := (belB hb5 (.cells (want.flatMap rtC).toArray 36)).trans (hb6.mono (belB hb5 _).size)
  clear hS hv1 hv2 hu hb5 hb6
  go_wp2_with fail
  go_ret
  exact Ret.mk rfl hb7

end Go.Proofs.YtfnclecfldddeaaDoor
