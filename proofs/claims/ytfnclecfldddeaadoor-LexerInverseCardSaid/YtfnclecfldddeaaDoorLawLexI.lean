/-
  The walk of LexerInverse.
-/
import Derived.Test.YtfnclecfldddeaaDoorLexCalls
namespace Go.Proofs.YtfnclecfldddeaaDoor
open Go.RowKit Go.Shelf
set_option maxRecDepth 100000

set_option maxHeartbeats 1000000 in
theorem walkLI_long (s : List UInt8) (v : Value) (l : List RT) (w : World) (_hT : Toks w v l) (hL : Lay w) (hl : 1000 < s.length) : Calls Tryd.prog 4 #[.string ⟨s.toArray⟩, v] w (Ret (.bool true) w) := by
  have hsz : (⟨s.toArray⟩ : ByteArray).size = s.length := by simp [ByteArray.size]
  have hH : ∀ wk, Below w.heap.size w wk → Calls Tryd.prog 8 #[] wk (Ret (.bool true) wk) := fun wk h => lhead_any wk (hL.below h)
  have q0 : decide (1000 < (s.length : Int)) = true := by rw [decide_eq_true_iff]; omega
  clear hL
  go_enter Tryd.func4, Tryd.ntmps4
  go_wp2_with fail
  have hb0 : Below w.heap.size w w := Below.refl _ _
  refine (hH _ hb0).mono ?_
  rintro e w1 ⟨rfl, hc1⟩
  have hb1 := belT hb0 hc1
  clear hb0 hc1
  go_wp2_with fail
  go_ret
  exact Ret.mk (rfl) hb1

set_option maxHeartbeats 1000000 in
theorem walkLI_many (s : List UInt8) (v : Value) (l : List RT) (w : World) (hT : Toks w v l) (hL : Lay w) (hl : ¬ 1000 < s.length) (hf : fewF l = false) : Calls Tryd.prog 4 #[.string ⟨s.toArray⟩, v] w (Ret (.bool true) w) := by
  have hsz : (⟨s.toArray⟩ : ByteArray).size = s.length := by simp [ByteArray.size]
  have hH : ∀ wk, Below w.heap.size w wk → Calls Tryd.prog 8 #[] wk (Ret (.bool true) wk) := fun wk h => lhead_any wk (hL.below h)
  have hT0 : ∀ wk, Below w.heap.size w wk → Toks wk v l := fun wk h => hT.below h
  have q0 : decide (1000 < (s.length : Int)) = false := by rw [decide_eq_false_iff_not]; omega
  clear hL hT
  go_enter Tryd.func4, Tryd.ntmps4
  go_wp2_with fail
  have hb0 : Below w.heap.size w w := Below.refl _ _
  refine (hH _ hb0).mono ?_
  rintro e w1 ⟨rfl, hc1⟩
  have hb1 := belT hb0 hc1
  clear hb0 hc1
  go_wp2_with fail
  refine (fewI hf _ (hT0 _ hb1)).mono ?_
  rintro e w2 ⟨rfl, hc2⟩
  have hb2 := belT hb1 hc2
  clear hb1 hc2
  go_wp2_with fail
  go_ret
  exact Ret.mk (rfl) hb2

set_option maxHeartbeats 2000000 in
theorem walkLI_ok_ok (s : List UInt8) (v : Value) (l : List RT) (w : World) (hT : Toks w v l) (hL : Lay w) (hl : ¬ 1000 < s.length) (hf : fewF l = true) (X : List UInt8) (hX : joinP l = (X, 0)) (hE : (tokP s).2.1 = 0) : Calls Tryd.prog 4 #[.string ⟨s.toArray⟩, v] w (Ret (.bool true) w) := by
  have hsz : (⟨s.toArray⟩ : ByteArray).size = s.length := by simp [ByteArray.size]
  have hH : ∀ wk, Below w.heap.size w wk → Calls Tryd.prog 8 #[] wk (Ret (.bool true) wk) := fun wk h => lhead_any wk (hL.below h)
  have hT0 : ∀ wk, Below w.heap.size w wk → Toks wk v l := fun wk h => hT.below h
  have q0 : decide (1000 < (s.length : Int)) = false := by rw [decide_eq_false_iff_not]; omega
  have hF : ∀ wk, Toks wk v l → Calls Tryd.prog 9 #[v] wk (Ret (.bool true) wk) := fun wk h => fewI hf wk h
  have hJ : ∀ wk, Below w.heap.size w wk → Calls Tryd.prog 13 #[v] wk (Ret (.tuple #[.string ⟨X.toArray⟩, .int .i64 ((0 : Nat) : Int)]) wk) := fun wk h => joinI hX wk (hT.below h) (few_texts hf) (hL.below h)
  have hXr : (tokP X).1.map Tok.rt = l ∧ (tokP X).2.1 = 0 ∧ (tokP X).2.2 = 0 := by
    have := join_read (l := l) (by rw [hX]); rw [hX] at this; exact ⟨this.2.2, this.1, this.2.1⟩
  have hTx : ∀ wk, Below w.heap.size w wk → Calls Tryd.prog 10 #[.string ⟨X.toArray⟩] wk (TokI l 0 0 wk) := fun wk h => tokI hXr wk (hL.below h)
  obtain ⟨A, N, hA⟩ : ∃ (A : List RT) (N : Nat), (tokP s).1.map Tok.rt = A ∧ (tokP s).2.1 = 0 ∧ (tokP s).2.2 = N := ⟨_, _, rfl, hE, rfl⟩
  obtain ⟨Y, hY⟩ : ∃ Y : List UInt8, joinP A = (Y, 0) := by
    have := join_again (s := s) (by omega) hE
    rw [hA.1] at this
    exact ⟨(joinP A).1, by rw [← this]⟩
  have hYr : (tokP Y).1.map Tok.rt = A ∧ (tokP Y).2.1 = 0 ∧ (tokP Y).2.2 = 0 := by
    have := join_read (l := A) (by rw [hY]); rw [hY] at this; exact ⟨this.2.2, this.1, this.2.1⟩
  have hts := tok_texts s
  rw [hA.1] at hts
  have hTs : ∀ wk, Below w.heap.size w wk → Calls Tryd.prog 10 #[.string ⟨s.toArray⟩] wk (TokI A 0 N wk) := fun wk h => tokI hA wk (hL.below h)
  have hJa : ∀ u wk, Toks wk u A → Below w.heap.size w wk → Calls Tryd.prog 13 #[u] wk (Ret (.tuple #[.string ⟨Y.toArray⟩, .int .i64 ((0 : Nat) : Int)]) wk) := fun u wk ht h => joinI hY wk ht hts (hL.below h)
  have hTy : ∀ wk, Below w.heap.size w wk → Calls Tryd.prog 10 #[.string ⟨Y.toArray⟩] wk (TokI A 0 0 wk) := fun wk h => tokI hYr wk (hL.below h)
  clear hL hT hf hX hA hY hYr hts hE hXr
  go_enter Tryd.func4, Tryd.ntmps4
  go_wp2_with fail
  have hb0 : Below w.heap.size w w := Below.refl _ _
  refine (hH _ hb0).mono ?_
  rintro e w1 ⟨rfl, hc1⟩
  have hb1 := belT hb0 hc1
  clear hb0 hc1
  go_wp2_with fail
  refine (hF _ (hT0 _ hb1)).mono ?_
  rintro e w2 ⟨rfl, hc2⟩
  have hb2 := belT hb1 hc2
  clear hb1 hc2
  go_wp2_with fail
  refine (hJ _ hb2).mono ?_
  rintro e w3 ⟨rfl, hc3⟩
  have hb3 := belT hb2 hc3
  clear hb2 hc3
  go_wp2_with fail
  refine (hTx _ hb3).mono ?_
  rintro e w4 ⟨v4, rfl, ht4, ho4, hc4⟩
  have hb4 := belT hb3 hc4
  clear hb3 hc4
  go_wp2_with fail
  refine (sameI rfl _ (hT0 _ hb4) ht4).mono ?_
  rintro e w5 ⟨rfl, hc5⟩
  replace ht4 := ht4.below hc5
  have hb5 := belT hb4 hc5
  clear hb4 hc5
  go_wp2_with fail
  refine (hTs _ hb5).mono ?_
  rintro e w6 ⟨v6, rfl, ht6, ho6, hc6⟩
  replace ht4 := ht4.below hc6
  have hb6 := belT hb5 hc6
  clear hb5 hc6
  go_wp2_with fail
  refine (hJa _ _ ht6 hb6).mono ?_
  rintro e w7 ⟨rfl, hc7⟩
  replace ht4 := ht4.below hc7
  replace ht6 := ht6.below hc7
  have hb7 := belT hb6 hc7
  clear hb6 hc7
  go_wp2_with fail
  refine (hTy _ hb7).mono ?_
  rintro e w8 ⟨v8, rfl, ht8, ho8, hc8⟩
  replace ht4 := ht4.below hc8
  replace ht6 := ht6.below hc8
  have hb8 := belT hb7 hc8
  clear hb7 hc8
  go_wp2_with fail
  refine (sameI rfl _ ht6 ht8).mono ?_
  rintro e w9 ⟨rfl, hc9⟩
  replace ht4 := ht4.below hc9
  replace ht6 := ht6.below hc9
  replace ht8 := ht8.below hc9
  have hb9 := belT hb8 hc9
  clear hb8 hc9
  go_wp2_with fail
  go_ret
  exact Ret.mk (by first | rfl | simp) hb9

set_option maxHeartbeats 2000000 in
theorem walkLI_ok_err (s : List UInt8) (v : Value) (l : List RT) (w : World) (hT : Toks w v l) (hL : Lay w) (hl : ¬ 1000 < s.length) (hf : fewF l = true) (X : List UInt8) (hX : joinP l = (X, 0)) (E : Nat) (hE : (tokP s).2.1 = E) (hE0 : E ≠ 0) : Calls Tryd.prog 4 #[.string ⟨s.toArray⟩, v] w (Ret (.bool true) w) := by
  have hsz : (⟨s.toArray⟩ : ByteArray).size = s.length := by simp [ByteArray.size]
  have hH : ∀ wk, Below w.heap.size w wk → Calls Tryd.prog 8 #[] wk (Ret (.bool true) wk) := fun wk h => lhead_any wk (hL.below h)
  have hT0 : ∀ wk, Below w.heap.size w wk → Toks wk v l := fun wk h => hT.below h
  have q0 : decide (1000 < (s.length : Int)) = false := by rw [decide_eq_false_iff_not]; omega
  have hF : ∀ wk, Toks wk v l → Calls Tryd.prog 9 #[v] wk (Ret (.bool true) wk) := fun wk h => fewI hf wk h
  have hJ : ∀ wk, Below w.heap.size w wk → Calls Tryd.prog 13 #[v] wk (Ret (.tuple #[.string ⟨X.toArray⟩, .int .i64 ((0 : Nat) : Int)]) wk) := fun wk h => joinI hX wk (hT.below h) (few_texts hf) (hL.below h)
  have hXr : (tokP X).1.map Tok.rt = l ∧ (tokP X).2.1 = 0 ∧ (tokP X).2.2 = 0 := by
    have := join_read (l := l) (by rw [hX]); rw [hX] at this; exact ⟨this.2.2, this.1, this.2.1⟩
  have hTx : ∀ wk, Below w.heap.size w wk → Calls Tryd.prog 10 #[.string ⟨X.toArray⟩] wk (TokI l 0 0 wk) := fun wk h => tokI hXr wk (hL.below h)
  have hE0' : (((E : Nat) : Int) != 0) = true := by rw [bne_iff_ne]; omega
  obtain ⟨N, hA⟩ : ∃ (N : Nat), (tokP s).1.map Tok.rt = [] ∧ (tokP s).2.1 = E ∧ (tokP s).2.2 = N := ⟨_, by rw [tok_bad (by rw [hE]; exact hE0)]; rfl, hE, rfl⟩
  have hTs : ∀ wk, Below w.heap.size w wk → Calls Tryd.prog 10 #[.string ⟨s.toArray⟩] wk (fun e w' => ∃ ad cap, e = .returned (.tuple #[.slice ad 0 cap, .int .i64 E, .int .i64 N]) ∧ Below wk.heap.size wk w') := fun wk h => by
    refine (tokI hA wk (hL.below h)).mono ?_
    rintro e w' ⟨u, rfl, ht, _, hc⟩
    obtain ⟨ad, cap, rfl⟩ := ht.open
    exact ⟨ad, cap, rfl, hc⟩
  clear hL hT hf hX hA hE hE0 hXr
  go_enter Tryd.func4, Tryd.ntmps4
  go_wp2_with fail
  have hb0 : Below w.heap.size w w := Below.refl _ _
  refine (hH _ hb0).mono ?_
  rintro e w1 ⟨rfl, hc1⟩
  have hb1 := belT hb0 hc1
  clear hb0 hc1
  go_wp2_with fail
  refine (hF _ (hT0 _ hb1)).mono ?_
  rintro e w2 ⟨rfl, hc2⟩
  have hb2 := belT hb1 hc2
  clear hb1 hc2
  go_wp2_with fail
  refine (hJ _ hb2).mono ?_
  rintro e w3 ⟨rfl, hc3⟩
  have hb3 := belT hb2 hc3
  clear hb2 hc3
  go_wp2_with fail
  refine (hTx _ hb3).mono ?_
  rintro e w4 ⟨v4, rfl, ht4, ho4, hc4⟩
  have hb4 := belT hb3 hc4
  clear hb3 hc4
  go_wp2_with fail
  refine (sameI rfl _ (hT0 _ hb4) ht4).mono ?_
  rintro e w5 ⟨rfl, hc5⟩
  replace ht4 := ht4.below hc5
  have hb5 := belT hb4 hc5
  clear hb4 hc5
  go_wp2_with fail
  refine (hTs _ hb5).mono ?_
  rintro e w6 ⟨ad6, cap6, rfl, hc6⟩
  have hb6 := belT hb5 hc6
  go_wp2_with fail
  go_ret
  exact Ret.mk (by first | rfl | simp) hb6

set_option maxHeartbeats 2000000 in
theorem walkLI_err_ok (s : List UInt8) (v : Value) (l : List RT) (w : World) (hT : Toks w v l) (hL : Lay w) (hl : ¬ 1000 < s.length) (hf : fewF l = true) (J : Nat) (hX : joinP l = ([], J)) (hJ0 : J ≠ 0) (b : Bool) (hJ1 : decide (J = 1) = !b) (hcb : canF l = b) (hE : (tokP s).2.1 = 0) : Calls Tryd.prog 4 #[.string ⟨s.toArray⟩, v] w (Ret (.bool true) w) := by
  have hsz : (⟨s.toArray⟩ : ByteArray).size = s.length := by simp [ByteArray.size]
  have hH : ∀ wk, Below w.heap.size w wk → Calls Tryd.prog 8 #[] wk (Ret (.bool true) wk) := fun wk h => lhead_any wk (hL.below h)
  have hT0 : ∀ wk, Below w.heap.size w wk → Toks wk v l := fun wk h => hT.below h
  have q0 : decide (1000 < (s.length : Int)) = false := by rw [decide_eq_false_iff_not]; omega
  have hF : ∀ wk, Toks wk v l → Calls Tryd.prog 9 #[v] wk (Ret (.bool true) wk) := fun wk h => fewI hf wk h
  have hJ : ∀ wk, Below w.heap.size w wk → Calls Tryd.prog 13 #[v] wk (Ret (.tuple #[.string ⟨([] : List UInt8).toArray⟩, .int .i64 J]) wk) := fun wk h => joinI hX wk (hT.below h) (few_texts hf) (hL.below h)
  have hJ0' : (((J : Nat) : Int) == 0) = false := by rw [beq_eq_false_iff_ne]; omega
  have hJ1' : (((J : Nat) : Int) == 1) = !b := by rw [← hJ1, Bool.eq_iff_iff, beq_iff_eq, decide_eq_true_eq]; omega
  have hR : ∀ wk, Below w.heap.size w wk → Calls Tryd.prog 15 #[v] wk (Ret (.bool b) wk) := fun wk h => rightI hcb wk (hT.below h) (few_texts hf)
  obtain ⟨A, N, hA⟩ : ∃ (A : List RT) (N : Nat), (tokP s).1.map Tok.rt = A ∧ (tokP s).2.1 = 0 ∧ (tokP s).2.2 = N := ⟨_, _, rfl, hE, rfl⟩
  obtain ⟨Y, hY⟩ : ∃ Y : List UInt8, joinP A = (Y, 0) := by
    have := join_again (s := s) (by omega) hE
    rw [hA.1] at this
    exact ⟨(joinP A).1, by rw [← this]⟩
  have hYr : (tokP Y).1.map Tok.rt = A ∧ (tokP Y).2.1 = 0 ∧ (tokP Y).2.2 = 0 := by
    have := join_read (l := A) (by rw [hY]); rw [hY] at this; exact ⟨this.2.2, this.1, this.2.1⟩
  have hts := tok_texts s
  rw [hA.1] at hts
  have hTs : ∀ wk, Below w.heap.size w wk → Calls Tryd.prog 10 #[.string ⟨s.toArray⟩] wk (TokI A 0 N wk) := fun wk h => tokI hA wk (hL.below h)
  have hJa : ∀ u wk, Toks wk u A → Below w.heap.size w wk → Calls Tryd.prog 13 #[u] wk (Ret (.tuple #[.string ⟨Y.toArray⟩, .int .i64 ((0 : Nat) : Int)]) wk) := fun u wk ht h => joinI hY wk ht hts (hL.below h)
  have hTy : ∀ wk, Below w.heap.size w wk → Calls Tryd.prog 10 #[.string ⟨Y.toArray⟩] wk (TokI A 0 0 wk) := fun wk h => tokI hYr wk (hL.below h)
  clear hL hT hf hX hA hY hYr hts hE hJ0 hJ1 hcb
  go_enter Tryd.func4, Tryd.ntmps4
  go_wp2_with fail
  have hb0 : Below w.heap.size w w := Below.refl _ _
  refine (hH _ hb0).mono ?_
  rintro e w1 ⟨rfl, hc1⟩
  have hb1 := belT hb0 hc1
  clear hb0 hc1
  go_wp2_with fail
  refine (hF _ (hT0 _ hb1)).mono ?_
  rintro e w2 ⟨rfl, hc2⟩
  have hb2 := belT hb1 hc2
  clear hb1 hc2
  go_wp2_with fail
  refine (hJ _ hb2).mono ?_
  rintro e w3 ⟨rfl, hc3⟩
  have hb3 := belT hb2 hc3
  clear hb2 hc3
  go_wp2_with fail
  refine (hR _ hb3).mono ?_
  rintro e w4 ⟨rfl, hc4⟩
  have hb4 := belT hb3 hc4
  clear hb3 hc4
  go_wp2_with fail
  refine (hTs _ hb4).mono ?_
  rintro e w5 ⟨v5, rfl, ht5, ho5, hc5⟩
  have hb5 := belT hb4 hc5
  clear hb4 hc5
  go_wp2_with fail
  refine (hJa _ _ ht5 hb5).mono ?_
  rintro e w6 ⟨rfl, hc6⟩
  replace ht5 := ht5.below hc6
  have hb6 := belT hb5 hc6
  clear hb5 hc6
  go_wp2_with fail
  refine (hTy _ hb6).mono ?_
  rintro e w7 ⟨v7, rfl, ht7, ho7, hc7⟩
  replace ht5 := ht5.below hc7
  have hb7 := belT hb6 hc7
  clear hb6 hc7
  go_wp2_with fail
  refine (sameI rfl _ ht5 ht7).mono ?_
  rintro e w8 ⟨rfl, hc8⟩
  replace ht5 := ht5.below hc8
  replace ht7 := ht7.below hc8
  have hb8 := belT hb7 hc8
  clear hb7 hc8
  go_wp2_with fail
  go_ret
  exact Ret.mk (by first | rfl | simp) hb8

set_option maxHeartbeats 2000000 in
theorem walkLI_err_err (s : List UInt8) (v : Value) (l : List RT) (w : World) (hT : Toks w v l) (hL : Lay w) (hl : ¬ 1000 < s.length) (hf : fewF l = true) (J : Nat) (hX : joinP l = ([], J)) (hJ0 : J ≠ 0) (b : Bool) (hJ1 : decide (J = 1) = !b) (hcb : canF l = b) (E : Nat) (hE : (tokP s).2.1 = E) (hE0 : E ≠ 0) : Calls Tryd.prog 4 #[.string ⟨s.toArray⟩, v] w (Ret (.bool true) w) := by
  have hsz : (⟨s.toArray⟩ : ByteArray).size = s.length := by simp [ByteArray.size]
  have hH : ∀ wk, Below w.heap.size w wk → Calls Tryd.prog 8 #[] wk (Ret (.bool true) wk) := fun wk h => lhead_any wk (hL.below h)
  have hT0 : ∀ wk, Below w.heap.size w wk → Toks wk v l := fun wk h => hT.below h
  have q0 : decide (1000 < (s.length : Int)) = false := by rw [decide_eq_false_iff_not]; omega
  have hF : ∀ wk, Toks wk v l → Calls Tryd.prog 9 #[v] wk (Ret (.bool true) wk) := fun wk h => fewI hf wk h
  have hJ : ∀ wk, Below w.heap.size w wk → Calls Tryd.prog 13 #[v] wk (Ret (.tuple #[.string ⟨([] : List UInt8).toArray⟩, .int .i64 J]) wk) := fun wk h => joinI hX wk (hT.below h) (few_texts hf) (hL.below h)
  have hJ0' : (((J : Nat) : Int) == 0) = false := by rw [beq_eq_false_iff_ne]; omega
  have hJ1' : (((J : Nat) : Int) == 1) = !b := by rw [← hJ1, Bool.eq_iff_iff, beq_iff_eq, decide_eq_true_eq]; omega
  have hR : ∀ wk, Below w.heap.size w wk → Calls Tryd.prog 15 #[v] wk (Ret (.bool b) wk) := fun wk h => rightI hcb wk (hT.below h) (few_texts hf)
  have hE0' : (((E : Nat) : Int) != 0) = true := by rw [bne_iff_ne]; omega
  obtain ⟨N, hA⟩ : ∃ (N : Nat), (tokP s).1.map Tok.rt = [] ∧ (tokP s).2.1 = E ∧ (tokP s).2.2 = N := ⟨_, by rw [tok_bad (by rw [hE]; exact hE0)]; rfl, hE, rfl⟩
  have hTs : ∀ wk, Below w.heap.size w wk → Calls Tryd.prog 10 #[.string ⟨s.toArray⟩] wk (fun e w' => ∃ ad cap, e = .returned (.tuple #[.slice ad 0 cap, .int .i64 E, .int .i64 N]) ∧ Below wk.heap.size wk w') := fun wk h => by
    refine (tokI hA wk (hL.below h)).mono ?_
    rintro e w' ⟨u, rfl, ht, _, hc⟩
    obtain ⟨ad, cap, rfl⟩ := ht.open
    exact ⟨ad, cap, rfl, hc⟩
  clear hL hT hf hX hA hE hE0 hJ0 hJ1 hcb
  go_enter Tryd.func4, Tryd.ntmps4
  go_wp2_with fail
  have hb0 : Below w.heap.size w w := Below.refl _ _
  refine (hH _ hb0).mono ?_
  rintro e w1 ⟨rfl, hc1⟩
  have hb1 := belT hb0 hc1
  clear hb0 hc1
  go_wp2_with fail
  refine (hF _ (hT0 _ hb1)).mono ?_
  rintro e w2 ⟨rfl, hc2⟩
  have hb2 := belT hb1 hc2
  clear hb1 hc2
  go_wp2_with fail
  refine (hJ _ hb2).mono ?_
  rintro e w3 ⟨rfl, hc3⟩
  have hb3 := belT hb2 hc3
  clear hb2 hc3
  go_wp2_with fail
  refine (hR _ hb3).mono ?_
  rintro e w4 ⟨rfl, hc4⟩
  have hb4 := belT hb3 hc4
  clear hb3 hc4
  go_wp2_with fail
  refine (hTs _ hb4).mono ?_
  rintro e w5 ⟨ad5, cap5, rfl, hc5⟩
  have hb5 := belT hb4 hc5
  go_wp2_with fail
  go_ret
  exact Ret.mk (by first | rfl | simp) hb5

theorem walkLexerInverse (s : List UInt8) (v : Value) (l : List RT) (w : World) (hT : Toks w v l) (hL : Lay w) : Calls Tryd.prog 4 #[.string ⟨s.toArray⟩, v] w (Ret (.bool true) w) := by
  by_cases hl : 1000 < s.length
  · exact walkLI_long s v l w hT hL hl
  · cases hf : fewF l with
    | false => exact walkLI_many s v l w hT hL hl hf
    | true =>
      by_cases hJ : (joinP l).2 = 0
      · have hX : joinP l = ((joinP l).1, 0) := by rw [← hJ]
        by_cases hE : (tokP s).2.1 = 0
        · exact walkLI_ok_ok s v l w hT hL hl hf _ hX hE
        · exact walkLI_ok_err s v l w hT hL hl hf _ hX _ rfl hE
      · have hj := join_fail hJ
        have hX : joinP l = ([], (joinP l).2) := by rw [← hj.1]
        by_cases hE : (tokP s).2.1 = 0
        · exact walkLI_err_ok s v l w hT hL hl hf _ hX hJ _ hj.2 rfl hE
        · exact walkLI_err_err s v l w hT hL hl hf _ hX hJ _ hj.2 rfl _ rfl hE
end Go.Proofs.YtfnclecfldddeaaDoor
