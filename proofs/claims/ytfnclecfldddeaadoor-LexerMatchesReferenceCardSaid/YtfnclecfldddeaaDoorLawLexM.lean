/-
  The walk of LexerMatchesReference.
-/
import Derived.Test.YtfnclecfldddeaaDoorLexCalls
namespace Go.Proofs.YtfnclecfldddeaaDoor
open Go.RowKit Go.Shelf
set_option maxRecDepth 100000

set_option maxHeartbeats 1000000 in
theorem walkLM_long (s : List UInt8) (v : Value) (l : List RT) (w : World) (_hT : Toks w v l) (hL : Lay w) (hl : 30000 < s.length) : Calls Tryd.prog 3 #[.string ⟨s.toArray⟩, v] w (Ret (.bool true) w) := by
  have hsz : (⟨s.toArray⟩ : ByteArray).size = s.length := by simp [ByteArray.size]
  have hH : ∀ wk, Below w.heap.size w wk → Calls Tryd.prog 8 #[] wk (Ret (.bool true) wk) := fun wk h => lhead_any wk (hL.below h)
  have q0 : decide (30000 < (s.length : Int)) = true := by rw [decide_eq_true_iff]; omega
  clear hL
  go_enter Tryd.func3, Tryd.ntmps3
  go_wp2_with fail
  have hb0 : Below w.heap.size w w := Below.refl _ _
  refine (hH _ hb0).mono ?_
  rintro e w1 ⟨rfl, hc1⟩
  have hb1 := belT hb0 hc1
  clear hb0 hc1
  go_wp2_with fail
  go_ret
  exact Ret.mk (rfl) hb1

set_option maxHeartbeats 1000000 in
theorem walkLM_many (s : List UInt8) (v : Value) (l : List RT) (w : World) (hT : Toks w v l) (hL : Lay w) (hl : ¬ 30000 < s.length) (hf : fewF l = false) : Calls Tryd.prog 3 #[.string ⟨s.toArray⟩, v] w (Ret (.bool true) w) := by
  have hsz : (⟨s.toArray⟩ : ByteArray).size = s.length := by simp [ByteArray.size]
  have hH : ∀ wk, Below w.heap.size w wk → Calls Tryd.prog 8 #[] wk (Ret (.bool true) wk) := fun wk h => lhead_any wk (hL.below h)
  have hT0 : ∀ wk, Below w.heap.size w wk → Toks wk v l := fun wk h => hT.below h
  have q0 : decide (30000 < (s.length : Int)) = false := by rw [decide_eq_false_iff_not]; omega
  clear hL hT
  go_enter Tryd.func3, Tryd.ntmps3
  go_wp2_with fail
  have hb0 : Below w.heap.size w w := Below.refl _ _
  refine (hH _ hb0).mono ?_
  rintro e w1 ⟨rfl, hc1⟩
  have hb1 := belT hb0 hc1
  clear hb0 hc1
  go_wp2_with fail
  refine (fewI hf _ (hT0 _ hb1)).mono ?_
  rintro e w2 ⟨rfl, hc2⟩
  have hb2 := belT hb1 hc2
  clear hb1 hc2
  go_wp2_with fail
  go_ret
  exact Ret.mk (rfl) hb2

set_option maxHeartbeats 2000000 in
theorem walkLM_main (s : List UInt8) (v : Value) (l : List RT) (w : World) (hT : Toks w v l) (hL : Lay w) (hl : ¬ 30000 < s.length) (hf : fewF l = true) : Calls Tryd.prog 3 #[.string ⟨s.toArray⟩, v] w (Ret (.bool true) w) := by
  have hsz : (⟨s.toArray⟩ : ByteArray).size = s.length := by simp [ByteArray.size]
  have hH : ∀ wk, Below w.heap.size w wk → Calls Tryd.prog 8 #[] wk (Ret (.bool true) wk) := fun wk h => lhead_any wk (hL.below h)
  have hT0 : ∀ wk, Below w.heap.size w wk → Toks wk v l := fun wk h => hT.below h
  have q0 : decide (30000 < (s.length : Int)) = false := by rw [decide_eq_false_iff_not]; omega
  obtain ⟨A, E, N, hA⟩ : ∃ (A : List RT) (E N : Nat), (tokP s).1.map Tok.rt = A ∧ (tokP s).2.1 = E ∧ (tokP s).2.2 = N := ⟨_, _, _, rfl, rfl, rfl⟩
  obtain ⟨X, J, hX⟩ : ∃ (X : List UInt8) (J : Nat), joinP l = (X, J) := ⟨_, _, rfl⟩
  have hF : ∀ wk, Toks wk v l → Calls Tryd.prog 9 #[v] wk (Ret (.bool true) wk) := fun wk h => fewI hf wk h
  have hTk : ∀ wk, Below w.heap.size w wk → Calls Tryd.prog 10 #[.string ⟨s.toArray⟩] wk (TokI A E N wk) := fun wk h => tokI hA wk (hL.below h)
  have hTr : ∀ wk, Below w.heap.size w wk → Calls Tryd.prog 11 #[.string ⟨s.toArray⟩] wk (TokI A E N wk) := fun wk h => rtokI hA wk
  have hJ : ∀ wk, Below w.heap.size w wk → Calls Tryd.prog 13 #[v] wk (Ret (.tuple #[.string ⟨X.toArray⟩, .int .i64 J]) wk) := fun wk h => joinI hX wk (hT.below h) (few_texts hf) (hL.below h)
  have hJr : ∀ wk, Below w.heap.size w wk → Calls Tryd.prog 14 #[v] wk (Ret (.tuple #[.string ⟨X.toArray⟩, .int .i64 J]) wk) := fun wk h => rjoinI hX wk (hT.below h) (few_texts hf)
  clear hL hT hA hX hf
  go_enter Tryd.func3, Tryd.ntmps3
  go_wp2_with fail
  have hb0 : Below w.heap.size w w := Below.refl _ _
  refine (hH _ hb0).mono ?_
  rintro e w1 ⟨rfl, hc1⟩
  have hb1 := belT hb0 hc1
  clear hb0 hc1
  go_wp2_with fail
  refine (hF _ (hT0 _ hb1)).mono ?_
  rintro e w2 ⟨rfl, hc2⟩
  have hb2 := belT hb1 hc2
  clear hb1 hc2
  go_wp2_with fail
  refine (hTk _ hb2).mono ?_
  rintro e w3 ⟨v3, rfl, ht3, ho3, hc3⟩
  have hb3 := belT hb2 hc3
  clear hb2 hc3
  go_wp2_with fail
  refine (hTr _ hb3).mono ?_
  rintro e w4 ⟨v4, rfl, ht4, ho4, hc4⟩
  replace ht3 := ht3.below hc4
  have hb4 := belT hb3 hc4
  clear hb3 hc4
  go_wp2_with fail
  refine (sameI rfl _ ht3 ht4).mono ?_
  rintro e w5 ⟨rfl, hc5⟩
  replace ht3 := ht3.below hc5
  replace ht4 := ht4.below hc5
  have hb5 := belT hb4 hc5
  clear hb4 hc5
  go_wp2_with fail
  refine (hJ _ hb5).mono ?_
  rintro e w6 ⟨rfl, hc6⟩
  replace ht3 := ht3.below hc6
  replace ht4 := ht4.below hc6
  have hb6 := belT hb5 hc6
  clear hb5 hc6
  go_wp2_with fail
  refine (hJr _ hb6).mono ?_
  rintro e w7 ⟨rfl, hc7⟩
  replace ht3 := ht3.below hc7
  replace ht4 := ht4.below hc7
  have hb7 := belT hb6 hc7
  clear hb6 hc7
  go_wp2_with fail
  go_ret
  exact Ret.mk (rfl) hb7

theorem walkLexerMatchesReference (s : List UInt8) (v : Value) (l : List RT) (w : World) (hT : Toks w v l) (hL : Lay w) : Calls Tryd.prog 3 #[.string ⟨s.toArray⟩, v] w (Ret (.bool true) w) := by
  by_cases hl : 30000 < s.length
  · exact walkLM_long s v l w hT hL hl
  · cases hf : fewF l with
    | false => exact walkLM_many s v l w hT hL hl hf
    | true => exact walkLM_main s v l w hT hL hl hf
end Go.Proofs.YtfnclecfldddeaaDoor
