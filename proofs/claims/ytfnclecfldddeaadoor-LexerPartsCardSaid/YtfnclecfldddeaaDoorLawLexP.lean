/-
  The walk of LexerParts.
-/
import Derived.Test.YtfnclecfldddeaaDoorLexCalls
import Derived.Laws.AppendOwnNone
namespace Go.Proofs.YtfnclecfldddeaaDoor
open Go.RowKit Go.Shelf
set_option maxRecDepth 100000

theorem own_empty (w : World) : (w.alloc (.cells #[] 36)).ownsRow w.heap.size 36 3 (.slice (some ⟨w.heap.size, 0, none⟩) 0 0) 0 [] :=
  ⟨rfl, .inr ⟨w.heap.size, 0, #[], rfl, Nat.le_refl _, by simp only [World.alloc, Array.getElem?_push_size], Nat.le_refl _, Nat.zero_le _, rfl, rfl⟩⟩
/-- an append of another row of the call's own -/
theorem app_own_any {w : World} {ops : Array Oper} {rest : List Oper} {o : Oper} {a : Act} {Q : Exit → Act → World → Prop} (hgd : o.guard = none) (s x : Operand)
    (ho : o.op = .call { callee := .builtin .append, args := #[s, x], argTypes := #[22, 22] })
    (base : Nat) (v : Value) (n : Nat) (xs : List Value) (hs : a.eval s = v) (hown : w.ownsRow base 36 3 v n xs)
    (B2 : Nat) (u : Value) (A : List RT) (hx : a.eval x = u) (hu : w.ownsRow B2 36 3 u A.length (A.flatMap rtC)) (hsm : n + A.length ≤ 1000000) (hbase : base ≤ w.heap.size)
    (h : ∀ v' w', w'.ownsRow base 36 3 v' (n + A.length) (xs ++ A.flatMap rtC) → Below base w w' → wpList Tryd.prog ops Q rest (a.put o.dst v') w') : wpList Tryd.prog ops Q (o :: rest) a w := by
  obtain ⟨i0, hi, hz0, hz1, hzz⟩ := info_parts Tryd.infoTok
  obtain ⟨_, ⟨rfl, h0⟩ | ⟨g, cap, cur, rfl, _, hh, _, _, _, hct⟩⟩ := hu
  · obtain rfl : A = [] := List.eq_nil_of_length_eq_zero h0
    refine wpList_append_own_none hgd s x 22 ho base 36 i0 3 Tryd.underlying22 hi v n xs hs hown hx ?_
    refine h v w ?_ (Below.refl _ _)
    simpa using hown
  · refine wpList_append_own w hgd s x 22 ho base 36 i0 (.agg #[.int .i64 0, .int .i64 0, .string ⟨#[]⟩]) 3 32 Tryd.underlying22 hi hz0 hz1 hzz rfl (by decide) v n xs hs hown ⟨g, 0, none⟩ A.length cap (A.flatMap rtC) hx (lenT A) ?_ ?_ (by unfold maxLen; omega) (by omega) hbase ?_
    · intro j u hj
      have hjl : j < A.length * 3 := by have := (List.getElem?_eq_some_iff.1 hj).1; rw [lenT] at this; exact this
      have ha : (⟨g, 0, none⟩ : Addr).add j = ⟨g, j, none⟩ := by simp [Addr.add]; exact fun e => e.symm
      rw [ha, ← hj, ← hct, List.getElem?_take, if_pos (by omega)]
      simp [World.cell?, hh]
    · intro u hu
      rw [List.mem_flatMap] at hu
      obtain ⟨y, _, hy⟩ := hu
      simp only [rtC, List.mem_cons, List.not_mem_nil, or_false] at hy
      rcases hy with rfl | rfl | rfl <;> rfl
    · intro v' w' hown' hgrow _
      exact h v' w' hown' ((Below.refl _ _).grown hgrow hbase (fun k hk => (lown_row hown k hk).1))

set_option maxHeartbeats 1000000 in
theorem walkLP_long (s t : List UInt8) (w : World) (hL : Lay w) (hl : 500 < s.length) : Calls Tryd.prog 6 #[.string ⟨s.toArray⟩, .string ⟨t.toArray⟩] w (Ret (.bool true) w) := by
  have hsz : (⟨s.toArray⟩ : ByteArray).size = s.length := by simp [ByteArray.size]
  have hszt : (⟨t.toArray⟩ : ByteArray).size = t.length := by simp [ByteArray.size]
  have hH : ∀ wk, Below w.heap.size w wk → Calls Tryd.prog 8 #[] wk (Ret (.bool true) wk) := fun wk h => lhead_any wk (hL.below h)
  have q0 : decide (500 < (s.length : Int)) = true := by rw [decide_eq_true_iff]; omega
  clear hL
  go_enter Tryd.func6, Tryd.ntmps6
  go_wp2_with fail
  have hb0 : Below w.heap.size w w := Below.refl _ _
  refine (hH _ hb0).mono ?_
  rintro e w1 ⟨rfl, hc1⟩
  have hb1 := belT hb0 hc1
  clear hb0 hc1
  go_wp2_with fail
  go_ret
  exact Ret.mk (rfl) hb1

set_option maxHeartbeats 1000000 in
theorem walkLP_long2 (s t : List UInt8) (w : World) (hL : Lay w) (hl : ¬ 500 < s.length) (hl2 : 500 < t.length) : Calls Tryd.prog 6 #[.string ⟨s.toArray⟩, .string ⟨t.toArray⟩] w (Ret (.bool true) w) := by
  have hsz : (⟨s.toArray⟩ : ByteArray).size = s.length := by simp [ByteArray.size]
  have hszt : (⟨t.toArray⟩ : ByteArray).size = t.length := by simp [ByteArray.size]
  have hH : ∀ wk, Below w.heap.size w wk → Calls Tryd.prog 8 #[] wk (Ret (.bool true) wk) := fun wk h => lhead_any wk (hL.below h)
  have q0 : decide (500 < (s.length : Int)) = false := by rw [decide_eq_false_iff_not]; omega
  have q1 : decide (500 < (t.length : Int)) = true := by rw [decide_eq_true_iff]; omega
  clear hL
  go_enter Tryd.func6, Tryd.ntmps6
  go_wp2_with fail
  have hb0 : Below w.heap.size w w := Below.refl _ _
  refine (hH _ hb0).mono ?_
  rintro e w1 ⟨rfl, hc1⟩
  have hb1 := belT hb0 hc1
  clear hb0 hc1
  go_wp2_with fail
  go_ret
  exact Ret.mk (rfl) hb1

set_option maxHeartbeats 2000000 in
theorem walkLP_bad (s t : List UInt8) (w : World) (hL : Lay w) (hl : ¬ 500 < s.length) (hl2 : ¬ 500 < t.length) (E : Nat) (hE : (tokP s).2.1 = E) (hE0 : E ≠ 0) : Calls Tryd.prog 6 #[.string ⟨s.toArray⟩, .string ⟨t.toArray⟩] w (Ret (.bool true) w) := by
  have hsz : (⟨s.toArray⟩ : ByteArray).size = s.length := by simp [ByteArray.size]
  have hszt : (⟨t.toArray⟩ : ByteArray).size = t.length := by simp [ByteArray.size]
  have hH : ∀ wk, Below w.heap.size w wk → Calls Tryd.prog 8 #[] wk (Ret (.bool true) wk) := fun wk h => lhead_any wk (hL.below h)
  have q0 : decide (500 < (s.length : Int)) = false := by rw [decide_eq_false_iff_not]; omega
  have q1 : decide (500 < (t.length : Int)) = false := by rw [decide_eq_false_iff_not]; omega
  have hnl := nl_len s
  have hLn : ∀ wk, Calls Tryd.prog 17 #[.string ⟨s.toArray⟩] wk (Same (.int .i64 (nl s)) wk) := fun wk => lines_any s (by omega) wk
  have hcat : (⟨s.toArray⟩ : ByteArray) ++ ⟨#[10]⟩ = ⟨(s ++ [10]).toArray⟩ := bapp s [10]
  have hcat2 : (⟨(s ++ [10]).toArray⟩ : ByteArray) ++ ⟨t.toArray⟩ = ⟨(s ++ 10 :: t).toArray⟩ := by rw [bapp, List.append_assoc]; rfl
  obtain ⟨N, hA⟩ : ∃ (N : Nat), (tokP s).1.map Tok.rt = [] ∧ (tokP s).2.1 = E ∧ (tokP s).2.2 = N := ⟨_, by rw [tok_bad (by rw [hE]; exact hE0)]; rfl, hE, rfl⟩
  obtain ⟨B, F, M, hB⟩ : ∃ (B : List RT) (F M : Nat), (tokP t).1.map Tok.rt = B ∧ (tokP t).2.1 = F ∧ (tokP t).2.2 = M := ⟨_, _, _, rfl, rfl, rfl⟩
  have hE0' : (((E : Nat) : Int) != 0) = true := by rw [bne_iff_ne]; omega
  have hC : (tokP (s ++ 10 :: t)).1.map Tok.rt = [] ∧ (tokP (s ++ 10 :: t)).2.1 = E ∧ (tokP (s ++ 10 :: t)).2.2 = N := by
    rw [parts_bad (by omega) (by omega) (by rw [hE]; exact hE0)]; exact hA
  have hTs : ∀ wk, Below w.heap.size w wk → Calls Tryd.prog 10 #[.string ⟨s.toArray⟩] wk (TokI [] E N wk) := fun wk h => tokI hA wk (hL.below h)
  have hTt : ∀ wk, Below w.heap.size w wk → Calls Tryd.prog 10 #[.string ⟨t.toArray⟩] wk (TokI B F M wk) := fun wk h => tokI hB wk (hL.below h)
  have hTc : ∀ wk, Below w.heap.size w wk → Calls Tryd.prog 10 #[.string ⟨(s ++ 10 :: t).toArray⟩] wk (fun e w' => ∃ ad cap, e = .returned (.tuple #[.slice ad 0 cap, .int .i64 E, .int .i64 N]) ∧ Below wk.heap.size wk w') := fun wk h => by
    refine (tokI hC wk (hL.below h)).mono ?_
    rintro e w' ⟨u, rfl, ht, _, hc⟩
    obtain ⟨ad, cap, rfl⟩ := ht.open
    exact ⟨ad, cap, rfl, hc⟩
  clear hL hA hB hC hE hE0
  go_enter Tryd.func6, Tryd.ntmps6
  go_wp2_with fail
  have hb0 : Below w.heap.size w w := Below.refl _ _
  refine (hH _ hb0).mono ?_
  rintro e w1 ⟨rfl, hc1⟩
  have hb1 := belT hb0 hc1
  clear hb0 hc1
  go_wp2_with fail
  refine (hTs _ hb1).mono ?_
  rintro e w2 ⟨v2, rfl, ht2, ho2, hc2⟩
  have hb2 := belT hb1 hc2
  clear hb1 hc2
  go_wp2_with fail
  refine (hTt _ hb2).mono ?_
  rintro e w3 ⟨v3, rfl, ht3, ho3, hc3⟩
  replace ht2 := ht2.below hc3
  have hb3 := belT hb2 hc3
  clear hb2 hc3
  go_wp2_with fail
  refine (hTc _ hb3).mono ?_
  rintro e w4 ⟨ad4, cap4, rfl, hc4⟩
  have hb4 := belT hb3 hc4
  go_wp2_with fail
  refine (hLn _).mono ?_
  rintro e w5 ⟨rfl, rfl⟩
  have hb5 := hb4
  clear hb4
  go_wp2_with fail
  go_ret
  exact Ret.mk (by first | rfl | simp) hb5

set_option maxHeartbeats 2000000 in
theorem walkLP_far (s t : List UInt8) (w : World) (hL : Lay w) (hl : ¬ 500 < s.length) (hl2 : ¬ 500 < t.length) (hE : (tokP s).2.1 = 0) (F : Nat) (hF : (tokP t).2.1 = F) (hF0 : F ≠ 0) : Calls Tryd.prog 6 #[.string ⟨s.toArray⟩, .string ⟨t.toArray⟩] w (Ret (.bool true) w) := by
  have hsz : (⟨s.toArray⟩ : ByteArray).size = s.length := by simp [ByteArray.size]
  have hszt : (⟨t.toArray⟩ : ByteArray).size = t.length := by simp [ByteArray.size]
  have hH : ∀ wk, Below w.heap.size w wk → Calls Tryd.prog 8 #[] wk (Ret (.bool true) wk) := fun wk h => lhead_any wk (hL.below h)
  have q0 : decide (500 < (s.length : Int)) = false := by rw [decide_eq_false_iff_not]; omega
  have q1 : decide (500 < (t.length : Int)) = false := by rw [decide_eq_false_iff_not]; omega
  have hnl := nl_len s
  have hLn : ∀ wk, Calls Tryd.prog 17 #[.string ⟨s.toArray⟩] wk (Same (.int .i64 (nl s)) wk) := fun wk => lines_any s (by omega) wk
  have hcat : (⟨s.toArray⟩ : ByteArray) ++ ⟨#[10]⟩ = ⟨(s ++ [10]).toArray⟩ := bapp s [10]
  have hcat2 : (⟨(s ++ [10]).toArray⟩ : ByteArray) ++ ⟨t.toArray⟩ = ⟨(s ++ 10 :: t).toArray⟩ := by rw [bapp, List.append_assoc]; rfl
  obtain ⟨A, N, hA⟩ : ∃ (A : List RT) (N : Nat), (tokP s).1.map Tok.rt = A ∧ (tokP s).2.1 = 0 ∧ (tokP s).2.2 = N := ⟨_, _, rfl, hE, rfl⟩
  obtain ⟨M, hB⟩ : ∃ (M : Nat), (tokP t).1.map Tok.rt = [] ∧ (tokP t).2.1 = F ∧ (tokP t).2.2 = M := ⟨_, by rw [tok_bad (by rw [hF]; exact hF0)]; rfl, hF, rfl⟩
  have hF0' : (((F : Nat) : Int) != 0) = true := by rw [bne_iff_ne]; omega
  have hM : M ≤ 1000000 := by
    have h1 := (kinds_bad (s := t) (by omega) (by rw [hF]; exact hF0)).2.2
    have := nl_len t
    rw [hB.2.2] at h1; omega
  have hC : (tokP (s ++ 10 :: t)).1.map Tok.rt = [] ∧ (tokP (s ++ 10 :: t)).2.1 = F ∧ (tokP (s ++ 10 :: t)).2.2 = M + (nl s + 1) := by
    rw [parts_far (by omega) (by omega) hE (by rw [hF]; exact hF0)]; exact ⟨rfl, hB.2.1, by rw [hB.2.2]⟩
  have hTs : ∀ wk, Below w.heap.size w wk → Calls Tryd.prog 10 #[.string ⟨s.toArray⟩] wk (TokI A 0 N wk) := fun wk h => tokI hA wk (hL.below h)
  have hTt : ∀ wk, Below w.heap.size w wk → Calls Tryd.prog 10 #[.string ⟨t.toArray⟩] wk (TokI [] F M wk) := fun wk h => tokI hB wk (hL.below h)
  have hTc : ∀ wk, Below w.heap.size w wk → Calls Tryd.prog 10 #[.string ⟨(s ++ 10 :: t).toArray⟩] wk (fun e w' => ∃ ad cap, e = .returned (.tuple #[.slice ad 0 cap, .int .i64 F, .int .i64 ((M : Int) + ((nl s : Int) + 1))]) ∧ Below wk.heap.size wk w') := fun wk h => by
    refine (tokI hC wk (hL.below h)).mono ?_
    rintro e w' ⟨u, rfl, ht, _, hc⟩
    obtain ⟨ad, cap, rfl⟩ := ht.open
    exact ⟨ad, cap, rfl, hc⟩
  clear hL hA hB hC hE hF hF0
  go_enter Tryd.func6, Tryd.ntmps6
  go_wp2_with fail
  have hb0 : Below w.heap.size w w := Below.refl _ _
  refine (hH _ hb0).mono ?_
  rintro e w1 ⟨rfl, hc1⟩
  have hb1 := belT hb0 hc1
  clear hb0 hc1
  go_wp2_with fail
  refine (hTs _ hb1).mono ?_
  rintro e w2 ⟨v2, rfl, ht2, ho2, hc2⟩
  have hb2 := belT hb1 hc2
  clear hb1 hc2
  go_wp2_with fail
  refine (hTt _ hb2).mono ?_
  rintro e w3 ⟨v3, rfl, ht3, ho3, hc3⟩
  replace ht2 := ht2.below hc3
  have hb3 := belT hb2 hc3
  clear hb2 hc3
  go_wp2_with fail
  refine (hTc _ hb3).mono ?_
  rintro e w4 ⟨ad4, cap4, rfl, hc4⟩
  have hb4 := belT hb3 hc4
  go_wp2_with fail
  refine (hLn _).mono ?_
  rintro e w5 ⟨rfl, rfl⟩
  have hb5 := hb4
  clear hb4
  go_wp2_with fail
  go_ret
  exact Ret.mk (by first | rfl | simp) hb5

set_option maxHeartbeats 4000000 in
theorem walkLP_both (s t : List UInt8) (w : World) (hL : Lay w) (hl : ¬ 500 < s.length) (hl2 : ¬ 500 < t.length) (hE : (tokP s).2.1 = 0) (hF : (tokP t).2.1 = 0) : Calls Tryd.prog 6 #[.string ⟨s.toArray⟩, .string ⟨t.toArray⟩] w (Ret (.bool true) w) := by
  have hsz : (⟨s.toArray⟩ : ByteArray).size = s.length := by simp [ByteArray.size]
  have hszt : (⟨t.toArray⟩ : ByteArray).size = t.length := by simp [ByteArray.size]
  have hH : ∀ wk, Below w.heap.size w wk → Calls Tryd.prog 8 #[] wk (Ret (.bool true) wk) := fun wk h => lhead_any wk (hL.below h)
  have q0 : decide (500 < (s.length : Int)) = false := by rw [decide_eq_false_iff_not]; omega
  have q1 : decide (500 < (t.length : Int)) = false := by rw [decide_eq_false_iff_not]; omega
  have hnl := nl_len s
  have hLn : ∀ wk, Calls Tryd.prog 17 #[.string ⟨s.toArray⟩] wk (Same (.int .i64 (nl s)) wk) := fun wk => lines_any s (by omega) wk
  have hcat : (⟨s.toArray⟩ : ByteArray) ++ ⟨#[10]⟩ = ⟨(s ++ [10]).toArray⟩ := bapp s [10]
  have hcat2 : (⟨(s ++ [10]).toArray⟩ : ByteArray) ++ ⟨t.toArray⟩ = ⟨(s ++ 10 :: t).toArray⟩ := by rw [bapp, List.append_assoc]; rfl
  have hca := tok_count s
  have hcb := tok_count t
  obtain ⟨A, hA⟩ : ∃ (A : List RT), (tokP s).1.map Tok.rt = A ∧ (tokP s).2.1 = 0 ∧ (tokP s).2.2 = 0 := ⟨_, rfl, hE, (tok_zero hE).2.2.1⟩
  obtain ⟨B, hB⟩ : ∃ (B : List RT), (tokP t).1.map Tok.rt = B ∧ (tokP t).2.1 = 0 ∧ (tokP t).2.2 = 0 := ⟨_, rfl, hF, (tok_zero hF).2.2.1⟩
  have hAl : A.length ≤ 5000 := by rw [← hA.1, List.length_map]; exact hca
  have hBl : B.length ≤ 5000 := by rw [← hB.1, List.length_map]; exact hcb
  have hAi := tok_rs s
  have hBi := tok_rs t
  rw [hA.1] at hAi
  rw [hB.1] at hBi
  have hBn : ∀ x ∈ B, 0 ≤ x.n ∧ x.n ≤ 1000000 := by
    intro x hx
    rw [← hB.1] at hx
    obtain ⟨y, hy, rfl⟩ := List.mem_map.1 hx
    have := tok_fine t y hy
    have e2 : y.rt.n = (y.n : Int) := rfl
    omega
  have hC : (tokP (s ++ 10 :: t)).1.map Tok.rt = A ++ B.map (byTok (nl s + 1)) ∧ (tokP (s ++ 10 :: t)).2.1 = 0 ∧ (tokP (s ++ 10 :: t)).2.2 = 0 := by
    have h := parts_both (s := s) (t := t) (by omega) (by omega) hE hF
    rw [hA.1, hB.1] at h; exact ⟨h.2.2, h.1, h.2.1⟩
  have hTs : ∀ wk, Below w.heap.size w wk → Calls Tryd.prog 10 #[.string ⟨s.toArray⟩] wk (TokI A 0 0 wk) := fun wk h => tokI hA wk (hL.below h)
  have hTt : ∀ wk, Below w.heap.size w wk → Calls Tryd.prog 10 #[.string ⟨t.toArray⟩] wk (TokI B 0 0 wk) := fun wk h => tokI hB wk (hL.below h)
  have hTc : ∀ wk, Below w.heap.size w wk → Calls Tryd.prog 10 #[.string ⟨(s ++ 10 :: t).toArray⟩] wk (TokI (A ++ B.map (byTok (nl s + 1))) 0 0 wk) := fun wk h => tokI hC wk (hL.below h)
  obtain ⟨n, hn⟩ : ∃ n, nl s = n := ⟨_, rfl⟩
  rw [hn] at hLn hTc hnl
  have hn5 : n ≤ 500 := by omega
  obtain ⟨i0, hi, hz0, hz1, hzz⟩ := info_parts Tryd.infoTok
  have hCi : RS (A ++ B.map (byTok (n + 1))) := by
    have := tok_rs (s ++ 10 :: t)
    rw [hC.1, hn] at this; exact this
  clear hL hA hB hC hE hF hca hcb hn
  go_enter Tryd.func6, Tryd.ntmps6
  go_wp2_with fail
  have hb0 : Below w.heap.size w w := Below.refl _ _
  refine (hH _ hb0).mono ?_
  rintro e w1 ⟨rfl, hc1⟩
  have hb1 := belT hb0 hc1
  clear hb0 hc1
  go_wp2_with fail
  refine (hTs _ hb1).mono ?_
  rintro e w2 ⟨v2, rfl, ht2, ho2, hc2⟩
  have hb2 := belT hb1 hc2
  clear hb1 hc2
  go_wp2_with fail
  refine (hTt _ hb2).mono ?_
  rintro e w3 ⟨v3, rfl, ht3, ho3, hc3⟩
  replace ht2 := ht2.below hc3
  replace ho2 := lown_below ho2 hc3
  have hb3 := belT hb2 hc3
  clear hb2 hc3
  go_wp2_with fail
  refine (hTc _ hb3).mono ?_
  rintro e w4 ⟨v4, rfl, ht4, ho4, hc4⟩
  replace ht2 := ht2.below hc4
  replace ht3 := ht3.below hc4
  replace ho2 := lown_below ho2 hc4
  replace ho3 := lown_below ho3 hc4
  have hb4 := belT hb3 hc4
  clear hb3 hc4
  go_wp2_with fail
  refine (hLn _).mono ?_
  rintro e w5 ⟨rfl, rfl⟩
  have hb5 := hb4
  clear hb4
  have hw0 := hb5.size
  have hv3 := ht3
  obtain ⟨ad3, cap3, rfl⟩ := hv3.open
  have hnew : (w4.alloc (.cells #[] 36)).ownsRow w4.heap.size 36 3 (.slice (some ⟨w4.heap.size, 0, none⟩) 0 0) 0 [] := own_empty w4
  have hoA : (w4.alloc (.cells #[] 36)).ownsRow w1.heap.size 36 3 v2 A.length (A.flatMap rtC) := lown_below ho2 ((Below.refl _ _).alloc (Nat.le_refl _) _)
  go_wp2_with (at_builtin; refine app_own_any rfl _ _ rfl _ _ _ _ rfl hnew _ v2 A rfl hoA (by omega) (by simp) ?_; intro v5 w5 hown5 hbel5)
  have hb6 : Below w4.heap.size w4 w5 := ((Below.refl _ _).alloc (Nat.le_refl _) _).trans hbel5
  clear hnew hoA hbel5 ho2 ho3 ho4
  go_loopw [16, 96] (fun v i wr => ∃ k : Nat, k ≤ B.length ∧ i = .int .i64 k ∧ wr.ownsRow w4.heap.size 36 3 v (A.length + k) ((A ++ (B.take k).map (byTok (n + 1))).flatMap rtC) ∧ Below w4.heap.size w4 wr) (fun _ i _ => B.length - (intOf i).toNat)
  case atStart =>
    refine ⟨0, Nat.zero_le _, rfl, ?_, hb6⟩
    have e : 0 + A.length = A.length + 0 := by omega
    rw [e, List.nil_append] at hown5
    simpa using hown5
  case round =>
    obtain ⟨k, hk, rfl, hown, hbr⟩ := hrel
    have hbs := hbr.size
    by_cases hkl : k < B.length
    · obtain ⟨a, rfl, c0, c1, c2, hab⟩ := hv3.reads hbr (Nat.le_refl _) k hkl
      have hst : (A ++ (B.take (k + 1)).map (byTok (n + 1))).flatMap rtC = (A ++ (B.take k).map (byTok (n + 1))).flatMap rtC ++ rtC (byTok (n + 1) B[k]) := by
        rw [List.take_succ_eq_append_getElem hkl, List.map_append, ← List.append_assoc, List.flatMap_append]; simp only [List.map_cons, List.map_nil, List.flatMap_cons, List.flatMap_nil, List.append_nil]
      have hxn := hBn B[k] (List.getElem_mem hkl)
      generalize B[k] = x at c0 c1 c2 hst hxn
      obtain ⟨xk, xn, xt⟩ := x
      simp only at c0 c1 c2 hxn
      have hst2 : (A ++ (B.take (k + 1)).map (byTok (n + 1))).flatMap rtC = (A ++ (B.take k).map (byTok (n + 1))).flatMap rtC ++ [.int .i64 xk, .int .i64 (xn + ((n : Int) + 1)), .string ⟨xt.toArray⟩] := hst
      generalize (⟨xt.toArray⟩ : ByteArray) = XB at *
      have HS := Lib.hid hst2
      clear hst hst2
      obtain ⟨ad, cap, rfl⟩ := lown_shape hown
      go_wp2_with (at_builtin; refine wpList_append_own _ rfl _ _ 22 rfl w4.heap.size 36 i0 (.agg #[.int .i64 0, .int .i64 0, .string ⟨#[]⟩]) 3 32 Tryd.underlying22 hi hz0 hz1 hzz rfl (by decide) _ _ _ rfl ((hown.alloc _).alloc _) ⟨wr.heap.size + 1, 0, none⟩ 1 1 [.int .i64 xk, .int .i64 (xn + ((n : Int) + 1)), .string XB] rfl rfl (by intro j u hj; match j, hj with | 0, hj => (simp at hj; subst hj; simp [Addr.add]) | 1, hj => (simp at hj; subst hj; simp [Addr.add]) | 2, hj => (simp at hj; subst hj; simp [Addr.add])) (by intro u hu; simp at hu; rcases hu with rfl | rfl | rfl <;> rfl) (by unfold maxLen; omega) (by omega) (by simp; omega) ?_; intro v' w1 hown' hgrow _)
      go_roundw
      case rel =>
        refine ⟨k + 1, by omega, by go_num, ?_, ((hbr.alloc hbs _).alloc (by simp; omega) _).grown hgrow (by simp; omega) (fun k hk => (lown_row hown k hk).1)⟩
        rw [HS.out]; exact hown'
      case measure => simp [intOf]; omega
    · have hke : k = B.length := by omega
      subst hke
      rw [List.take_length] at hown
      have hTall := (toks_of_own hown hCi (by rw [List.length_append, List.length_map]; omega)).2
      have hTc4 := ht4.below hbr
      have hbz := belT hb5 hbr
      clear hbr hown hb6
      go_wp2_with fail
      refine (sameI rfl _ hTc4 hTall).mono ?_
      rintro e w7 ⟨rfl, hc7⟩
      go_wp2_with fail
      go_ret
      exact Ret.mk rfl (belT hbz hc7)

theorem walkLexerParts (s t : List UInt8) (w : World) (hL : Lay w) : Calls Tryd.prog 6 #[.string ⟨s.toArray⟩, .string ⟨t.toArray⟩] w (Ret (.bool true) w) := by
  by_cases hl : 500 < s.length
  · exact walkLP_long s t w hL hl
  · by_cases hl2 : 500 < t.length
    · exact walkLP_long2 s t w hL hl hl2
    · by_cases hE : (tokP s).2.1 = 0
      · by_cases hF : (tokP t).2.1 = 0
        · exact walkLP_both s t w hL hl hl2 hE hF
        · exact walkLP_far s t w hL hl hl2 hE _ rfl hF
      · exact walkLP_bad s t w hL hl hl2 _ rfl hE
end Go.Proofs.YtfnclecfldddeaaDoor
