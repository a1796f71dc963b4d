/-
  The printer, plain: how many brackets and commas a text has.
-/
import Derived.Test.YtlkefcbkpohpgaaDoorPrnText
namespace Go.Proofs.YtlkefcbkpohpgaaDoor

mutual
def brN : Xp → Nat
  | .mk o _ l => brL o 0 l
def brL (o : Int) : Nat → List Xp → Nat
  | _, [] => 0
  | i, e :: r => brN e + (if lowE o i e = true then 1 else 0) + brL o (i + 1) r
end
mutual
def chN : Xp → Nat
  | .mk o _ l => (if o = 8 ∨ o = 9 then 1 else 0) + chL l
def chL : List Xp → Nat
  | [] => 0
  | e :: r => chN e + chL r
end
theorem brN_mk (o n : Int) (l : List Xp) : brN (.mk o n l) = brL o 0 l := by rw [brN]
theorem brL_nil (o : Int) (i : Nat) : brL o i [] = 0 := by rw [brL]
theorem brL_cons (o : Int) (i : Nat) (e : Xp) (r : List Xp) : brL o i (e :: r) = brN e + (if lowE o i e = true then 1 else 0) + brL o (i + 1) r := by rw [brL]
theorem chN_mk (o n : Int) (l : List Xp) : chN (.mk o n l) = (if o = 8 ∨ o = 9 then 1 else 0) + chL l := by rw [chN]
theorem chL_nil : chL [] = 0 := by rw [chL]
theorem chL_cons (e : Xp) (r : List Xp) : chL (e :: r) = chN e + chL r := by rw [chL]
theorem count_no {c : UInt8} {s : List UInt8} (h : ∀ x ∈ s, digB x = true ∨ x = 46) (hc : digB c = false) (h2 : c ≠ 46) : s.count c = 0 := by
  rw [List.count_eq_zero]
  intro hm
  rcases h c hm with h3 | h3
  · rw [hc] at h3; cases h3
  · exact h2 h3
theorem mon_chars (a : Nat) : ∀ x ∈ monT a, digB x = true ∨ x = 46 := by
  intro x hx
  unfold monT at hx
  rcases List.mem_append.1 hx with hx | hx
  · exact .inl ((dec_all _).1 x hx)
  · simp only [List.mem_cons, List.not_mem_nil, or_false] at hx
    rcases hx with rfl | rfl | rfl
    · exact .inr rfl
    · exact .inl (tdig _ (by omega)).1
    · exact .inl (tdig _ (by omega)).1
theorem count_brk (c : UInt8) (b : Bool) (s : List UInt8) : (brkS b s).count c = (if b = true then (if c = 40 then 1 else 0) + (if c = 41 then 1 else 0) else 0) + s.count c := by
  unfold brkS
  cases b with
  | false => simp
  | true =>
    rw [if_pos rfl, if_pos rfl, List.count_cons, List.count_append, List.count_cons, List.count_nil]
    by_cases h1 : c = 40
    · subst h1; simp; omega
    · by_cases h2 : c = 41
      · subst h2; simp; omega
      · simp [h1, h2, Ne.symm h1, Ne.symm h2]
/-- what is counted: c stands for the opening bracket, the closing one, the comma -/
theorem txt_count (c : UInt8) (hc : c = 40 ∨ c = 41 ∨ c = 44) : ∀ (e : Xp), okE e = true → (txtE e).count c = (if c = 44 then 0 else brN e) + chN e := by
  intro e
  induction e using Xp.ind with
  | h o n kids ih =>
  intro h
  have hd : digB c = false ∧ c ≠ 46 := by rcases hc with rfl | rfl | rfl <;> decide
  have hw : wMin.count c = 0 ∧ wMax.count c = 0 ∧ wIf.count c = 0 ∧ wThen.count c = 0 ∧ wElse.count c = 0 ∧ wNot.count c = 0 := by rcases hc with rfl | rfl | rfl <;> decide
  have h32 : (32 : UInt8) ≠ c := by rcases hc with rfl | rfl | rfl <;> decide
  obtain ⟨w1, w2, w3, w4, w5, w6⟩ := hw
  have hb : ∀ (o : Int) (i : Nat) (e : Xp), (brkS (lowE o i e) (txtE e)).count c = (if c = 44 then 0 else if lowE o i e = true then 1 else 0) + (txtE e).count c := by
    intro o i e
    rw [count_brk]
    rcases hc with rfl | rfl | rfl <;> simp
  rcases node_shape h with ⟨rfl, rfl, a, rfl, ha⟩ | ⟨rfl, rfl, a, rfl, ha⟩ | ⟨rfl, rfl, hn⟩ | ⟨rfl, rfl, a, rfl, ha⟩ | ⟨rfl, rfl, a, b, d, rfl, ha, hb2, hd2⟩ | ⟨ho, rfl, a, b, rfl, ha, hb2⟩
  · rw [txtE_mk, brN_mk, brL_nil, chN_mk, chL_nil]
    show (Lib.decDigits a).count c = _
    rw [count_no (fun x hx => .inl ((dec_all a).1 x hx)) hd.1 hd.2]; simp
  · rw [txtE_mk, brN_mk, brL_nil, chN_mk, chL_nil]
    show (monT a).count c = _
    rw [count_no (mon_chars a) hd.1 hd.2]; simp
  · rw [txtE_mk, brN_mk, brL_nil, chN_mk, chL_nil]
    rcases hn with rfl | rfl | rfl | rfl <;> rcases hc with rfl | rfl | rfl <;> rfl
  · rw [txt_one, brN_mk, brL_cons, brL_nil, chN_mk, chL_cons, chL_nil]
    show (wNot ++ 32 :: brkS (lowE 15 0 a) (txtE a)).count c = _
    rw [List.count_append, List.count_cons_of_ne h32, hb, ih a (by simp) ha, w6]
    split <;> simp <;> omega
  · rw [txt_three, brN_mk, brL_cons, brL_cons, brL_cons, brL_nil, chN_mk, chL_cons, chL_cons, chL_cons, chL_nil]
    show (wIf ++ 32 :: (brkS (lowE 10 0 a) (txtE a) ++ 32 :: (wThen ++ 32 :: (brkS (lowE 10 1 b) (txtE b) ++ 32 :: (wElse ++ 32 :: brkS (lowE 10 2 d) (txtE d)))))).count c = _
    rw [List.count_append, List.count_cons_of_ne h32, List.count_append, List.count_cons_of_ne h32, List.count_append, List.count_cons_of_ne h32, List.count_append, List.count_cons_of_ne h32, List.count_append, List.count_cons_of_ne h32,
      hb, hb, hb, ih a (by simp) ha, ih b (by simp) hb2, ih d (by simp) hd2, w3, w4, w5]
    split <;> simp <;> omega
  · rw [txt_two, brN_mk, brL_cons, brL_cons, brL_nil, chN_mk, chL_cons, chL_cons, chL_nil]
    have ia := ih a (by simp) ha
    have ib := ih b (by simp) hb2
    have ha2 := hb o 0 a
    have hb3 := hb o 1 b
    by_cases h8 : o = 8 ∨ o = 9
    · have hz : lowE o 0 a = false ∧ lowE o 1 b = false := by rcases h8 with rfl | rfl; exact ⟨low_none (.inl rfl) _ _, low_none (.inl rfl) _ _⟩; exact ⟨low_none (.inr (.inl rfl)) _ _, low_none (.inr (.inl rfl)) _ _⟩
      rw [hz.1] at ha2 ⊢
      rw [hz.2] at hb3 ⊢
      have hs : ∃ W : List UInt8, W.count c = 0 ∧ ∀ x y : List UInt8, shapeT o 0 [x, y] = W ++ 40 :: (x ++ 44 :: 32 :: (y ++ [41])) := by
        rcases h8 with rfl | rfl
        · exact ⟨wMin, w1, fun x y => rfl⟩
        · exact ⟨wMax, w2, fun x y => rfl⟩
      obtain ⟨W, hW, hs⟩ := hs
      rw [hs, List.count_append, hW, List.count_cons, List.count_append, List.count_cons, List.count_cons_of_ne h32, List.count_append, List.count_cons, List.count_nil, ha2, hb3, ia, ib, if_pos h8]
      rcases hc with rfl | rfl | rfl <;> simp <;> omega
    · rw [if_neg h8]
      have hx : o = 4 ∨ o = 5 ∨ o = 6 ∨ o = 7 ∨ o = 11 ∨ o = 12 ∨ o = 13 ∨ o = 14 := by omega
      have hs : ∀ x y : List UInt8, shapeT o 0 [x, y] = x ++ 32 :: (sgnO o ++ 32 :: y) := by
        intro x y
        unfold shapeT
        rw [if_neg (by omega), if_neg (by omega), if_neg (by omega), if_neg (by omega), if_neg (by omega), if_neg (by omega), if_neg (by omega)]
        rfl
      have hg : (sgnO o).count c = 0 := by rcases hx with rfl | rfl | rfl | rfl | rfl | rfl | rfl | rfl <;> rcases hc with rfl | rfl | rfl <;> rfl
      rw [hs, List.count_append, List.count_cons_of_ne h32, List.count_append, List.count_cons_of_ne h32, hg, ha2, hb3, ia, ib]
      split <;> simp <;> omega
end Go.Proofs.YtlkefcbkpohpgaaDoor
