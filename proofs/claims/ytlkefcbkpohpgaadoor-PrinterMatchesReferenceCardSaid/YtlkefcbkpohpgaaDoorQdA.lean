/-
  The printer, plain: how many brackets and commas a text has.
-/
import Derived.Test.YtlkefcbkpohpgaaDoorPrnText
import Derived.Test.YtlkefcbkpohpgaaDoorPrnExp
import Derived.Test.YtlkefcbkpohpgaaDoorParSize
import Derived.Test.YtlkefcbkpohpgaaDoorParRTxt
import Derived.Deep.QuietTactic
import Derived.BigQuiet
namespace Go.Proofs.YtlkefcbkpohpgaaDoor

mutual
def brN : Xp → Nat
  | .mk o _ l => brL o 0 l
def brL (o : Int) : Nat → List Xp → Nat
  | _, [] => 0
  | i, e :: r => brN e + (if lowE o i e = true then 1 else 0) + brL o (i + 1) r
end
mutual
def chN : Xp → Nat
  | .mk o _ l => (if o = 8 ∨ o = 9 then 1 else 0) + chL l
def chL : List Xp → Nat
  | [] => 0
  | e :: r => chN e + chL r
end
theorem brN_mk (o n : Int) (l : List Xp) : brN (.mk o n l) = brL o 0 l := by rw [brN]
theorem brL_nil (o : Int) (i : Nat) : brL o i [] = 0 := by rw [brL]
theorem brL_cons (o : Int) (i : Nat) (e : Xp) (r : List Xp) : brL o i (e :: r) = brN e + (if lowE o i e = true then 1 else 0) + brL o (i + 1) r := by rw [brL]
theorem chN_mk (o n : Int) (l : List Xp) : chN (.mk o n l) = (if o = 8 ∨ o = 9 then 1 else 0) + chL l := by rw [chN]
theorem chL_nil : chL [] = 0 := by rw [chL]
theorem chL_cons (e : Xp) (r : List Xp) : chL (e :: r) = chN e + chL r := by rw [chL]
theorem count_no {c : UInt8} {s : List UInt8} (h : ∀ x ∈ s, digB x = true ∨ x = 46) (hc : digB c = false) (h2 : c ≠ 46) : s.count c = 0 := by
  rw [List.count_eq_zero]
  intro hm
  rcases h c hm with h3 | h3
  · rw [hc] at h3; cases h3
  · exact h2 h3
theorem mon_chars (a : Nat) : ∀ x ∈ monT a, digB x = true ∨ x = 46 := by
  intro x hx
  unfold monT at hx
  rcases List.mem_append.1 hx with hx | hx
  · exact .inl ((dec_all _).1 x hx)
  · simp only [List.mem_cons, List.not_mem_nil, or_false] at hx
    rcases hx with rfl | rfl | rfl
    · exact .inr rfl
    · exact .inl (tdig _ (by omega)).1
    · exact .inl (tdig _ (by omega)).1
theorem count_brk (c : UInt8) (b : Bool) (s : List UInt8) : (brkS b s).count c = (if b = true then (if c = 40 then 1 else 0) + (if c = 41 then 1 else 0) else 0) + s.count c := by
  unfold brkS
  cases b with
  | false => simp
  | true =>
    rw [if_pos rfl, if_pos rfl, List.count_cons, List.count_append, List.count_cons, List.count_nil]
    by_cases h1 : c = 40
    · subst h1; simp; omega
    · by_cases h2 : c = 41
      · subst h2; simp; omega
      · simp [h1, h2, Ne.symm h1, Ne.symm h2]
/-- what is counted: c stands for the opening bracket, the closing one, the comma -/
theorem txt_count (c : UInt8) (hc : c = 40 ∨ c = 41 ∨ c = 44) : ∀ (e : Xp), okE e = true → (txtE e).count c = (if c = 44 then 0 else brN e) + chN e := by
  intro e
  induction e using Xp.ind with
  | h o n kids ih =>
  intro h
  have hd : digB c = false ∧ c ≠ 46 := by rcases hc with rfl | rfl | rfl <;> decide
  have hw : wMin.count c = 0 ∧ wMax.count c = 0 ∧ wIf.count c = 0 ∧ wThen.count c = 0 ∧ wElse.count c = 0 ∧ wNot.count c = 0 := by rcases hc with rfl | rfl | rfl <;> decide
  have h32 : (32 : UInt8) ≠ c := by rcases hc with rfl | rfl | rfl <;> decide
  obtain ⟨w1, w2, w3, w4, w5, w6⟩ := hw
  have hb : ∀ (o : Int) (i : Nat) (e : Xp), (brkS (lowE o i e) (txtE e)).count c = (if c = 44 then 0 else if lowE o i e = true then 1 else 0) + (txtE e).count c := by
    intro o i e
    rw [count_brk]
    rcases hc with rfl | rfl | rfl <;> simp
  rcases node_shape h with ⟨rfl, rfl, a, rfl, ha⟩ | ⟨rfl, rfl, a, rfl, ha⟩ | ⟨rfl, rfl, hn⟩ | ⟨rfl, rfl, a, rfl, ha⟩ | ⟨rfl, rfl, a, b, d, rfl, ha, hb2, hd2⟩ | ⟨ho, rfl, a, b, rfl, ha, hb2⟩
  · rw [txtE_mk, brN_mk, brL_nil, chN_mk, chL_nil]
    show (Lib.decDigits a).count c = _
    rw [count_no (fun x hx => .inl ((dec_all a).1 x hx)) hd.1 hd.2]; simp
  · rw [txtE_mk, brN_mk, brL_nil, chN_mk, chL_nil]
    show (monT a).count c = _
    rw [count_no (mon_chars a) hd.1 hd.2]; simp
  · rw [txtE_mk, brN_mk, brL_nil, chN_mk, chL_nil]
    rcases hn with rfl | rfl | rfl | rfl <;> rcases hc with rfl | rfl | rfl <;> rfl
  · rw [txt_one, brN_mk, brL_cons, brL_nil, chN_mk, chL_cons, chL_nil]
    show (wNot ++ 32 :: brkS (lowE 15 0 a) (txtE a)).count c = _
    rw [List.count_append, List.count_cons_of_ne h32, hb, ih a (by simp) ha, w6]
    split <;> simp <;> omega
  · rw [txt_three, brN_mk, brL_cons, brL_cons, brL_cons, brL_nil, chN_mk, chL_cons, chL_cons, chL_cons, chL_nil]
    show (wIf ++ 32 :: (brkS (lowE 10 0 a) (txtE a) ++ 32 :: (wThen ++ 32 :: (brkS (lowE 10 1 b) (txtE b) ++ 32 :: (wElse ++ 32 :: brkS (lowE 10 2 d) (txtE d)))))).count c = _
    rw [List.count_append, List.count_cons_of_ne h32, List.count_append, List.count_cons_of_ne h32, List.count_append, List.count_cons_of_ne h32, List.count_append, List.count_cons_of_ne h32, List.count_append, List.count_cons_of_ne h32,
      hb, hb, hb, ih a (by simp) ha, ih b (by simp) hb2, ih d (by simp) hd2, w3, w4, w5]
    split <;> simp <;> omega
  · rw [txt_two, brN_mk, brL_cons, brL_cons, brL_nil, chN_mk, chL_cons, chL_cons, chL_nil]
    have ia := ih a (by simp) ha
    have ib := ih b (by simp) hb2
    have ha2 := hb o 0 a
    have hb3 := hb o 1 b
    by_cases h8 : o = 8 ∨ o = 9
    · have hz : lowE o 0 a = false ∧ lowE o 1 b = false := by rcases h8 with rfl | rfl; exact ⟨low_none (.inl rfl) _ _, low_none (.inl rfl) _ _⟩; exact ⟨low_none (.inr (.inl rfl)) _ _, low_none (.inr (.inl rfl)) _ _⟩
      rw [hz.1] at ha2 ⊢
      rw [hz.2] at hb3 ⊢
      have hs : ∃ W : List UInt8, W.count c = 0 ∧ ∀ x y : List UInt8, shapeT o 0 [x, y] = W ++ 40 :: (x ++ 44 :: 32 :: (y ++ [41])) := by
        rcases h8 with rfl | rfl
        · exact ⟨wMin, w1, fun x y => rfl⟩
        · exact ⟨wMax, w2, fun x y => rfl⟩
      obtain ⟨W, hW, hs⟩ := hs
      rw [hs, List.count_append, hW, List.count_cons, List.count_append, List.count_cons, List.count_cons_of_ne h32, List.count_append, List.count_cons, List.count_nil, ha2, hb3, ia, ib, if_pos h8]
      rcases hc with rfl | rfl | rfl <;> simp <;> omega
    · rw [if_neg h8]
      have hx : o = 4 ∨ o = 5 ∨ o = 6 ∨ o = 7 ∨ o = 11 ∨ o = 12 ∨ o = 13 ∨ o = 14 := by omega
      have hs : ∀ x y : List UInt8, shapeT o 0 [x, y] = x ++ 32 :: (sgnO o ++ 32 :: y) := by
        intro x y
        unfold shapeT
        rw [if_neg (by omega), if_neg (by omega), if_neg (by omega), if_neg (by omega), if_neg (by omega), if_neg (by omega), if_neg (by omega)]
        rfl
      have hg : (sgnO o).count c = 0 := by rcases hx with rfl | rfl | rfl | rfl | rfl | rfl | rfl | rfl <;> rcases hc with rfl | rfl | rfl <;> rfl
      rw [hs, List.count_append, List.count_cons_of_ne h32, List.count_append, List.count_cons_of_ne h32, hg, ha2, hb3, ia, ib]
      split <;> simp <;> omega
end Go.Proofs.YtlkefcbkpohpgaaDoor
namespace Go.Proofs.YtlkefcbkpohpgaaDoor
open Go.RowKit Go.Shelf
set_option maxRecDepth 100000

theorem range_15 {k : Nat} (h1 : 1 ≤ k) (h2 : k ≤ 15) : k = 1 ∨ k = 2 ∨ k = 3 ∨ k = 4 ∨ k = 5 ∨ k = 6 ∨ k = 7 ∨ k = 8 ∨ k = 9 ∨ k = 10 ∨ k = 11 ∨ k = 12 ∨ k = 13 ∨ k = 14 ∨ k = 15 := by omega
set_option maxHeartbeats 2000000 in
theorem rrank_any (k : Nat) (h1 : 1 ≤ k) (h2 : k ≤ 15) (n : Int) (ad : Option Addr) (len cap : Nat) (w : World) : Calls Tryd.prog 33 #[.agg #[.int .i64 (k : Nat), .int .i64 n, .slice ad len cap]] w (Ret (.int .i64 (rankO (k : Int) : Nat)) w) := by
  rcases range_15 h1 h2 with rfl | rfl | rfl | rfl | rfl | rfl | rfl | rfl | rfl | rfl | rfl | rfl | rfl | rfl | rfl
  all_goals
    go_enter Tryd.func33, Tryd.ntmps33
    go_wp2_with fail
    go_ret
    exact Ret.mk rfl (by (repeat (first | exact Below.refl _ _ | assumption | refine Below.drew ?_ | refine below_drewN ?_ _ | refine Below.setCell ?_ (by first | omega | (simp <;> omega)) _ | refine Below.alloc ?_ (by first | omega | (simp <;> omega)) _)))
theorem alB9 (w : World) (o : Obj) : Below w.heap.size w (w.alloc o) := Below.alloc (Below.refl _ _) (Nat.le_refl _) o
theorem rank_8 (o : Int) : rankO o = 0 ∨ rankO o = 1 ∨ rankO o = 2 ∨ rankO o = 3 ∨ rankO o = 4 ∨ rankO o = 5 ∨ rankO o = 6 ∨ rankO o = 7 := by have := rank_le o; omega
set_option maxHeartbeats 2000000 in
theorem rleast_any (k : Nat) (h1 : 1 ≤ k) (h2 : k ≤ 15) (n : Int) (ad : Option Addr) (len cap : Nat) (i : Nat) (hi : i ≤ 1000) (w : World) : Calls Tryd.prog 34 #[.agg #[.int .i64 (k : Nat), .int .i64 n, .slice ad len cap], .int .i64 (i : Nat)] w (Ret (.int .i64 (leastO (k : Int) i : Nat)) w) := by
  have hr := fun w1 => rrank_any k h1 h2 n ad len cap w1
  unfold leastO
  have h8 := rank_8 (k : Int)
  generalize rankO (k : Int) = r at hr h8 ⊢
  rcases h8 with rfl | rfl | rfl | rfl | rfl | rfl | rfl | rfl
  all_goals
    go_enter Tryd.func34, Tryd.ntmps34
    go_wp2_with fail
    refine (hr _).mono ?_
    rintro e w1 ⟨rfl, hx⟩
    try have hwr := IntWalk.i64_in (1 + (i : Int)) (by omega)
    try have hwr2 := IntWalk.i64_in (2 + (i : Int)) (by omega)
    try have hwr5 := IntWalk.i64_in (5 + (i : Int)) (by omega)
    try have hwr6 := IntWalk.i64_in (6 + (i : Int)) (by omega)
    go_wp2_with fail
    go_ret
    exact Ret.mk (by simp) ((alB9 w _).trans (hx.mono (by simp)))

theorem rrank_x (x : Xp) (hx : okE x = true) (ad : Option Addr) (len cap : Nat) (w : World) : Calls Tryd.prog 33 #[.agg #[.int .i64 x.o, .int .i64 x.n, .slice ad len cap]] w (Ret (.int .i64 (rankE x : Nat)) w) := by
  obtain ⟨k, hk, h1, h2⟩ := op_range hx
  have h3 := rank_at x hk
  rw [hk, ← h3]
  exact rrank_any k h1 h2 _ _ _ _ _
theorem rleast_x (x : Xp) (hx : okE x = true) (ad : Option Addr) (len cap : Nat) (i : Nat) (hi : i ≤ 1000) (w : World) : Calls Tryd.prog 34 #[.agg #[.int .i64 x.o, .int .i64 x.n, .slice ad len cap], .int .i64 (i : Nat)] w (Ret (.int .i64 (leastO x.o i : Nat)) w) := by
  obtain ⟨k, hk, h1, h2⟩ := op_range hx
  rw [hk]
  exact rleast_any k h1 h2 _ _ _ _ i hi _
theorem brL_le : ∀ (l : List Xp) (o : Int) (i : Nat), (∀ e ∈ l, brN e + 2 ≤ 2 * cntE e) → brL o i l ≤ 2 * cntL l
  | [], o, i, _ => by rw [brL_nil]; omega
  | e :: r, o, i, h => by
    rw [brL_cons, cntL]
    have h1 := h e (by simp)
    have h2 := brL_le r o (i + 1) (fun x hx => h x (by simp [hx]))
    split <;> omega
theorem brN_le (e : Xp) : brN e + 2 ≤ 2 * cntE e := by
  induction e using Xp.ind with
  | h o n l ih =>
    rw [brN_mk, cntE]
    have := brL_le l o 0 ih
    omega
theorem chL_le : ∀ (l : List Xp), (∀ e ∈ l, chN e ≤ cntE e) → chL l ≤ cntL l
  | [], _ => by rw [chL_nil]; omega
  | e :: r, h => by
    rw [chL_cons, cntL]
    have h1 := h e (by simp)
    have h2 := chL_le r (fun x hx => h x (by simp [hx]))
    omega
theorem chN_le (e : Xp) : chN e ≤ cntE e := by
  induction e using Xp.ind with
  | h o n l ih =>
    rw [chN_mk, cntE]
    have := chL_le l ih
    split <;> omega
theorem brL_drop {o : Int} {l : List Xp} {k : Nat} (hk : k < l.length) : brL o k (l.drop k) = brN l[k] + (if lowE o k l[k] = true then 1 else 0) + brL o (k + 1) (l.drop (k + 1)) := by rw [List.drop_eq_getElem_cons hk, brL_cons]
theorem chL_drop {l : List Xp} {k : Nat} (hk : k < l.length) : chL (l.drop k) = chN l[k] + chL (l.drop (k + 1)) := by rw [List.drop_eq_getElem_cons hk, chL_cons]
theorem cnt_in : ∀ {l : List Xp} {e : Xp}, e ∈ l → cntE e ≤ cntL l
  | x :: r, e, h => by
    simp only [cntL]
    rcases List.mem_cons.1 h with rfl | h
    · omega
    · have := cnt_in h; omega
theorem cntL_ge : ∀ l : List Xp, l.length ≤ cntL l
  | [] => by simp [cntL]
  | e :: r => by
    have := cntL_ge r
    have := brN_le e
    simp only [cntL, List.length_cons]; omega
set_option maxHeartbeats 3200000 in
theorem brk_any (Q : Nat → Prop) : ∀ (e : Xp) (v : Value) (w : World), okE e = true → cntE e ≤ 200 → Tree Q w e v → Calls Tryd.prog 13 #[v] w (Ret (.int .i64 (brN e : Nat)) w) := by
  intro e
  induction e using Xp.ind with
  | h o nn kids ih =>
  intro v w hok hcn ht
  have hroot := rleast_x (.mk o nn kids) hok
  obtain ⟨ad, cap, rfl, hlen, hks⟩ := ht.shape
  simp only [Xp.o, Xp.n, Xp.ks] at *
  have hle := brN_le (.mk o nn kids)
  rw [okE_mk, Bool.and_eq_true] at hok
  rw [cntE] at hcn hle
  rw [brN_mk] at hle
  have hkn := cntL_ge kids
  have hIH : ∀ (k : Nat) (hk : k < kids.length) (v2 : Value) (w2 : World), Tree Q w2 kids[k] v2 → Calls Tryd.prog 13 #[v2] w2 (Ret (.int .i64 (brN kids[k] : Nat)) w2) := fun k hk v2 w2 h2 => by
    have hm := List.getElem_mem hk
    exact ih kids[k] hm v2 w2 (okL_mem hok.2 _ hm) (by have := cnt_in hm; omega) h2
  have hokk : ∀ (k : Nat) (hk : k < kids.length), okE kids[k] = true := fun k hk => okL_mem hok.2 _ (List.getElem_mem hk)
  obtain ⟨hnd, -⟩ := hok
  clear ih hnd
  rw [brN_mk]
  have o2 := Own.new w #[.int .i64 o, .int .i64 nn, .slice ad kids.length cap] 24
  have hb1 : Below w.heap.size w (w.alloc (.cells #[.int .i64 o, .int .i64 nn, .slice ad kids.length cap] 24)) := by (repeat (first | exact Below.refl _ _ | assumption | refine Below.drew ?_ | refine below_drewN ?_ _ | refine Below.setCell ?_ (by first | omega | (simp <;> omega)) _ | refine Below.alloc ?_ (by first | omega | (simp <;> omega)) _))
  go_enter Tryd.func13, Tryd.ntmps13
  go_wp2_with fail
  go_loopw [3, 4] (fun z i wr => ∃ (k m : Nat), i = .int .i64 k ∧ z = .int .i64 m ∧ k ≤ kids.length ∧ m + brL o k (kids.drop k) = brL o 0 kids ∧ Own wr w.heap.size [.int .i64 o, .int .i64 nn, .slice ad kids.length cap] ∧ Below w.heap.size w wr) (fun _ i _ => kids.length - (intOf i).toNat)
  case atStart => exact ⟨0, 0, rfl, rfl, Nat.zero_le _, by simp, o2, hb1⟩
  case round =>
    obtain ⟨k, m, rfl, rfl, hkl, hsum, q1, q2⟩ := hrel
    obtain ⟨u0, u1, u2, -, -, -, uz⟩ := q1.three
    by_cases hk : k < kids.length
    · have t1 := ht.below q2
      obtain ⟨ad', cap', hv', -, ts⟩ := t1.shape
      have hadd : ad' = ad := by simp [Xp.o, Xp.n, Xp.ks] at hv'; exact hv'.1.symm
      subst hadd
      have ts' : Trees Q wr kids ad' 0 := ts
      obtain ⟨a, ad2, cap2, rfl, m0, m1, m2, tk, hab⟩ := ts'.reads k hk
      clear ts'
      have hwk : IntKind.i64.wrap ((k : Int) + 1) = (k : Int) + 1 := IntWalk.i64_in _ (by omega)
      have hcall := hIH k hk _ wr tk
      have hrk := rrank_x kids[k] (hokk k hk) ad2 kids[k].ks.length cap2
      have hst := brL_drop (o := o) hk
      rw [hst] at hsum
      have hlow : lowE o k kids[k] = decide (rankE kids[k] < leastO o k) := rfl
      generalize kids[k] = x at hcall hrk hsum m0 m1 m2 tk hlow
      clear hv' t1 ts hst tk
      generalize brN x = bx at hcall hsum
      generalize lowE o k x = lo at hsum hlow
      generalize rankE x = rx at hrk hlow
      generalize x.o = xo at hcall hrk m0
      generalize x.n = xn at hcall hrk m1
      generalize x.ks.length = xl at hcall hrk m2
      clear x
      have hw1 : IntKind.i64.wrap ((m : Int) + (bx : Int)) = (m : Int) + (bx : Int) := IntWalk.i64_in _ (by split at hsum <;> omega)
      have hw2 : IntKind.i64.wrap ((m : Int) + (bx : Int) + 1) = (m : Int) + (bx : Int) + 1 := IntWalk.i64_in _ (by split at hsum <;> omega)
      go_wp2_with fail
      refine hcall.mono ?_
      rintro e w2 ⟨rfl, kk⟩
      have q3 := q2.trans (kk.mono q2.size)
      replace q1 := q1.below kk
      have hab2 : (a.add (k * 3)).block < w2.heap.size := Nat.lt_of_lt_of_le hab kk.size
      have n0 : ∀ g : Grow w2, (up w2 g).cell? (a.add (k * 3)) = some (.int .i64 xo) := fun g => ((up_below w2 g).cell (p := a.add (k * 3)) hab2).trans ((kk.cell (p := a.add (k * 3)) hab).trans m0)
      have n1 : ∀ g : Grow w2, (up w2 g).cell? ⟨(a.add (k * 3)).block, (a.add (k * 3)).off + 1, none⟩ = some (.int .i64 xn) := fun g => ((up_below w2 g).cell (p := ⟨(a.add (k * 3)).block, (a.add (k * 3)).off + 1, none⟩) hab2).trans ((kk.cell (p := ⟨(a.add (k * 3)).block, (a.add (k * 3)).off + 1, none⟩) hab).trans m1)
      have n2 : ∀ g : Grow w2, (up w2 g).cell? ⟨(a.add (k * 3)).block, (a.add (k * 3)).off + 2, none⟩ = some (.slice ad2 xl cap2) := fun g => ((up_below w2 g).cell (p := ⟨(a.add (k * 3)).block, (a.add (k * 3)).off + 2, none⟩) hab2).trans ((kk.cell (p := ⟨(a.add (k * 3)).block, (a.add (k * 3)).off + 2, none⟩) hab).trans m2)
      obtain ⟨v0, v1, v2, -, -, -, vz⟩ := q1.three
      clear u0 u1 u2 m0 m1 m2 uz kk hcall hab hIH hokk ht hks
      go_wp2_with fail
      refine wp_region_up (by kernel_rfl) (by kernel_rfl) ?_
      repeat (go_big_quiet_step (first | (go_at_call 33; exact Ret.up (hrk _)) | (go_at_call 34; exact Ret.up (hroot _ _ _ k (by omega) _))))
      refine wpQuiet_nil ?_
      rintro w3 ⟨g, rfl⟩
      have hx3 := up_below w2 g
      replace q3 := q3.trans (hx3.mono q3.size)
      replace q1 := q1.below hx3
      clear n0 n1 n2 v0 v1 v2 vz hrk hroot hab2
      generalize up w2 g = w4 at q1 q3 hx3 ⊢
      clear hx3
      cases lo with
      | true =>
        have hp : rx < leastO o k := of_decide_eq_true hlow.symm
        have hlt : decide (rx < leastO o k) = true := hlow.symm
        clear hlow
        rw [if_pos rfl] at hsum
        go_wp2_with fail
        go_roundw
        case rel => exact ⟨k + 1, m + bx + 1, by go_num, by go_num, by omega, by omega, q1, q3⟩
        case measure => simp [intOf]; omega
      | false =>
        have hp : ¬ rx < leastO o k := of_decide_eq_false hlow.symm
        have hlt : decide (rx < leastO o k) = false := hlow.symm
        clear hlow
        rw [if_neg (by simp)] at hsum
        go_wp2_with fail
        go_roundw
        case rel => exact ⟨k + 1, m + bx, by go_num, by go_num, by omega, by omega, q1, q3⟩
        case measure => simp [intOf]; omega
    · have hkE : k = kids.length := by omega
      subst hkE
      rw [List.drop_length, brL_nil] at hsum
      have HS : Hid (m = brL o 0 kids) := Lib.hid (by omega)
      clear hIH hokk ht hks hroot hsum
      go_wp2_with fail
      go_ret
      exact Ret.mk (by rw [HS.out]; rfl) q2
set_option maxHeartbeats 3200000 in
theorem cho_any (Q : Nat → Prop) : ∀ (e : Xp) (v : Value) (w : World), okE e = true → cntE e ≤ 200 → Tree Q w e v → Calls Tryd.prog 14 #[v] w (Ret (.int .i64 (chN e : Nat)) w) := by
  intro e
  induction e using Xp.ind with
  | h o nn kids ih =>
  intro v w hok hcn ht
  obtain ⟨ad, cap, rfl, hlen, hks⟩ := ht.shape
  simp only [Xp.o, Xp.n, Xp.ks] at *
  have hle := chN_le (.mk o nn kids)
  rw [okE_mk, Bool.and_eq_true] at hok
  rw [cntE] at hcn hle
  have hkn := cntL_ge kids
  have hIH : ∀ (k : Nat) (hk : k < kids.length) (v2 : Value) (w2 : World), Tree Q w2 kids[k] v2 → Calls Tryd.prog 14 #[v2] w2 (Ret (.int .i64 (chN kids[k] : Nat)) w2) := fun k hk v2 w2 h2 => by
    have hm := List.getElem_mem hk
    exact ih kids[k] hm v2 w2 (okL_mem hok.2 _ hm) (by have := cnt_in hm; omega) h2
  clear ih hok
  rw [chN_mk] at hle ⊢
  obtain ⟨N, hN⟩ : ∃ N : Nat, (if o = 8 ∨ o = 9 then 1 else 0) + chL kids = N := ⟨_, rfl⟩
  rw [hN] at hle ⊢
  have o2 := Own.new w #[.int .i64 o, .int .i64 nn, .slice ad kids.length cap] 24
  have hb1 : Below w.heap.size w (w.alloc (.cells #[.int .i64 o, .int .i64 nn, .slice ad kids.length cap] 24)) := by (repeat (first | exact Below.refl _ _ | assumption | refine Below.drew ?_ | refine below_drewN ?_ _ | refine Below.setCell ?_ (by first | omega | (simp <;> omega)) _ | refine Below.alloc ?_ (by first | omega | (simp <;> omega)) _))
  have start : ∀ (m : Nat), m + chL kids = N → ∃ z : Nat, z + chL (kids.drop 0) = N := fun m h => ⟨m, by simpa using h⟩
  have body : ∀ b0 : Nat, b0 + chL kids = N → b0 + chL (kids.drop 0) = N := fun b0 h => by simpa using h
  have hcase : ∃ (b1 b2 : Bool) (b0 : Nat), (o == 8) = b1 ∧ (o == 9) = b2 ∧ b0 = (if (b1 || b2) = true then 1 else 0) ∧ b0 + chL kids = N := by
    refine ⟨_, _, _, rfl, rfl, rfl, ?_⟩
    rw [← hN]
    congr 1
    by_cases h : o = 8 ∨ o = 9
    · rw [if_pos h, if_pos]; rcases h with rfl | rfl <;> rfl
    · rw [if_neg h, if_neg]; simp; omega
  obtain ⟨b1, b2, b0, e1, e2, e3, e4⟩ := hcase
  clear start hN
  cases b1 <;> cases b2
  all_goals
    simp only [Bool.or_self, Bool.or_true, Bool.or_false, if_true, if_false, Bool.false_eq_true] at e3
    subst e3
    have hbd := body _ e4
    clear body e4
    go_enter Tryd.func14, Tryd.ntmps14
    go_wp2_with fail
    go_loopw [3, 4] (fun z i wr => ∃ (k m : Nat), i = .int .i64 k ∧ z = .int .i64 m ∧ k ≤ kids.length ∧ m + chL (kids.drop k) = N ∧ Own wr w.heap.size [.int .i64 o, .int .i64 nn, .slice ad kids.length cap] ∧ Below w.heap.size w wr) (fun _ i _ => kids.length - (intOf i).toNat)
    case atStart => exact ⟨0, _, rfl, rfl, Nat.zero_le _, hbd, o2, hb1⟩
    case round =>
      obtain ⟨k, m, rfl, rfl, hkl, hsum, q1, q2⟩ := hrel
      obtain ⟨u0, u1, u2, -, -, -, uz⟩ := q1.three
      by_cases hk : k < kids.length
      · have t1 := ht.below q2
        obtain ⟨ad', cap', hv', -, ts⟩ := t1.shape
        have hadd : ad' = ad := by simp [Xp.o, Xp.n, Xp.ks] at hv'; exact hv'.1.symm
        subst hadd
        have ts' : Trees Q wr kids ad' 0 := ts
        obtain ⟨a, ad2, cap2, rfl, m0, m1, m2, tk, hab⟩ := ts'.reads k hk
        clear ts'
        have hwk : IntKind.i64.wrap ((k : Int) + 1) = (k : Int) + 1 := IntWalk.i64_in _ (by omega)
        have hcall := hIH k hk _ wr tk
        rw [chL_drop hk] at hsum
        generalize kids[k] = x at hcall hsum m0 m1 m2 tk
        clear hv' t1 ts tk
        generalize chN x = bx at hcall hsum
        generalize x.o = xo at hcall m0
        generalize x.n = xn at hcall m1
        generalize x.ks.length = xl at hcall m2
        clear x
        have hw1 : IntKind.i64.wrap ((m : Int) + (bx : Int)) = (m : Int) + (bx : Int) := IntWalk.i64_in _ (by omega)
        go_wp2_with fail
        refine hcall.mono ?_
        rintro e w2 ⟨rfl, kk⟩
        have q3 := q2.trans (kk.mono q2.size)
        replace q1 := q1.below kk
        clear u0 u1 u2 m0 m1 m2 uz kk hcall hab
        go_wp2_with fail
        go_roundw
        case rel => exact ⟨k + 1, m + bx, by go_num, by go_num, by omega, by omega, q1, q3⟩
        case measure => simp [intOf]; omega
      · have hkE : k = kids.length := by omega
        subst hkE
        rw [List.drop_length, chL_nil] at hsum
        have HS : Hid (m = N) := Lib.hid (by omega)
        clear hIH ht hks hsum
        go_wp2_with fail
        go_ret
        exact Ret.mk (by rw [HS.out]; rfl) q2
end Go.Proofs.YtlkefcbkpohpgaaDoor
namespace Go.Proofs.YtlkefcbkpohpgaaDoor
open Go.RowKit Go.Shelf
set_option maxRecDepth 100000

def vS9 (s : List UInt8) : Value := .string ⟨s.toArray⟩
theorem infoStr9 : (Tryd.prog.info? 9).map (fun i => (i.zero, i.size, i.bytes)) = some (some (.string ⟨#[]⟩), 1, 16) := by kernel_rfl
theorem bel_d9 {w0 w : World} (h : Below w0.heap.size w0 w) (n : Nat) : Below w0.heap.size w0 (w.drewN n) := h.trans (((⟨rfl, rfl, rfl, Nat.le_refl _, fun _ _ => rfl⟩ : Below w.heap.size w (w.drewN n))).mono h.size)
theorem own_bas9 {w w' : World} {B base : Nat} {xs : List Value} (h : Own w B xs) (hb : Below base w w') (hB : B < base) : Own w' B xs :=
  ⟨fun i v hi => (World.cell?_of_block (w := w) (hb.block B hB)).trans (h.cell i v hi), fun i v hi => (World.frozen?_of_block (w := w) (hb.block B hB)).trans (h.fro i v hi), Nat.lt_of_lt_of_le h.lt hb.size⟩
theorem row_own9 {w : World} {base n : Nat} {v : Value} {ss : List (List UInt8)} (h : Dg.OwnRow w base 9 v (ss.map vS9)) (hl : ss.length = n) (h0 : 0 < n) (hn : n ≤ 200) :
    ∃ g cap, v = .slice (some ⟨g, 0, none⟩) n cap ∧ ∀ j (hj : j < ss.length), w.cell? ⟨g, j, none⟩ = some (.string ⟨ss[j].toArray⟩) := by
  have hr := Dg.Row.of_own h (by simp; omega)
  obtain ⟨_, ⟨_, h2⟩ | ⟨g, cap', cur, hv, -⟩⟩ := h
  · simp at h2; subst h2; simp at hl; omega
  · subst hl
    rw [List.length_map] at hv
    refine ⟨g, _, hv, fun j hj => ?_⟩
    obtain ⟨a, e, _, h3⟩ := hr.cells _ _ _ hv j (by simpa using hj)
    cases e
    rw [Dg.add_zero0] at h3
    rw [h3]; simp [vS9]
theorem str_eq9 {b : ByteArray} {l : List UInt8} (h : b = ⟨l.toArray⟩) : Value.string b = .string ⟨l.toArray⟩ := by rw [h]
theorem txtL_drop {o : Int} {l : List Xp} {k : Nat} (hk : k < l.length) : txtL o k (l.drop k) = brkS (lowE o k l[k]) (txtE l[k]) :: txtL o (k + 1) (l.drop (k + 1)) := by rw [List.drop_eq_getElem_cons hk, txtL_cons]
theorem okL_of {l : List Xp} (h : okL l = true) : ∀ e ∈ l, okE e = true := okL_mem h
/-- an operator between blanks -/
theorem rsign_any (k : Nat) (h : k = 4 ∨ k = 5 ∨ k = 6 ∨ k = 7 ∨ k = 11 ∨ k = 12 ∨ k = 13 ∨ k = 14) (w : World) : Calls Tryd.prog 48 #[.int .i64 (k : Nat)] w (Same (.string ⟨(32 :: (sgnO (k : Int) ++ [32])).toArray⟩) w) := by
  rcases h with rfl | rfl | rfl | rfl | rfl | rfl | rfl | rfl
  all_goals
    go_enter Tryd.func48, Tryd.ntmps48
    go_wp2_with fail
    go_ret
    exact ⟨rfl, rfl⟩
theorem sgn_len (o : Int) : (sgnO o).length ≤ 3 := by unfold sgnO; repeat' split
                                                      all_goals decide
theorem okE_len {e : Xp} (h : okE e = true) : (txtE e).length + 2 ≤ 22 * cntE e := by
  obtain ⟨k, hk⟩ := pt_of e h
  exact (pt_count hk).2
set_option maxHeartbeats 6400000 in
theorem rtx_any (Q : Nat → Prop) : ∀ (e : Xp) (v : Value) (w : World), okE e = true → cntE e ≤ 200 → Tree Q w e v → Calls Tryd.prog 26 #[v] w (Ret (.string ⟨(txtE e).toArray⟩) w) := by
  intro e
  induction e using Xp.ind with
  | h o nn kids ih =>
  intro v w hok hcn ht
  have hroot := rleast_x (.mk o nn kids) hok
  have hshape := node_shape hok
  obtain ⟨ad, cap, rfl, hlen, hks⟩ := ht.shape
  simp only [Xp.o, Xp.n, Xp.ks] at *
  rw [okE_mk, Bool.and_eq_true] at hok
  rw [cntE] at hcn
  have hkn := cntL_ge kids
  have hokk : ∀ (k : Nat) (hk : k < kids.length), okE kids[k] = true := fun k hk => okL_mem hok.2 _ (List.getElem_mem hk)
  have hIH : ∀ (k : Nat) (hk : k < kids.length) (v2 : Value) (w2 : World), Tree Q w2 kids[k] v2 → Calls Tryd.prog 26 #[v2] w2 (Ret (.string ⟨(txtE kids[k]).toArray⟩) w2) := fun k hk v2 w2 h2 => by
    have hm := List.getElem_mem hk
    exact ih kids[k] hm v2 w2 (okL_mem hok.2 _ hm) (by have := cnt_in hm; omega) h2
  have hln : ∀ (k : Nat) (hk : k < kids.length), (txtE kids[k]).length ≤ 4400 := fun k hk => by
    have h1 := okE_len (hokk k hk)
    have := cnt_in (List.getElem_mem hk)
    omega
  clear ih hok
  have o2 := Own.new w #[.int .i64 o, .int .i64 nn, .slice ad kids.length cap] 24
  have hb1 : Below w.heap.size w (w.alloc (.cells #[.int .i64 o, .int .i64 nn, .slice ad kids.length cap] 24)) := by (repeat (first | exact Below.refl _ _ | assumption | refine Below.drew ?_ | refine below_drewN ?_ _ | refine Below.setCell ?_ (by first | omega | (simp <;> omega)) _ | refine Below.alloc ?_ (by first | omega | (simp <;> omega)) _))
  rw [txtE_mk]
  rcases hshape with ⟨rfl, rfl, a, rfl, ha⟩ | ⟨rfl, rfl, a, rfl, ha⟩ | ⟨rfl, rfl, hn⟩ | hrest
  · go_enter Tryd.func26, Tryd.ntmps26
    go_wp2_with fail
    refine (rdec_any a (by omega) _).mono ?_
    rintro e w1 ⟨rfl, hx⟩
    go_wp2_with fail
    go_ret
    exact Ret.mk rfl (hb1.trans (hx.mono hb1.size))
  · go_enter Tryd.func26, Tryd.ntmps26
    go_wp2_with fail
    refine (rtext_any a ha _).mono ?_
    rintro e w1 ⟨rfl, hx⟩
    go_wp2_with fail
    go_ret
    exact Ret.mk rfl (hb1.trans (hx.mono hb1.size))
  · rcases hn with rfl | rfl | rfl | rfl
    all_goals
      go_enter Tryd.func26, Tryd.ntmps26
      go_wp2_with fail
      go_ret
      exact Ret.mk rfl (by (repeat (first | exact Below.refl _ _ | assumption | refine Below.drew ?_ | refine below_drewN ?_ _ | refine Below.setCell ?_ (by first | omega | (simp <;> omega)) _ | refine Below.alloc ?_ (by first | omega | (simp <;> omega)) _)))
  · have h123 : o ≠ 1 ∧ o ≠ 2 ∧ o ≠ 3 := by rcases hrest with ⟨h, -⟩ | ⟨h, -⟩ | ⟨h, -⟩ <;> omega
    have e1 : (o == 1) = false := beq_eq_false_iff_ne.2 h123.1
    have e2 : (o == 2) = false := beq_eq_false_iff_ne.2 h123.2.1
    have e3 : (o == 3) = false := beq_eq_false_iff_ne.2 h123.2.2
    go_enter Tryd.func26, Tryd.ntmps26
    go_wp2_with fail
    clear e1 e2 e3
    go_loopw [5, 6, 7] (fun z i _ wr => ∃ (k : Nat) (ss : List (List UInt8)), i = .int .i64 k ∧ k ≤ kids.length ∧ ss.length = k ∧ ss ++ txtL o k (kids.drop k) = txtL o 0 kids ∧ (∀ s ∈ ss, s.length ≤ 4402) ∧ Dg.OwnRow wr (w.heap.size + 1) 9 z (ss.map vS9) ∧ Own wr w.heap.size [.int .i64 o, .int .i64 nn, .slice ad kids.length cap] ∧ Below w.heap.size w wr ∧ w.heap.size + 1 ≤ wr.heap.size) (fun _ i _ _ => kids.length - (intOf i).toNat)
    case atStart => exact ⟨0, [], rfl, Nat.zero_le _, rfl, rfl, by simp, Dg.OwnRow.nil _ _ _, o2, hb1, by simp⟩
    case round =>
      obtain ⟨k, ss, rfl, hkl, hsl, hss, hsz, hown, q1, q2, q4⟩ := hrel
      obtain ⟨u0, u1, u2, -, -, -, uz⟩ := q1.three
      by_cases hk : k < kids.length
      · have t1 := ht.below q2
        obtain ⟨ad', cap', hv', -, ts⟩ := t1.shape
        have hadd : ad' = ad := by simp [Xp.o, Xp.n, Xp.ks] at hv'; exact hv'.1.symm
        subst hadd
        have ts' : Trees Q wr kids ad' 0 := ts
        obtain ⟨a, ad2, cap2, rfl, m0, m1, m2, tk, hab⟩ := ts'.reads k hk
        clear ts'
        have hwk : IntKind.i64.wrap ((k : Int) + 1) = (k : Int) + 1 := IntWalk.i64_in _ (by omega)
        have hcall := hIH k hk _ wr tk
        have hrk := rrank_x kids[k] (hokk k hk) ad2 kids[k].ks.length cap2
        have hl4 := hln k hk
        rw [txtL_drop hk] at hss
        have hlow : lowE o k kids[k] = decide (rankE kids[k] < leastO o k) := rfl
        generalize kids[k] = x at hcall hrk hss m0 m1 m2 tk hlow hl4
        clear hv' t1 ts tk
        generalize txtE x = tx at hcall hss hl4
        generalize lowE o k x = lo at hss hlow
        generalize rankE x = rx at hrk hlow
        generalize x.o = xo at hcall hrk m0
        generalize x.n = xn at hcall hrk m1
        generalize x.ks.length = xl at hcall hrk m2
        clear x
        go_wp2_with fail
        refine hcall.mono ?_
        rintro e w2 ⟨rfl, kk⟩
        have q3 := q2.trans (kk.mono q2.size)
        replace q1 := q1.below kk
        replace hown := Dg.own_below hown kk
        have hab2 : (a.add (k * 3)).block < w2.heap.size := Nat.lt_of_lt_of_le hab kk.size
        have n0 : ∀ g : Grow w2, (up w2 g).cell? (a.add (k * 3)) = some (.int .i64 xo) := fun g => ((up_below w2 g).cell (p := a.add (k * 3)) hab2).trans ((kk.cell (p := a.add (k * 3)) hab).trans m0)
        have n1 : ∀ g : Grow w2, (up w2 g).cell? ⟨(a.add (k * 3)).block, (a.add (k * 3)).off + 1, none⟩ = some (.int .i64 xn) := fun g => ((up_below w2 g).cell (p := ⟨(a.add (k * 3)).block, (a.add (k * 3)).off + 1, none⟩) hab2).trans ((kk.cell (p := ⟨(a.add (k * 3)).block, (a.add (k * 3)).off + 1, none⟩) hab).trans m1)
        have n2 : ∀ g : Grow w2, (up w2 g).cell? ⟨(a.add (k * 3)).block, (a.add (k * 3)).off + 2, none⟩ = some (.slice ad2 xl cap2) := fun g => ((up_below w2 g).cell (p := ⟨(a.add (k * 3)).block, (a.add (k * 3)).off + 2, none⟩) hab2).trans ((kk.cell (p := ⟨(a.add (k * 3)).block, (a.add (k * 3)).off + 2, none⟩) hab).trans m2)
        obtain ⟨v0, v1, v2, -, -, -, vz⟩ := q1.three
        have q5 : w.heap.size + 1 ≤ w2.heap.size := Nat.le_trans q4 kk.size
        clear u0 u1 u2 m0 m1 m2 uz kk hcall hab q2 q4
        go_wp2_with fail
        refine wp_region_up (by kernel_rfl) (by kernel_rfl) ?_
        repeat (go_big_quiet_step (first | (go_at_call 33; exact Ret.up (hrk _)) | (go_at_call 34; exact Ret.up (hroot _ _ _ k (by omega) _))))
        refine wpQuiet_nil ?_
        rintro w3 ⟨g, rfl⟩
        have hx3 := up_below w2 g
        replace q3 := q3.trans (hx3.mono q3.size)
        replace q1 := q1.below hx3
        replace hown := Dg.own_below hown hx3
        replace q5 : w.heap.size + 1 ≤ (up w2 g).heap.size := Nat.le_trans q5 hx3.size
        clear n0 n1 n2 v0 v1 v2 vz hrk hab2
        generalize up w2 g = w4 at q1 q3 q5 hown hx3 ⊢
        clear hx3
        have hl1 : (ss.map vS9).length ≤ 200 := by simp; omega
        have stepE : ∀ (b : Bool) (t : List UInt8), b = lo → t = brkS b tx → (ss ++ [t]) ++ txtL o (k + 1) (kids.drop (k + 1)) = txtL o 0 kids := fun b t hb ht2 => by rw [List.append_assoc, ht2, hb]; exact hss
        have hbl := brk_len lo tx
        cases lo with
        | true =>
          have hp : rx < leastO o k := of_decide_eq_true hlow.symm
          have hlt : decide (rx < leastO o k) = true := hlow.symm
          have hz1 : ¬ (9223372036854775807 < 1 + tx.length) := by omega
          have hz2 : ¬ (9223372036854775807 < (1 : Int) + (tx.length : Int)) := by omega
          have hz3 : ¬ (9223372036854775807 < 1 + tx.length + 1) := by omega
          have hz4 : ¬ (9223372036854775807 < (1 : Int) + (tx.length : Int) + 1) := by omega
          have hbb : ((⟨#[40]⟩ : ByteArray) ++ ⟨tx.toArray⟩) ++ ⟨#[41]⟩ = ⟨(brkS true tx).toArray⟩ := by
            apply ByteArray.ext; simp [ByteArray.data_append, brkS]
          have HBB := Lib.hid hbb
          have hnx := stepE true (brkS true tx) rfl rfl
          clear hlow hbb stepE hss
          go_wp2_with (at_builtin; rw [HBB.out]; refine Dg.app_row _ rfl _ _ 81 rfl (w.heap.size + 1) 9 (.string ⟨#[]⟩) 16 Tryd.underlying81 infoStr9 rfl (by decide) _ (ss.map vS9) rfl (Dg.own_below hown ((Below.refl _ w4).alloc (Nat.le_refl _) _)) _ [vS9 (brkS true tx)] rfl (Dg.byte_row (Own.new _ #[vS9 (brkS true tx)] _)) (by intro u hu; simp at hu; subst hu; rfl) (by simp; omega) (by simp; omega) ?_; intro v3 w5 hown3 hx5; refine Hid.out ?_)
          have q6 : Below w.heap.size w w5 := by
            have a1 := (Below.refl w4.heap.size w4).alloc (Nat.le_refl _) (.cells #[vS9 (brkS true tx)] 9)
            exact q3.trans ((a1.mono q3.size).trans (hx5.mono (by omega)))
          have q7 : Own w5 w.heap.size [.int .i64 o, .int .i64 nn, .slice (some a) kids.length cap] := own_bas9 (q1.below ((Below.refl w4.heap.size w4).alloc (Nat.le_refl _) (.cells #[vS9 (brkS true tx)] 9))) hx5 (by omega)
          have q8 : w.heap.size + 1 ≤ w5.heap.size := by have := hx5.size; simp at this; omega
          clear hx5 q1 q3 hown
          refine Lib.hid ?_
          go_wp2_with fail
          go_roundw
          case rel => exact ⟨k + 1, ss ++ [brkS true tx], by go_num, by omega, by simp; omega, hnx, (fun s hs => by rcases List.mem_append.1 hs with h | h; exact hsz s h; rw [List.mem_singleton.1 h]; omega), by rw [List.map_append]; exact hown3, q7, q6, q8⟩
          case measure => simp [intOf]; omega
        | false =>
          have hp : ¬ rx < leastO o k := of_decide_eq_false hlow.symm
          have hlt : decide (rx < leastO o k) = false := hlow.symm
          have hnx := stepE false (brkS false tx) rfl rfl
          clear hlow stepE hss
          go_wp2_with (at_builtin; refine Dg.app_row _ rfl _ _ 81 rfl (w.heap.size + 1) 9 (.string ⟨#[]⟩) 16 Tryd.underlying81 infoStr9 rfl (by decide) _ (ss.map vS9) rfl (Dg.own_below hown ((Below.refl _ w4).alloc (Nat.le_refl _) _)) _ [vS9 tx] rfl (Dg.byte_row (Own.new _ #[vS9 tx] _)) (by intro u hu; simp at hu; subst hu; rfl) (by simp; omega) (by simp; omega) ?_; intro v3 w5 hown3 hx5; refine Hid.out ?_)
          have q6 : Below w.heap.size w w5 := by
            have a1 := (Below.refl w4.heap.size w4).alloc (Nat.le_refl _) (.cells #[vS9 tx] 9)
            exact q3.trans ((a1.mono q3.size).trans (hx5.mono (by omega)))
          have q7 : Own w5 w.heap.size [.int .i64 o, .int .i64 nn, .slice (some a) kids.length cap] := own_bas9 (q1.below ((Below.refl w4.heap.size w4).alloc (Nat.le_refl _) (.cells #[vS9 tx] 9))) hx5 (by omega)
          have q8 : w.heap.size + 1 ≤ w5.heap.size := by have := hx5.size; simp at this; omega
          clear hx5 q1 q3 hown
          refine Lib.hid ?_
          go_wp2_with fail
          go_roundw
          case rel => exact ⟨k + 1, ss ++ [tx], by go_num, by omega, by simp; omega, hnx, (fun s hs => by rcases List.mem_append.1 hs with h | h; exact hsz s h; rw [List.mem_singleton.1 h]; omega), by rw [List.map_append]; exact hown3, q7, q6, q8⟩
          case measure => simp [intOf]; omega
      · have hkE : k = kids.length := by omega
        subst hkE
        clear hIH hks ht hokk hln hroot
        rw [List.drop_length, txtL_nil, List.append_nil] at hss
        rcases hrest with ⟨rfl, rfl, x, rfl, -⟩ | ⟨rfl, rfl, x, y, z, rfl, -⟩ | ⟨ho, rfl, x, y, rfl, -⟩
        · match ss, hsl with
          | [s], _ =>
            obtain ⟨g3, cap3, rfl, hc3⟩ := row_own9 (n := 1) hown rfl (by decide) (by decide)
            have r0 := hc3 0 (by simp)
            simp only [List.getElem_cons_zero] at r0
            have z_s := hsz s (by simp)
            have HSS := Lib.hid hss
            clear hown hc3 hsz hss
            have nz0 : ¬ (9223372036854775807 < 4 + s.length) := by omega
            have mz0 : ¬ (9223372036854775807 < (4 : Int) + (s.length : Int)) := by omega
            go_wp2_with fail
            go_ret
            exact Ret.mk (by rw [← HSS.out]; exact str_eq9 (by apply ByteArray.ext; simp [ByteArray.data_append, shapeT, wNot])) q2
        · match ss, hsl with
          | [s, t, u], _ =>
            obtain ⟨g3, cap3, rfl, hc3⟩ := row_own9 (n := 3) hown rfl (by decide) (by decide)
            have r0 := hc3 0 (by simp)
            have r1 := hc3 1 (by simp)
            have r2 := hc3 2 (by simp)
            simp only [List.getElem_cons_zero, List.getElem_cons_succ] at r0 r1 r2
            have z_s := hsz s (by simp)
            have z_t := hsz t (by simp)
            have z_u := hsz u (by simp)
            have HSS := Lib.hid hss
            clear hown hc3 hsz hss
            have nz0 : ¬ (9223372036854775807 < 3 + s.length) := by omega
            have mz0 : ¬ (9223372036854775807 < (3 : Int) + (s.length : Int)) := by omega
            have nz1 : ¬ (9223372036854775807 < 3 + s.length + 6) := by omega
            have mz1 : ¬ (9223372036854775807 < (3 : Int) + (s.length : Int) + 6) := by omega
            have nz2 : ¬ (9223372036854775807 < 3 + s.length + 6 + t.length) := by omega
            have mz2 : ¬ (9223372036854775807 < (3 : Int) + (s.length : Int) + 6 + (t.length : Int)) := by omega
            have nz3 : ¬ (9223372036854775807 < 3 + s.length + 6 + t.length + 6) := by omega
            have mz3 : ¬ (9223372036854775807 < (3 : Int) + (s.length : Int) + 6 + (t.length : Int) + 6) := by omega
            have nz4 : ¬ (9223372036854775807 < 3 + s.length + 6 + t.length + 6 + u.length) := by omega
            have mz4 : ¬ (9223372036854775807 < (3 : Int) + (s.length : Int) + 6 + (t.length : Int) + 6 + (u.length : Int)) := by omega
            go_wp2_with fail
            go_quiet (fail)
            go_wp2_with fail
            go_ret
            exact Ret.mk (by rw [← HSS.out]; exact str_eq9 (by apply ByteArray.ext; simp [ByteArray.data_append, shapeT, wIf, wThen, wElse])) (bel_d9 q2 _)
        · match ss, hsl with
          | [s, t], _ =>
            obtain ⟨g3, cap3, rfl, hc3⟩ := row_own9 (n := 2) hown rfl (by decide) (by decide)
            have r0 := hc3 0 (by simp)
            have r1 := hc3 1 (by simp)
            simp only [List.getElem_cons_zero, List.getElem_cons_succ] at r0 r1
            have z_s := hsz s (by simp)
            have z_t := hsz t (by simp)
            have HSS := Lib.hid hss
            clear hown hc3 hsz hss
            rcases ho with rfl | rfl | ho
            · have nz0 : ¬ (9223372036854775807 < 4 + s.length) := by omega
              have mz0 : ¬ (9223372036854775807 < (4 : Int) + (s.length : Int)) := by omega
              have nz1 : ¬ (9223372036854775807 < 4 + s.length + 2) := by omega
              have mz1 : ¬ (9223372036854775807 < (4 : Int) + (s.length : Int) + 2) := by omega
              have nz2 : ¬ (9223372036854775807 < 4 + s.length + 2 + t.length) := by omega
              have mz2 : ¬ (9223372036854775807 < (4 : Int) + (s.length : Int) + 2 + (t.length : Int)) := by omega
              have nz3 : ¬ (9223372036854775807 < 4 + s.length + 2 + t.length + 1) := by omega
              have mz3 : ¬ (9223372036854775807 < (4 : Int) + (s.length : Int) + 2 + (t.length : Int) + 1) := by omega
              go_wp2_with fail
              go_quiet (fail)
              go_wp2_with fail
              go_ret
              exact Ret.mk (by rw [← HSS.out]; exact str_eq9 (by apply ByteArray.ext; simp [ByteArray.data_append, shapeT, wMin])) (bel_d9 q2 _)
            · have nz0 : ¬ (9223372036854775807 < 4 + s.length) := by omega
              have mz0 : ¬ (9223372036854775807 < (4 : Int) + (s.length : Int)) := by omega
              have nz1 : ¬ (9223372036854775807 < 4 + s.length + 2) := by omega
              have mz1 : ¬ (9223372036854775807 < (4 : Int) + (s.length : Int) + 2) := by omega
              have nz2 : ¬ (9223372036854775807 < 4 + s.length + 2 + t.length) := by omega
              have mz2 : ¬ (9223372036854775807 < (4 : Int) + (s.length : Int) + 2 + (t.length : Int)) := by omega
              have nz3 : ¬ (9223372036854775807 < 4 + s.length + 2 + t.length + 1) := by omega
              have mz3 : ¬ (9223372036854775807 < (4 : Int) + (s.length : Int) + 2 + (t.length : Int) + 1) := by omega
              go_wp2_with fail
              go_quiet (fail)
              go_wp2_with fail
              go_ret
              exact Ret.mk (by rw [← HSS.out]; exact str_eq9 (by apply ByteArray.ext; simp [ByteArray.data_append, shapeT, wMax])) (bel_d9 q2 _)
            · obtain ⟨kk, rfl, hkk⟩ : ∃ kk : Nat, o = kk ∧ (kk = 4 ∨ kk = 5 ∨ kk = 6 ∨ kk = 7 ∨ kk = 11 ∨ kk = 12 ∨ kk = 13 ∨ kk = 14) := ⟨o.toNat, by omega, by omega⟩
              have hsg := fun w1 => rsign_any kk hkk w1
              have hsl2 := sgn_len (kk : Int)
              have hfin : ∀ a b : List UInt8, shapeT (kk : Int) 0 [a, b] = a ++ (32 :: (sgnO (kk : Int) ++ [32])) ++ b := fun a b => by rcases hkk with rfl | rfl | rfl | rfl | rfl | rfl | rfl | rfl <;> simp [shapeT]
              have hgl : (32 :: (sgnO (kk : Int) ++ [32])).length ≤ 5 := by simp; omega
              have HFIN := Lib.hid hfin
              generalize hG : 32 :: (sgnO (kk : Int) ++ [32]) = G at hsg hgl
              have HG := Lib.hid hG
              clear hfin hG
              have f8 : ((kk : Int) == 8) = false := beq_eq_false_iff_ne.2 (by omega)
              have f9 : ((kk : Int) == 9) = false := beq_eq_false_iff_ne.2 (by omega)
              have f10 : ((kk : Int) == 10) = false := beq_eq_false_iff_ne.2 (by omega)
              have f15 : ((kk : Int) == 15) = false := beq_eq_false_iff_ne.2 (by omega)
              have nz0 : ¬ (9223372036854775807 < s.length + G.length) := by omega
              have mz0 : ¬ (9223372036854775807 < (s.length : Int) + (G.length : Int)) := by omega
              have nz1 : ¬ (9223372036854775807 < s.length + G.length + t.length) := by omega
              have mz1 : ¬ (9223372036854775807 < (s.length : Int) + (G.length : Int) + (t.length : Int)) := by omega
              go_wp2_with fail
              go_quiet ((go_at_call 48; exact (hsg _).mono fun _ _ ⟨he, hw⟩ => ⟨he, _, hw.symm⟩))
              go_wp2_with fail
              go_ret
              exact Ret.mk (by rw [← HSS.out, HFIN.out, HG.out]; exact str_eq9 (by apply ByteArray.ext; simp [ByteArray.data_append])) (bel_d9 q2 _)
end Go.Proofs.YtlkefcbkpohpgaaDoor
