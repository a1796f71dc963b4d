/-
  The reference's Brackets and Choices.
-/
import Derived.Test.YtlkefcbkpohpgaaDoorPrnExp
import Derived.Test.YtlkefcbkpohpgaaDoorPrnCnt
import Derived.Test.YtlkefcbkpohpgaaDoorParSize
namespace Go.Proofs.YtlkefcbkpohpgaaDoor
open Go.RowKit Go.Shelf
set_option maxRecDepth 100000

theorem range_15 {k : Nat} (h1 : 1 ≤ k) (h2 : k ≤ 15) : k = 1 ∨ k = 2 ∨ k = 3 ∨ k = 4 ∨ k = 5 ∨ k = 6 ∨ k = 7 ∨ k = 8 ∨ k = 9 ∨ k = 10 ∨ k = 11 ∨ k = 12 ∨ k = 13 ∨ k = 14 ∨ k = 15 := by omega
set_option maxHeartbeats 2000000 in
theorem rrank_any (k : Nat) (h1 : 1 ≤ k) (h2 : k ≤ 15) (n : Int) (ad : Option Addr) (len cap : Nat) (w : World) : Calls Tryd.prog 33 #[.agg #[.int .i64 (k : Nat), .int .i64 n, .slice ad len cap]] w (Ret (.int .i64 (rankO (k : Int) : Nat)) w) := by
  rcases range_15 h1 h2 with rfl | rfl | rfl | rfl | rfl | rfl | rfl | rfl | rfl | rfl | rfl | rfl | rfl | rfl | rfl
  all_goals
    go_enter Tryd.func33, Tryd.ntmps33
    go_wp2_with fail
    go_ret
    exact Ret.mk rfl (by (repeat (first | exact Below.refl _ _ | assumption | refine Below.drew ?_ | refine below_drewN ?_ _ | refine Below.setCell ?_ (by first | omega | (simp <;> omega)) _ | refine Below.alloc ?_ (by first | omega | (simp <;> omega)) _)))
theorem alB9 (w : World) (o : Obj) : Below w.heap.size w (w.alloc o) := Below.alloc (Below.refl _ _) (Nat.le_refl _) o
theorem rank_8 (o : Int) : rankO o = 0 ∨ rankO o = 1 ∨ rankO o = 2 ∨ rankO o = 3 ∨ rankO o = 4 ∨ rankO o = 5 ∨ rankO o = 6 ∨ rankO o = 7 := by have := rank_le o; omega
set_option maxHeartbeats 2000000 in
theorem rleast_any (k : Nat) (h1 : 1 ≤ k) (h2 : k ≤ 15) (n : Int) (ad : Option Addr) (len cap : Nat) (i : Nat) (hi : i ≤ 1000) (w : World) : Calls Tryd.prog 34 #[.agg #[.int .i64 (k : Nat), .int .i64 n, .slice ad len cap], .int .i64 (i : Nat)] w (Ret (.int .i64 (leastO (k : Int) i : Nat)) w) := by
  have hr := fun w1 => rrank_any k h1 h2 n ad len cap w1
  unfold leastO
  have h8 := rank_8 (k : Int)
  generalize rankO (k : Int) = r at hr h8 ⊢
  rcases h8 with rfl | rfl | rfl | rfl | rfl | rfl | rfl | rfl
  all_goals
    go_enter Tryd.func34, Tryd.ntmps34
    go_wp2_with fail
    refine (hr _).mono ?_
    rintro e w1 ⟨rfl, hx⟩
    try have hwr := IntWalk.i64_in (1 + (i : Int)) (by omega)
    try have hwr2 := IntWalk.i64_in (2 + (i : Int)) (by omega)
    try have hwr5 := IntWalk.i64_in (5 + (i : Int)) (by omega)
    try have hwr6 := IntWalk.i64_in (6 + (i : Int)) (by omega)
    go_wp2_with fail
    go_ret
    exact Ret.mk (by simp) ((alB9 w _).trans (hx.mono (by simp)))

theorem rrank_x (x : Xp) (hx : okE x = true) (ad : Option Addr) (len cap : Nat) (w : World) : Calls Tryd.prog 33 #[.agg #[.int .i64 x.o, .int .i64 x.n, .slice ad len cap]] w (Ret (.int .i64 (rankE x : Nat)) w) := by
  obtain ⟨k, hk, h1, h2⟩ := op_range hx
  have h3 := rank_at x hk
  rw [hk, ← h3]
  exact rrank_any k h1 h2 _ _ _ _ _
theorem rleast_x (x : Xp) (hx : okE x = true) (ad : Option Addr) (len cap : Nat) (i : Nat) (hi : i ≤ 1000) (w : World) : Calls Tryd.prog 34 #[.agg #[.int .i64 x.o, .int .i64 x.n, .slice ad len cap], .int .i64 (i : Nat)] w (Ret (.int .i64 (leastO x.o i : Nat)) w) := by
  obtain ⟨k, hk, h1, h2⟩ := op_range hx
  rw [hk]
  exact rleast_any k h1 h2 _ _ _ _ i hi _
theorem brL_le : ∀ (l : List Xp) (o : Int) (i : Nat), (∀ e ∈ l, brN e + 2 ≤ 2 * cntE e) → brL o i l ≤ 2 * cntL l
  | [], o, i, _ => by rw [brL_nil]; omega
  | e :: r, o, i, h => by
    rw [brL_cons, cntL]
    have h1 := h e (by simp)
    have h2 := brL_le r o (i + 1) (fun x hx => h x (by simp [hx]))
    split <;> omega
theorem brN_le (e : Xp) : brN e + 2 ≤ 2 * cntE e := by
  induction e using Xp.ind with
  | h o n l ih =>
    rw [brN_mk, cntE]
    have := brL_le l o 0 ih
    omega
theorem chL_le : ∀ (l : List Xp), (∀ e ∈ l, chN e ≤ cntE e) → chL l ≤ cntL l
  | [], _ => by rw [chL_nil]; omega
  | e :: r, h => by
    rw [chL_cons, cntL]
    have h1 := h e (by simp)
    have h2 := chL_le r (fun x hx => h x (by simp [hx]))
    omega
theorem chN_le (e : Xp) : chN e ≤ cntE e := by
  induction e using Xp.ind with
  | h o n l ih =>
    rw [chN_mk, cntE]
    have := chL_le l ih
    split <;> omega
theorem brL_drop {o : Int} {l : List Xp} {k : Nat} (hk : k < l.length) : brL o k (l.drop k) = brN l[k] + (if lowE o k l[k] = true then 1 else 0) + brL o (k + 1) (l.drop (k + 1)) := by rw [List.drop_eq_getElem_cons hk, brL_cons]
theorem chL_drop {l : List Xp} {k : Nat} (hk : k < l.length) : chL (l.drop k) = chN l[k] + chL (l.drop (k + 1)) := by rw [List.drop_eq_getElem_cons hk, chL_cons]
theorem cnt_in : ∀ {l : List Xp} {e : Xp}, e ∈ l → cntE e ≤ cntL l
  | x :: r, e, h => by
    simp only [cntL]
    rcases List.mem_cons.1 h with rfl | h
    · omega
    · have := cnt_in h; omega
theorem cntL_ge : ∀ l : List Xp, l.length ≤ cntL l
  | [] => by simp [cntL]
  | e :: r => by
    have := cntL_ge r
    have := brN_le e
    simp only [cntL, List.length_cons]; omega
set_option maxHeartbeats 3200000 in
theorem brk_any (Q : Nat → Prop) : ∀ (e : Xp) (v : Value) (w : World), okE e = true → cntE e ≤ 200 → Tree Q w e v → Calls Tryd.prog 13 #[v] w (Ret (.int .i64 (brN e : Nat)) w) := by
  intro e
  induction e using Xp.ind with
  | h o nn kids ih =>
  intro v w hok hcn ht
  have hroot := rleast_x (.mk o nn kids) hok
  obtain ⟨ad, cap, rfl, hlen, hks⟩ := ht.shape
  simp only [Xp.o, Xp.n, Xp.ks] at *
  have hle := brN_le (.mk o nn kids)
  rw [okE_mk, Bool.and_eq_true] at hok
  rw [cntE] at hcn hle
  rw [brN_mk] at hle
  have hkn := cntL_ge kids
  have hIH : ∀ (k : Nat) (hk : k < kids.length) (v2 : Value) (w2 : World), Tree Q w2 kids[k] v2 → Calls Tryd.prog 13 #[v2] w2 (Ret (.int .i64 (brN kids[k] : Nat)) w2) := fun k hk v2 w2 h2 => by
    have hm := List.getElem_mem hk
    exact ih kids[k] hm v2 w2 (okL_mem hok.2 _ hm) (by have := cnt_in hm; omega) h2
  have hokk : ∀ (k : Nat) (hk : k < kids.length), okE kids[k] = true := fun k hk => okL_mem hok.2 _ (List.getElem_mem hk)
  obtain ⟨hnd, -⟩ := hok
  clear ih hnd
  rw [brN_mk]
  have o2 := Own.new w #[.int .i64 o, .int .i64 nn, .slice ad kids.length cap] 24
  have hb1 : Below w.heap.size w (w.alloc (.cells #[.int .i64 o, .int .i64 nn, .slice ad kids.length cap] 24)) := by (repeat (first | exact Below.refl _ _ | assumption | refine Below.drew ?_ | refine below_drewN ?_ _ | refine Below.setCell ?_ (by first | omega | (simp <;> omega)) _ | refine Below.alloc ?_ (by first | omega | (simp <;> omega)) _))
  go_enter Tryd.func13, Tryd.ntmps13
  go_wp2_with fail
  go_loopw [3, 4] (fun z i wr => ∃ (k m : Nat), i = .int .i64 k ∧ z = .int .i64 m ∧ k ≤ kids.length ∧ m + brL o k (kids.drop k) = brL o 0 kids ∧ Own wr w.heap.size [.int .i64 o, .int .i64 nn, .slice ad kids.length cap] ∧ Below w.heap.size w wr) (fun _ i _ => kids.length - (intOf i).toNat)
  case atStart => exact ⟨0, 0, rfl, rfl, Nat.zero_le _, by simp, o2, hb1⟩
  case round =>
    obtain ⟨k, m, rfl, rfl, hkl, hsum, q1, q2⟩ := hrel
    obtain ⟨u0, u1, u2, -, -, -, uz⟩ := q1.three
    by_cases hk : k < kids.length
    · have t1 := ht.below q2
      obtain ⟨ad', cap', hv', -, ts⟩ := t1.shape
      have hadd : ad' = ad := by simp [Xp.o, Xp.n, Xp.ks] at hv'; exact hv'.1.symm
      subst hadd
      have ts' : Trees Q wr kids ad' 0 := ts
      obtain ⟨a, ad2, cap2, rfl, m0, m1, m2, tk, hab⟩ := ts'.reads k hk
      clear ts'
      have hwk : IntKind.i64.wrap ((k : Int) + 1) = (k : Int) + 1 := IntWalk.i64_in _ (by omega)
      have hcall := hIH k hk _ wr tk
      have hrk := rrank_x kids[k] (hokk k hk) ad2 kids[k].ks.length cap2
      have hst := brL_drop (o := o) hk
      rw [hst] at hsum
      have hlow : lowE o k kids[k] = decide (rankE kids[k] < leastO o k) := rfl
      generalize kids[k] = x at hcall hrk hsum m0 m1 m2 tk hlow
      clear hv' t1 ts hst tk
      generalize brN x = bx at hcall hsum
      generalize lowE o k x = lo at hsum hlow
      generalize rankE x = rx at hrk hlow
      generalize x.o = xo at hcall hrk m0
      generalize x.n = xn at hcall hrk m1
      generalize x.ks.length = xl at hcall hrk m2
      clear x
      have hw1 : IntKind.i64.wrap ((m : Int) + (bx : Int)) = (m : Int) + (bx : Int) := IntWalk.i64_in _ (by split at hsum <;> omega)
      have hw2 : IntKind.i64.wrap ((m : Int) + (bx : Int) + 1) = (m : Int) + (bx : Int) + 1 := IntWalk.i64_in _ (by split at hsum <;> omega)
      go_wp2_with fail
      refine hcall.mono ?_
      rintro e w2 ⟨rfl, kk⟩
      have q3 := q2.trans (kk.mono q2.size)
      replace q1 := q1.below kk
      have hab2 : (a.add (k * 3)).block < w2.heap.size := Nat.lt_of_lt_of_le hab kk.size
      have n0 : ∀ g : Grow w2, (up w2 g).cell? (a.add (k * 3)) = some (.int .i64 xo) := fun g => ((up_below w2 g).cell (p := a.add (k * 3)) hab2).trans ((kk.cell (p := a.add (k * 3)) hab).trans m0)
      have n1 : ∀ g : Grow w2, (up w2 g).cell? ⟨(a.add (k * 3)).block, (a.add (k * 3)).off + 1, none⟩ = some (.int .i64 xn) := fun g => ((up_below w2 g).cell (p := ⟨(a.add (k * 3)).block, (a.add (k * 3)).off + 1, none⟩) hab2).trans ((kk.cell (p := ⟨(a.add (k * 3)).block, (a.add (k * 3)).off + 1, none⟩) hab).trans m1)
      have n2 : ∀ g : Grow w2, (up w2 g).cell? ⟨(a.add (k * 3)).block, (a.add (k * 3)).off + 2, none⟩ = some (.slice ad2 xl cap2) := fun g => ((up_below w2 g).cell (p := ⟨(a.add (k * 3)).block, (a.add (k * 3)).off + 2, none⟩) hab2).trans ((kk.cell (p := ⟨(a.add (k * 3)).block, (a.add (k * 3)).off + 2, none⟩) hab).trans m2)
      obtain ⟨v0, v1, v2, -, -, -, vz⟩ := q1.three
      clear u0 u1 u2 m0 m1 m2 uz kk hcall hab hIH hokk ht hks
      go_wp2_with fail
      refine wp_region_up (by kernel_rfl) (by kernel_rfl) ?_
      repeat (go_big_quiet_step (first | (go_at_call 33; exact Ret.up (hrk _)) | (go_at_call 34; exact Ret.up (hroot _ _ _ k (by omega) _))))
      refine wpQuiet_nil ?_
      rintro w3 ⟨g, rfl⟩
      have hx3 := up_below w2 g
      replace q3 := q3.trans (hx3.mono q3.size)
      replace q1 := q1.below hx3
      clear n0 n1 n2 v0 v1 v2 vz hrk hroot hab2
      generalize up w2 g = w4 at q1 q3 hx3 ⊢
      clear hx3
      cases lo with
      | true =>
        have hp : rx < leastO o k := of_decide_eq_true hlow.symm
        have hlt : decide (rx < leastO o k) = true := hlow.symm
        clear hlow
        rw [if_pos rfl] at hsum
        go_wp2_with fail
        go_roundw
        case rel => exact ⟨k + 1, m + bx + 1, by go_num, by go_num, by omega, by omega, q1, q3⟩
        case measure => simp [intOf]; omega
      | false =>
        have hp : ¬ rx < leastO o k := of_decide_eq_false hlow.symm
        have hlt : decide (rx < leastO o k) = false := hlow.symm
        clear hlow
        rw [if_neg (by simp)] at hsum
        go_wp2_with fail
        go_roundw
        case rel => exact ⟨k + 1, m + bx, by go_num, by go_num, by omega, by omega, q1, q3⟩
        case measure => simp [intOf]; omega
    · have hkE : k = kids.length := by omega
      subst hkE
      rw [List.drop_length, brL_nil] at hsum
      have HS : Hid (m = brL o 0 kids) := Lib.hid (by omega)
      clear hIH hokk ht hks hroot hsum
      go_wp2_with fail
      go_ret
      exact Ret.mk (by rw [HS.out]; rfl) q2
set_option maxHeartbeats 3200000 in
theorem cho_any (Q : Nat → Prop) : ∀ (e : Xp) (v : Value) (w : World), okE e = true → cntE e ≤ 200 → Tree Q w e v → Calls Tryd.prog 14 #[v] w (Ret (.int .i64 (chN e : Nat)) w) := by
  intro e
  induction e using Xp.ind with
  | h o nn kids ih =>
  intro v w hok hcn ht
  obtain ⟨ad, cap, rfl, hlen, hks⟩ := ht.shape
  simp only [Xp.o, Xp.n, Xp.ks] at *
  have hle := chN_le (.mk o nn kids)
  rw [okE_mk, Bool.and_eq_true] at hok
  rw [cntE] at hcn hle
  have hkn := cntL_ge kids
  have hIH : ∀ (k : Nat) (hk : k < kids.length) (v2 : Value) (w2 : World), Tree Q w2 kids[k] v2 → Calls Tryd.prog 14 #[v2] w2 (Ret (.int .i64 (chN kids[k] : Nat)) w2) := fun k hk v2 w2 h2 => by
    have hm := List.getElem_mem hk
    exact ih kids[k] hm v2 w2 (okL_mem hok.2 _ hm) (by have := cnt_in hm; omega) h2
  clear ih hok
  rw [chN_mk] at hle ⊢
  obtain ⟨N, hN⟩ : ∃ N : Nat, (if o = 8 ∨ o = 9 then 1 else 0) + chL kids = N := ⟨_, rfl⟩
  rw [hN] at hle ⊢
  have o2 := Own.new w #[.int .i64 o, .int .i64 nn, .slice ad kids.length cap] 24
  have hb1 : Below w.heap.size w (w.alloc (.cells #[.int .i64 o, .int .i64 nn, .slice ad kids.length cap] 24)) := by (repeat (first | exact Below.refl _ _ | assumption | refine Below.drew ?_ | refine below_drewN ?_ _ | refine Below.setCell ?_ (by first | omega | (simp <;> omega)) _ | refine Below.alloc ?_ (by first | omega | (simp <;> omega)) _))
  have start : ∀ (m : Nat), m + chL kids = N → ∃ z : Nat, z + chL (kids.drop 0) = N := fun m h => ⟨m, by simpa using h⟩
  have body : ∀ b0 : Nat, b0 + chL kids = N → b0 + chL (kids.drop 0) = N := fun b0 h => by simpa using h
  have hcase : ∃ (b1 b2 : Bool) (b0 : Nat), (o == 8) = b1 ∧ (o == 9) = b2 ∧ b0 = (if (b1 || b2) = true then 1 else 0) ∧ b0 + chL kids = N := by
    refine ⟨_, _, _, rfl, rfl, rfl, ?_⟩
    rw [← hN]
    congr 1
    by_cases h : o = 8 ∨ o = 9
    · rw [if_pos h, if_pos]; rcases h with rfl | rfl <;> rfl
    · rw [if_neg h, if_neg]; simp; omega
  obtain ⟨b1, b2, b0, e1, e2, e3, e4⟩ := hcase
  clear start hN
  cases b1 <;> cases b2
  all_goals
    simp only [Bool.or_self, Bool.or_true, Bool.or_false, if_true, if_false, Bool.false_eq_true] at e3
    subst e3
    have hbd := body _ e4
    clear body e4
    go_enter Tryd.func14, Tryd.ntmps14
    go_wp2_with fail
    go_loopw [3, 4] (fun z i wr => ∃ (k m : Nat), i = .int .i64 k ∧ z = .int .i64 m ∧ k ≤ kids.length ∧ m + chL (kids.drop k) = N ∧ Own wr w.heap.size [.int .i64 o, .int .i64 nn, .slice ad kids.length cap] ∧ Below w.heap.size w wr) (fun _ i _ => kids.length - (intOf i).toNat)
    case atStart => exact ⟨0, _, rfl, rfl, Nat.zero_le _, hbd, o2, hb1⟩
    case round =>
      obtain ⟨k, m, rfl, rfl, hkl, hsum, q1, q2⟩ := hrel
      obtain ⟨u0, u1, u2, -, -, -, uz⟩ := q1.three
      by_cases hk : k < kids.length
      · have t1 := ht.below q2
        obtain ⟨ad', cap', hv', -, ts⟩ := t1.shape
        have hadd : ad' = ad := by simp [Xp.o, Xp.n, Xp.ks] at hv'; exact hv'.1.symm
        subst hadd
        have ts' : Trees Q wr kids ad' 0 := ts
        obtain ⟨a, ad2, cap2, rfl, m0, m1, m2, tk, hab⟩ := ts'.reads k hk
        clear ts'
        have hwk : IntKind.i64.wrap ((k : Int) + 1) = (k : Int) + 1 := IntWalk.i64_in _ (by omega)
        have hcall := hIH k hk _ wr tk
        rw [chL_drop hk] at hsum
        generalize kids[k] = x at hcall hsum m0 m1 m2 tk
        clear hv' t1 ts tk
        generalize chN x = bx at hcall hsum
        generalize x.o = xo at hcall m0
        generalize x.n = xn at hcall m1
        generalize x.ks.length = xl at hcall m2
        clear x
        have hw1 : IntKind.i64.wrap ((m : Int) + (bx : Int)) = (m : Int) + (bx : Int) := IntWalk.i64_in _ (by omega)
        go_wp2_with fail
        refine hcall.mono ?_
        rintro e w2 ⟨rfl, kk⟩
        have q3 := q2.trans (kk.mono q2.size)
        replace q1 := q1.below kk
        clear u0 u1 u2 m0 m1 m2 uz kk hcall hab
        go_wp2_with fail
        go_roundw
        case rel => exact ⟨k + 1, m + bx, by go_num, by go_num, by omega, by omega, q1, q3⟩
        case measure => simp [intOf]; omega
      · have hkE : k = kids.length := by omega
        subst hkE
        rw [List.drop_length, chL_nil] at hsum
        have HS : Hid (m = N) := Lib.hid (by omega)
        clear hIH ht hks hsum
        go_wp2_with fail
        go_ret
        exact Ret.mk (by rw [HS.out]; rfl) q2
end Go.Proofs.YtlkefcbkpohpgaaDoor
