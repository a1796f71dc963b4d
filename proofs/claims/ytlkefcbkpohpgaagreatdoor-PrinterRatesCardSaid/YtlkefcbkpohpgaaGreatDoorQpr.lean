/-
  printer.Rate: the text of a rate, or an error.
-/
import Derived.Test.YtlkefcbkpohpgaaGreatDoorQpj
namespace Go.Proofs.YtlkefcbkpohpgaaGreatDoor
open Go.RowKit Go.Shelf
set_option maxRecDepth 100000
set_option linter.unusedVariables false
set_option linter.unusedSimpArgs false

theorem rateP_eq (a0 a1 a2 a3 a4 a5 a6 a7 kn kd : Int) (when price : Xp) : rateP a0 a1 a2 a3 a4 a5 a6 a7 kn kd when price =
    if ((pctF kn kd).2 && [a0, a1, a2, a3, a4, a5, a6, a7, (pctF kn kd).1].all nineB && validF when && validF price) = true
    then (rateX a0.toNat a1.toNat a2.toNat a3.toNat a4.toNat a5.toNat a6.toNat a7.toNat (pctF kn kd).1.toNat (txtE when) (txtE price), 0) else ([], 1) := by
  obtain ⟨h1, h2⟩ := pct_keep kn kd
  have hc : ((pctF kn kd).2 && [a0, a1, a2, a3, a4, a5, a6, a7, (pctF kn kd).1].all nineB && validF when && validF price) = (nineB a0 && nineB a1 && nineB a2 && nineB a3 && nineB a4 && nineB a5 && nineB a6 && nineB a7 && keepB kn kd && validF when && validF price) := by
    rw [← h1]
    simp only [List.all_cons, List.all_nil, Bool.and_true]
    cases (pctF kn kd).2 <;> simp [Bool.and_assoc]
  unfold rateP
  rw [hc]
  by_cases hg : (nineB a0 && nineB a1 && nineB a2 && nineB a3 && nineB a4 && nineB a5 && nineB a6 && nineB a7 && keepB kn kd && validF when && validF price) = true
  · rw [if_pos hg, if_pos hg]
    have hk : keepB kn kd = true := by simp only [Bool.and_eq_true] at hg; exact hg.1.1.2
    rw [h2 hk]
  · rw [if_neg hg, if_neg hg]
theorem nine_nat {x : Int} (h : nineB x = true) : ∃ n : Nat, x = n ∧ n ≤ 999999999 := ⟨x.toNat, by simp [nineB] at h; omega, by simp [nineB] at h; omega⟩
theorem dec_le9 (n : Nat) (h : n ≤ 999999999) : (Lib.decDigits n).length ≤ 9 := dec_size 8 n (by omega)
theorem joinW_bd : ∀ (ss : List (List UInt8)) (l : List UInt8), (joinW l ss).length ≤ l.length + (ss.map (fun s => s.length + 1)).sum
  | [], l => by simp [joinW]
  | p :: r, l => by
    have := joinW_bd r ((if l.isEmpty = true then l else l ++ [32]) ++ p)
    unfold joinW
    split at this <;> simp_all <;> omega
theorem own_low {w w1 : World} {C b : Nat} {xs : List Value} (h : Own w C xs) (hb : Below b w w1) (hC : C < b) : Own w1 C xs :=
  ⟨fun i v hi => (World.cell?_of_block (w := w) (hb.block C hC)).trans (h.cell i v hi), fun i v hi => (World.frozen?_of_block (w := w) (hb.block C hC)).trans (h.fro i v hi), Nat.lt_of_lt_of_le h.lt hb.size⟩
theorem heap_top (w : World) (o : Obj) : (w.alloc o).heap[w.heap.size]? = some o := by
  show (w.heap.push _)[w.heap.size]? = _
  rw [Array.getElem?_push_size]
/-- the parts, joined -/
theorem rate_joined (n0 n1 n2 n3 n4 n5 n6 n7 c : Nat) (w p : List UInt8) :
    joinW (joinW (joinW (joinW [] [wRate, Lib.decDigits n0, wLevel, Lib.decDigits n1, wKind, Lib.decDigits n2]) [wNights, Lib.decDigits n3, wTo, Lib.decDigits n4]) [wStay, Lib.decDigits n5, wTo, Lib.decDigits n6, wArrive, Lib.decDigits n7]) [wKeep, Lib.decDigits c ++ [37], wWhen, w, wPrice, p ++ [59]] =
    rateX n0 n1 n2 n3 n4 n5 n6 n7 c w p := by
  simp [joinW, rateX, wRate, wLevel, wKind, wNights, wTo, wStay, wArrive, wKeep, wWhen, wPrice]
set_option maxHeartbeats 8000000 in
theorem prate_pct {Q R : Nat → Prop} (a0 a1 a2 a3 a4 a5 a6 a7 : Int) (kn kd : Int) (we pe : Xp) (ad1 ad2 : Option Addr) (cap1 cap2 : Nat) (w : World) (hP : PL w) (hT : Tree Q w we (.agg #[.int .i64 we.o, .int .i64 we.n, .slice ad1 we.ks.length cap1])) (hU : Tree R w pe (.agg #[.int .i64 pe.o, .int .i64 pe.n, .slice ad2 pe.ks.length cap2])) (h1 : (pctF kn kd).2 = false) :
    Calls Tryz.prog 27 #[.agg #[.int .i64 (a0 : Int), .int .i64 a1, .int .i64 a2, .int .i64 a3, .int .i64 a4, .int .i64 a5, .int .i64 a6, .int .i64 a7, .int .i64 kn, .int .i64 kd, .int .i64 we.o, .int .i64 we.n, .slice ad1 we.ks.length cap1, .int .i64 pe.o, .int .i64 pe.n, .slice ad2 pe.ks.length cap2]] w (Ret (.tuple #[.string ⟨([] : List UInt8).toArray⟩, .int .i64 1]) w) := by
  have o0 := Own.new w #[.int .i64 (a0 : Int), .int .i64 a1, .int .i64 a2, .int .i64 a3, .int .i64 a4, .int .i64 a5, .int .i64 a6, .int .i64 a7, .int .i64 kn, .int .i64 kd, .int .i64 we.o, .int .i64 we.n, .slice ad1 we.ks.length cap1, .int .i64 pe.o, .int .i64 pe.n, .slice ad2 pe.ks.length cap2] 52
  have hb0 : Below w.heap.size w (w.alloc (.cells #[.int .i64 (a0 : Int), .int .i64 a1, .int .i64 a2, .int .i64 a3, .int .i64 a4, .int .i64 a5, .int .i64 a6, .int .i64 a7, .int .i64 kn, .int .i64 kd, .int .i64 we.o, .int .i64 we.n, .slice ad1 we.ks.length cap1, .int .i64 pe.o, .int .i64 pe.n, .slice ad2 pe.ks.length cap2] 52)) := (Below.refl _ w).alloc (Nat.le_refl _) _
  have hpc := pct_any kn kd (w.alloc (.cells #[.int .i64 (a0 : Int), .int .i64 a1, .int .i64 a2, .int .i64 a3, .int .i64 a4, .int .i64 a5, .int .i64 a6, .int .i64 a7, .int .i64 kn, .int .i64 kd, .int .i64 we.o, .int .i64 we.n, .slice ad1 we.ks.length cap1, .int .i64 pe.o, .int .i64 pe.n, .slice ad2 pe.ks.length cap2] 52))
  obtain ⟨P, hPd⟩ : ∃ P, P = pctF kn kd := ⟨_, rfl⟩
  rw [← hPd] at hpc
  obtain ⟨c, q⟩ := P
  rw [← hPd] at h1
  simp only at h1 hpc
  subst h1
  clear hPd
  go_enter Tryz.func27, Tryz.ntmps27
  go_wp2_with fail
  refine hpc.mono ?_
  rintro e w2 ⟨rfl, hx⟩
  go_wp2_with fail
  go_ret2
  exact Ret.mk rfl (hb0.trans (hx.mono hb0.size))
set_option maxHeartbeats 8000000 in
theorem prate_say {Q R : Nat → Prop} (a0 a1 a2 a3 a4 a5 a6 a7 : Int) (kn kd : Int) (we pe : Xp) (ad1 ad2 : Option Addr) (cap1 cap2 : Nat) (w : World) (hP : PL w) (hT : Tree Q w we (.agg #[.int .i64 we.o, .int .i64 we.n, .slice ad1 we.ks.length cap1])) (hU : Tree R w pe (.agg #[.int .i64 pe.o, .int .i64 pe.n, .slice ad2 pe.ks.length cap2])) (h1 : (pctF kn kd).2 = true) (h2 : [a0, a1, a2, a3, a4, a5, a6, a7, (pctF kn kd).1].all nineB = false) :
    Calls Tryz.prog 27 #[.agg #[.int .i64 (a0 : Int), .int .i64 a1, .int .i64 a2, .int .i64 a3, .int .i64 a4, .int .i64 a5, .int .i64 a6, .int .i64 a7, .int .i64 kn, .int .i64 kd, .int .i64 we.o, .int .i64 we.n, .slice ad1 we.ks.length cap1, .int .i64 pe.o, .int .i64 pe.n, .slice ad2 pe.ks.length cap2]] w (Ret (.tuple #[.string ⟨([] : List UInt8).toArray⟩, .int .i64 1]) w) := by
  have o0 := Own.new w #[.int .i64 (a0 : Int), .int .i64 a1, .int .i64 a2, .int .i64 a3, .int .i64 a4, .int .i64 a5, .int .i64 a6, .int .i64 a7, .int .i64 kn, .int .i64 kd, .int .i64 we.o, .int .i64 we.n, .slice ad1 we.ks.length cap1, .int .i64 pe.o, .int .i64 pe.n, .slice ad2 pe.ks.length cap2] 52
  have hb0 : Below w.heap.size w (w.alloc (.cells #[.int .i64 (a0 : Int), .int .i64 a1, .int .i64 a2, .int .i64 a3, .int .i64 a4, .int .i64 a5, .int .i64 a6, .int .i64 a7, .int .i64 kn, .int .i64 kd, .int .i64 we.o, .int .i64 we.n, .slice ad1 we.ks.length cap1, .int .i64 pe.o, .int .i64 pe.n, .slice ad2 pe.ks.length cap2] 52)) := (Below.refl _ w).alloc (Nat.le_refl _) _
  have hpc := pct_any kn kd (w.alloc (.cells #[.int .i64 (a0 : Int), .int .i64 a1, .int .i64 a2, .int .i64 a3, .int .i64 a4, .int .i64 a5, .int .i64 a6, .int .i64 a7, .int .i64 kn, .int .i64 kd, .int .i64 we.o, .int .i64 we.n, .slice ad1 we.ks.length cap1, .int .i64 pe.o, .int .i64 pe.n, .slice ad2 pe.ks.length cap2] 52))
  obtain ⟨P, hPd⟩ : ∃ P, P = pctF kn kd := ⟨_, rfl⟩
  rw [← hPd] at hpc
  obtain ⟨c, q⟩ := P
  rw [← hPd] at h1 h2
  simp only at h1 h2 hpc
  subst h1
  clear hPd
  go_enter Tryz.func27, Tryz.ntmps27
  go_wp2_with fail
  refine hpc.mono ?_
  rintro e w2 ⟨rfl, hx⟩
  have hb2 := hb0.trans (hx.mono hb0.size)
  have o2 := o0.below hx
  have hs := say_any [(a0 : Int), (a1 : Int), (a2 : Int), (a3 : Int), (a4 : Int), (a5 : Int), (a6 : Int), (a7 : Int), c] w2.heap.size 9 (w2.alloc (.cells #[.int .i64 (a0 : Int), .int .i64 (a1 : Int), .int .i64 (a2 : Int), .int .i64 (a3 : Int), .int .i64 (a4 : Int), .int .i64 (a5 : Int), .int .i64 (a6 : Int), .int .i64 (a7 : Int), .int .i64 c] 3)) (Own.new w2 #[.int .i64 (a0 : Int), .int .i64 (a1 : Int), .int .i64 (a2 : Int), .int .i64 (a3 : Int), .int .i64 (a4 : Int), .int .i64 (a5 : Int), .int .i64 (a6 : Int), .int .i64 (a7 : Int), .int .i64 c] 3) (by simp)
  rw [h2] at hs
  have c0 := o2.cell 0 _ rfl
  have c1 := o2.cell 1 _ rfl
  have c2 := o2.cell 2 _ rfl
  have c3 := o2.cell 3 _ rfl
  have c4 := o2.cell 4 _ rfl
  have c5 := o2.cell 5 _ rfl
  have c6 := o2.cell 6 _ rfl
  have c7 := o2.cell 7 _ rfl
  go_wp2_with fail
  refine hs.mono ?_
  rintro e w3 ⟨rfl, rfl⟩
  have hb3 : Below w.heap.size w (w2.alloc (.cells #[.int .i64 (a0 : Int), .int .i64 (a1 : Int), .int .i64 (a2 : Int), .int .i64 (a3 : Int), .int .i64 (a4 : Int), .int .i64 (a5 : Int), .int .i64 (a6 : Int), .int .i64 (a7 : Int), .int .i64 c] 3)) := hb2.alloc hb2.size _
  have o3 := o2.alloc (.cells #[.int .i64 (a0 : Int), .int .i64 (a1 : Int), .int .i64 (a2 : Int), .int .i64 (a3 : Int), .int .i64 (a4 : Int), .int .i64 (a5 : Int), .int .i64 (a6 : Int), .int .i64 (a7 : Int), .int .i64 c] 3)
  generalize hw3 : w2.alloc (.cells #[.int .i64 (a0 : Int), .int .i64 (a1 : Int), .int .i64 (a2 : Int), .int .i64 (a3 : Int), .int .i64 (a4 : Int), .int .i64 (a5 : Int), .int .i64 (a6 : Int), .int .i64 (a7 : Int), .int .i64 c] 3) = w3 at hb3 o3
  clear hs c0 c1 c2 c3 c4 c5 c6 c7 o2 hb2 hx o0 hpc
  go_wp2_with fail
  go_ret2
  exact Ret.mk rfl hb3
set_option maxHeartbeats 8000000 in
theorem prate_when {Q R : Nat → Prop} (a0 a1 a2 a3 a4 a5 a6 a7 : Int) (kn kd : Int) (we pe : Xp) (ad1 ad2 : Option Addr) (cap1 cap2 : Nat) (w : World) (hP : PL w) (hT : Tree Q w we (.agg #[.int .i64 we.o, .int .i64 we.n, .slice ad1 we.ks.length cap1])) (hU : Tree R w pe (.agg #[.int .i64 pe.o, .int .i64 pe.n, .slice ad2 pe.ks.length cap2])) (h1 : (pctF kn kd).2 = true) (h2 : [a0, a1, a2, a3, a4, a5, a6, a7, (pctF kn kd).1].all nineB = true) (h3 : validF we = false) :
    Calls Tryz.prog 27 #[.agg #[.int .i64 (a0 : Int), .int .i64 a1, .int .i64 a2, .int .i64 a3, .int .i64 a4, .int .i64 a5, .int .i64 a6, .int .i64 a7, .int .i64 kn, .int .i64 kd, .int .i64 we.o, .int .i64 we.n, .slice ad1 we.ks.length cap1, .int .i64 pe.o, .int .i64 pe.n, .slice ad2 pe.ks.length cap2]] w (Ret (.tuple #[.string ⟨([] : List UInt8).toArray⟩, .int .i64 1]) w) := by
  have o0 := Own.new w #[.int .i64 (a0 : Int), .int .i64 a1, .int .i64 a2, .int .i64 a3, .int .i64 a4, .int .i64 a5, .int .i64 a6, .int .i64 a7, .int .i64 kn, .int .i64 kd, .int .i64 we.o, .int .i64 we.n, .slice ad1 we.ks.length cap1, .int .i64 pe.o, .int .i64 pe.n, .slice ad2 pe.ks.length cap2] 52
  have hb0 : Below w.heap.size w (w.alloc (.cells #[.int .i64 (a0 : Int), .int .i64 a1, .int .i64 a2, .int .i64 a3, .int .i64 a4, .int .i64 a5, .int .i64 a6, .int .i64 a7, .int .i64 kn, .int .i64 kd, .int .i64 we.o, .int .i64 we.n, .slice ad1 we.ks.length cap1, .int .i64 pe.o, .int .i64 pe.n, .slice ad2 pe.ks.length cap2] 52)) := (Below.refl _ w).alloc (Nat.le_refl _) _
  have hpc := pct_any kn kd (w.alloc (.cells #[.int .i64 (a0 : Int), .int .i64 a1, .int .i64 a2, .int .i64 a3, .int .i64 a4, .int .i64 a5, .int .i64 a6, .int .i64 a7, .int .i64 kn, .int .i64 kd, .int .i64 we.o, .int .i64 we.n, .slice ad1 we.ks.length cap1, .int .i64 pe.o, .int .i64 pe.n, .slice ad2 pe.ks.length cap2] 52))
  obtain ⟨P, hPd⟩ : ∃ P, P = pctF kn kd := ⟨_, rfl⟩
  rw [← hPd] at hpc
  obtain ⟨c, q⟩ := P
  rw [← hPd] at h1 h2
  simp only at h1 h2 hpc
  subst h1
  clear hPd
  go_enter Tryz.func27, Tryz.ntmps27
  go_wp2_with fail
  refine hpc.mono ?_
  rintro e w2 ⟨rfl, hx⟩
  have hb2 := hb0.trans (hx.mono hb0.size)
  have o2 := o0.below hx
  have hs := say_any [(a0 : Int), (a1 : Int), (a2 : Int), (a3 : Int), (a4 : Int), (a5 : Int), (a6 : Int), (a7 : Int), c] w2.heap.size 9 (w2.alloc (.cells #[.int .i64 (a0 : Int), .int .i64 (a1 : Int), .int .i64 (a2 : Int), .int .i64 (a3 : Int), .int .i64 (a4 : Int), .int .i64 (a5 : Int), .int .i64 (a6 : Int), .int .i64 (a7 : Int), .int .i64 c] 3)) (Own.new w2 #[.int .i64 (a0 : Int), .int .i64 (a1 : Int), .int .i64 (a2 : Int), .int .i64 (a3 : Int), .int .i64 (a4 : Int), .int .i64 (a5 : Int), .int .i64 (a6 : Int), .int .i64 (a7 : Int), .int .i64 c] 3) (by simp)
  rw [h2] at hs
  have c0 := o2.cell 0 _ rfl
  have c1 := o2.cell 1 _ rfl
  have c2 := o2.cell 2 _ rfl
  have c3 := o2.cell 3 _ rfl
  have c4 := o2.cell 4 _ rfl
  have c5 := o2.cell 5 _ rfl
  have c6 := o2.cell 6 _ rfl
  have c7 := o2.cell 7 _ rfl
  go_wp2_with fail
  refine hs.mono ?_
  rintro e w3 ⟨rfl, rfl⟩
  have hb3 : Below w.heap.size w (w2.alloc (.cells #[.int .i64 (a0 : Int), .int .i64 (a1 : Int), .int .i64 (a2 : Int), .int .i64 (a3 : Int), .int .i64 (a4 : Int), .int .i64 (a5 : Int), .int .i64 (a6 : Int), .int .i64 (a7 : Int), .int .i64 c] 3)) := hb2.alloc hb2.size _
  have o3 := o2.alloc (.cells #[.int .i64 (a0 : Int), .int .i64 (a1 : Int), .int .i64 (a2 : Int), .int .i64 (a3 : Int), .int .i64 (a4 : Int), .int .i64 (a5 : Int), .int .i64 (a6 : Int), .int .i64 (a7 : Int), .int .i64 c] 3)
  generalize hw3 : w2.alloc (.cells #[.int .i64 (a0 : Int), .int .i64 (a1 : Int), .int .i64 (a2 : Int), .int .i64 (a3 : Int), .int .i64 (a4 : Int), .int .i64 (a5 : Int), .int .i64 (a6 : Int), .int .i64 (a7 : Int), .int .i64 c] 3) = w3 at hb3 o3
  clear hs c0 c1 c2 c3 c4 c5 c6 c7 o2 hb2 hx o0 hpc
  have d0 := o3.cell 10 _ rfl
  have d1 := o3.cell 11 _ rfl
  have d2 := o3.cell 12 _ rfl
  have hpw := pprint_any we _ w3 (hP.below hb3) (hT.below hb3)
  unfold exprP at hpw
  rw [if_neg (by rw [h3]; simp)] at hpw
  simp only at hpw
  go_wp2_with fail
  refine hpw.mono ?_
  rintro e w4 ⟨rfl, hx4⟩
  have hb4 := hb3.trans (hx4.mono hb3.size)
  have o4 := o3.below hx4
  clear d0 d1 d2 hpw hx4 o3
  go_wp2_with fail
  go_ret2
  exact Ret.mk rfl hb4
set_option maxHeartbeats 8000000 in
theorem prate_price {Q R : Nat → Prop} (a0 a1 a2 a3 a4 a5 a6 a7 : Int) (kn kd : Int) (we pe : Xp) (ad1 ad2 : Option Addr) (cap1 cap2 : Nat) (w : World) (hP : PL w) (hT : Tree Q w we (.agg #[.int .i64 we.o, .int .i64 we.n, .slice ad1 we.ks.length cap1])) (hU : Tree R w pe (.agg #[.int .i64 pe.o, .int .i64 pe.n, .slice ad2 pe.ks.length cap2])) (h1 : (pctF kn kd).2 = true) (h2 : [a0, a1, a2, a3, a4, a5, a6, a7, (pctF kn kd).1].all nineB = true) (h3 : validF we = true) (h4 : validF pe = false) :
    Calls Tryz.prog 27 #[.agg #[.int .i64 (a0 : Int), .int .i64 a1, .int .i64 a2, .int .i64 a3, .int .i64 a4, .int .i64 a5, .int .i64 a6, .int .i64 a7, .int .i64 kn, .int .i64 kd, .int .i64 we.o, .int .i64 we.n, .slice ad1 we.ks.length cap1, .int .i64 pe.o, .int .i64 pe.n, .slice ad2 pe.ks.length cap2]] w (Ret (.tuple #[.string ⟨([] : List UInt8).toArray⟩, .int .i64 1]) w) := by
  have o0 := Own.new w #[.int .i64 (a0 : Int), .int .i64 a1, .int .i64 a2, .int .i64 a3, .int .i64 a4, .int .i64 a5, .int .i64 a6, .int .i64 a7, .int .i64 kn, .int .i64 kd, .int .i64 we.o, .int .i64 we.n, .slice ad1 we.ks.length cap1, .int .i64 pe.o, .int .i64 pe.n, .slice ad2 pe.ks.length cap2] 52
  have hb0 : Below w.heap.size w (w.alloc (.cells #[.int .i64 (a0 : Int), .int .i64 a1, .int .i64 a2, .int .i64 a3, .int .i64 a4, .int .i64 a5, .int .i64 a6, .int .i64 a7, .int .i64 kn, .int .i64 kd, .int .i64 we.o, .int .i64 we.n, .slice ad1 we.ks.length cap1, .int .i64 pe.o, .int .i64 pe.n, .slice ad2 pe.ks.length cap2] 52)) := (Below.refl _ w).alloc (Nat.le_refl _) _
  have hpc := pct_any kn kd (w.alloc (.cells #[.int .i64 (a0 : Int), .int .i64 a1, .int .i64 a2, .int .i64 a3, .int .i64 a4, .int .i64 a5, .int .i64 a6, .int .i64 a7, .int .i64 kn, .int .i64 kd, .int .i64 we.o, .int .i64 we.n, .slice ad1 we.ks.length cap1, .int .i64 pe.o, .int .i64 pe.n, .slice ad2 pe.ks.length cap2] 52))
  obtain ⟨P, hPd⟩ : ∃ P, P = pctF kn kd := ⟨_, rfl⟩
  rw [← hPd] at hpc
  obtain ⟨c, q⟩ := P
  rw [← hPd] at h1 h2
  simp only at h1 h2 hpc
  subst h1
  clear hPd
  go_enter Tryz.func27, Tryz.ntmps27
  go_wp2_with fail
  refine hpc.mono ?_
  rintro e w2 ⟨rfl, hx⟩
  have hb2 := hb0.trans (hx.mono hb0.size)
  have o2 := o0.below hx
  have hs := say_any [(a0 : Int), (a1 : Int), (a2 : Int), (a3 : Int), (a4 : Int), (a5 : Int), (a6 : Int), (a7 : Int), c] w2.heap.size 9 (w2.alloc (.cells #[.int .i64 (a0 : Int), .int .i64 (a1 : Int), .int .i64 (a2 : Int), .int .i64 (a3 : Int), .int .i64 (a4 : Int), .int .i64 (a5 : Int), .int .i64 (a6 : Int), .int .i64 (a7 : Int), .int .i64 c] 3)) (Own.new w2 #[.int .i64 (a0 : Int), .int .i64 (a1 : Int), .int .i64 (a2 : Int), .int .i64 (a3 : Int), .int .i64 (a4 : Int), .int .i64 (a5 : Int), .int .i64 (a6 : Int), .int .i64 (a7 : Int), .int .i64 c] 3) (by simp)
  rw [h2] at hs
  have c0 := o2.cell 0 _ rfl
  have c1 := o2.cell 1 _ rfl
  have c2 := o2.cell 2 _ rfl
  have c3 := o2.cell 3 _ rfl
  have c4 := o2.cell 4 _ rfl
  have c5 := o2.cell 5 _ rfl
  have c6 := o2.cell 6 _ rfl
  have c7 := o2.cell 7 _ rfl
  go_wp2_with fail
  refine hs.mono ?_
  rintro e w3 ⟨rfl, rfl⟩
  have hb3 : Below w.heap.size w (w2.alloc (.cells #[.int .i64 (a0 : Int), .int .i64 (a1 : Int), .int .i64 (a2 : Int), .int .i64 (a3 : Int), .int .i64 (a4 : Int), .int .i64 (a5 : Int), .int .i64 (a6 : Int), .int .i64 (a7 : Int), .int .i64 c] 3)) := hb2.alloc hb2.size _
  have o3 := o2.alloc (.cells #[.int .i64 (a0 : Int), .int .i64 (a1 : Int), .int .i64 (a2 : Int), .int .i64 (a3 : Int), .int .i64 (a4 : Int), .int .i64 (a5 : Int), .int .i64 (a6 : Int), .int .i64 (a7 : Int), .int .i64 c] 3)
  generalize hw3 : w2.alloc (.cells #[.int .i64 (a0 : Int), .int .i64 (a1 : Int), .int .i64 (a2 : Int), .int .i64 (a3 : Int), .int .i64 (a4 : Int), .int .i64 (a5 : Int), .int .i64 (a6 : Int), .int .i64 (a7 : Int), .int .i64 c] 3) = w3 at hb3 o3
  clear hs c0 c1 c2 c3 c4 c5 c6 c7 o2 hb2 hx o0 hpc
  have d0 := o3.cell 10 _ rfl
  have d1 := o3.cell 11 _ rfl
  have d2 := o3.cell 12 _ rfl
  have hpw := pprint_any we _ w3 (hP.below hb3) (hT.below hb3)
  unfold exprP at hpw
  rw [if_pos h3] at hpw
  simp only at hpw
  go_wp2_with fail
  refine hpw.mono ?_
  rintro e w4 ⟨rfl, hx4⟩
  have hb4 := hb3.trans (hx4.mono hb3.size)
  have o4 := o3.below hx4
  clear d0 d1 d2 hpw hx4 o3
  have d3 := o4.cell 13 _ rfl
  have d4 := o4.cell 14 _ rfl
  have d5 := o4.cell 15 _ rfl
  have hpp := pprint_any pe _ w4 (hP.below hb4) (hU.below hb4)
  unfold exprP at hpp
  rw [if_neg (by rw [h4]; simp)] at hpp
  simp only at hpp
  go_wp2_with fail
  refine hpp.mono ?_
  rintro e w5 ⟨rfl, hx5⟩
  have hb5 := hb4.trans (hx5.mono hb4.size)
  have o5 := o4.below hx5
  clear d3 d4 d5 hpp hx5 o4
  go_wp2_with fail
  go_ret2
  exact Ret.mk rfl hb5
set_option maxHeartbeats 8000000 in
theorem prate_ok {Q R : Nat → Prop} (n0 n1 n2 n3 n4 n5 n6 n7 : Nat) (kn kd : Int) (we pe : Xp) (ad1 ad2 : Option Addr) (cap1 cap2 : Nat) (w : World) (hP : PL w) (hT : Tree Q w we (.agg #[.int .i64 we.o, .int .i64 we.n, .slice ad1 we.ks.length cap1])) (hU : Tree R w pe (.agg #[.int .i64 pe.o, .int .i64 pe.n, .slice ad2 pe.ks.length cap2])) (g0 : n0 ≤ 999999999) (g1 : n1 ≤ 999999999) (g2 : n2 ≤ 999999999) (g3 : n3 ≤ 999999999) (g4 : n4 ≤ 999999999) (g5 : n5 ≤ 999999999) (g6 : n6 ≤ 999999999) (g7 : n7 ≤ 999999999) (cc : Nat) (g8 : cc ≤ 999999999) (h1 : (pctF kn kd).2 = true) (h5 : (pctF kn kd).1 = cc) (h3 : validF we = true) (h4 : validF pe = true) :
    Calls Tryz.prog 27 #[.agg #[.int .i64 (n0 : Int), .int .i64 n1, .int .i64 n2, .int .i64 n3, .int .i64 n4, .int .i64 n5, .int .i64 n6, .int .i64 n7, .int .i64 kn, .int .i64 kd, .int .i64 we.o, .int .i64 we.n, .slice ad1 we.ks.length cap1, .int .i64 pe.o, .int .i64 pe.n, .slice ad2 pe.ks.length cap2]] w (Ret (.tuple #[.string ⟨(rateX n0 n1 n2 n3 n4 n5 n6 n7 cc (txtE we) (txtE pe)).toArray⟩, .int .i64 0]) w) := by
  have o0 := Own.new w #[.int .i64 (n0 : Int), .int .i64 n1, .int .i64 n2, .int .i64 n3, .int .i64 n4, .int .i64 n5, .int .i64 n6, .int .i64 n7, .int .i64 kn, .int .i64 kd, .int .i64 we.o, .int .i64 we.n, .slice ad1 we.ks.length cap1, .int .i64 pe.o, .int .i64 pe.n, .slice ad2 pe.ks.length cap2] 52
  have hb0 : Below w.heap.size w (w.alloc (.cells #[.int .i64 (n0 : Int), .int .i64 n1, .int .i64 n2, .int .i64 n3, .int .i64 n4, .int .i64 n5, .int .i64 n6, .int .i64 n7, .int .i64 kn, .int .i64 kd, .int .i64 we.o, .int .i64 we.n, .slice ad1 we.ks.length cap1, .int .i64 pe.o, .int .i64 pe.n, .slice ad2 pe.ks.length cap2] 52)) := (Below.refl _ w).alloc (Nat.le_refl _) _
  have hpc := pct_any kn kd (w.alloc (.cells #[.int .i64 (n0 : Int), .int .i64 n1, .int .i64 n2, .int .i64 n3, .int .i64 n4, .int .i64 n5, .int .i64 n6, .int .i64 n7, .int .i64 kn, .int .i64 kd, .int .i64 we.o, .int .i64 we.n, .slice ad1 we.ks.length cap1, .int .i64 pe.o, .int .i64 pe.n, .slice ad2 pe.ks.length cap2] 52))
  obtain ⟨P, hPd⟩ : ∃ P, P = pctF kn kd := ⟨_, rfl⟩
  rw [← hPd] at hpc
  obtain ⟨c, q⟩ := P
  rw [← hPd] at h1 h5
  simp only at h1 h5 hpc
  subst h1
  subst h5
  clear hPd
  have h2 : [(n0 : Int), n1, n2, n3, n4, n5, n6, n7, cc].all nineB = true := by simp [nineB]; omega
  go_enter Tryz.func27, Tryz.ntmps27
  go_wp2_with fail
  refine hpc.mono ?_
  rintro e w2 ⟨rfl, hx⟩
  have hb2 := hb0.trans (hx.mono hb0.size)
  have o2 := o0.below hx
  have hs := say_any [(n0 : Int), (n1 : Int), (n2 : Int), (n3 : Int), (n4 : Int), (n5 : Int), (n6 : Int), (n7 : Int), cc] w2.heap.size 9 (w2.alloc (.cells #[.int .i64 (n0 : Int), .int .i64 (n1 : Int), .int .i64 (n2 : Int), .int .i64 (n3 : Int), .int .i64 (n4 : Int), .int .i64 (n5 : Int), .int .i64 (n6 : Int), .int .i64 (n7 : Int), .int .i64 (cc : Int)] 3)) (Own.new w2 #[.int .i64 (n0 : Int), .int .i64 (n1 : Int), .int .i64 (n2 : Int), .int .i64 (n3 : Int), .int .i64 (n4 : Int), .int .i64 (n5 : Int), .int .i64 (n6 : Int), .int .i64 (n7 : Int), .int .i64 (cc : Int)] 3) (by simp)
  rw [h2] at hs
  have c0 := o2.cell 0 _ rfl
  have c1 := o2.cell 1 _ rfl
  have c2 := o2.cell 2 _ rfl
  have c3 := o2.cell 3 _ rfl
  have c4 := o2.cell 4 _ rfl
  have c5 := o2.cell 5 _ rfl
  have c6 := o2.cell 6 _ rfl
  have c7 := o2.cell 7 _ rfl
  go_wp2_with fail
  refine hs.mono ?_
  rintro e w3 ⟨rfl, rfl⟩
  have hb3 : Below w.heap.size w (w2.alloc (.cells #[.int .i64 (n0 : Int), .int .i64 (n1 : Int), .int .i64 (n2 : Int), .int .i64 (n3 : Int), .int .i64 (n4 : Int), .int .i64 (n5 : Int), .int .i64 (n6 : Int), .int .i64 (n7 : Int), .int .i64 (cc : Int)] 3)) := hb2.alloc hb2.size _
  have o3 := o2.alloc (.cells #[.int .i64 (n0 : Int), .int .i64 (n1 : Int), .int .i64 (n2 : Int), .int .i64 (n3 : Int), .int .i64 (n4 : Int), .int .i64 (n5 : Int), .int .i64 (n6 : Int), .int .i64 (n7 : Int), .int .i64 (cc : Int)] 3)
  generalize hw3 : w2.alloc (.cells #[.int .i64 (n0 : Int), .int .i64 (n1 : Int), .int .i64 (n2 : Int), .int .i64 (n3 : Int), .int .i64 (n4 : Int), .int .i64 (n5 : Int), .int .i64 (n6 : Int), .int .i64 (n7 : Int), .int .i64 (cc : Int)] 3) = w3 at hb3 o3
  clear hs c0 c1 c2 c3 c4 c5 c6 c7 o2 hb2 hx o0 hpc
  have d0 := o3.cell 10 _ rfl
  have d1 := o3.cell 11 _ rfl
  have d2 := o3.cell 12 _ rfl
  have hpw := pprint_any we _ w3 (hP.below hb3) (hT.below hb3)
  unfold exprP at hpw
  rw [if_pos h3] at hpw
  simp only at hpw
  go_wp2_with fail
  refine hpw.mono ?_
  rintro e w4 ⟨rfl, hx4⟩
  have hb4 := hb3.trans (hx4.mono hb3.size)
  have o4 := o3.below hx4
  clear d0 d1 d2 hpw hx4 o3
  have d3 := o4.cell 13 _ rfl
  have d4 := o4.cell 14 _ rfl
  have d5 := o4.cell 15 _ rfl
  have hpp := pprint_any pe _ w4 (hP.below hb4) (hU.below hb4)
  unfold exprP at hpp
  rw [if_pos h4] at hpp
  simp only at hpp
  go_wp2_with fail
  refine hpp.mono ?_
  rintro e w5 ⟨rfl, hx5⟩
  have hb5 := hb4.trans (hx5.mono hb4.size)
  have o5 := o4.below hx5
  clear d3 d4 d5 hpp hx5 o4
  have htw := txt_len h3
  have htp := txt_len h4
  generalize hTW : txtE we = TW at htw ⊢
  generalize hTP : txtE pe = TP at htp ⊢
  have HTW := Lib.hid hTW
  have HTP := Lib.hid hTP
  clear hTW hTP
  generalize hbd : w5.heap.size = b
  have hwl := wld_new (B := b) w5 (by omega)
  rw [hbd] at hwl
  have X0b : Below w.heap.size w (w5.alloc (.cells #[.pointer none, .slice none 0 0] 94)) := hb5.alloc hb5.size _
  have oX := o5.alloc (.cells #[.pointer none, .slice none 0 0] 94)
  have hzb : b ≤ (w5.alloc (.cells #[.pointer none, .slice none 0 0] 94)).heap.size := by simp; omega
  have hob : w.heap.size < b := by have := o5.lt; omega
  have D0 := dec_le9 n0 g0
  have D1 := dec_le9 n1 g1
  have D2 := dec_le9 n2 g2
  have D3 := dec_le9 n3 g3
  have D4 := dec_le9 n4 g4
  have D5 := dec_le9 n5 g5
  have D6 := dec_le9 n6 g6
  have D7 := dec_le9 n7 g7
  have D8 := dec_le9 cc g8
  have L0 : wRate.length = 4 ∧ wLevel.length = 5 ∧ wKind.length = 4 ∧ wNights.length = 6 ∧ wTo.length = 2 ∧ wStay.length = 4 ∧ wArrive.length = 6 ∧ wKeep.length = 4 ∧ wWhen.length = 4 ∧ wPrice.length = 5 := by decide
  obtain ⟨L1, L2, L3, L4, L5, L6, L7, L8, L9, L10⟩ := L0
  go_wp2_with fail
  generalize w5.alloc (.cells #[.pointer none, .slice none 0 0] 94) = W1 at X0b oX hwl hzb ⊢
  have e0 := oX.cell 0 _ rfl
  have e1 := oX.cell 1 _ rfl
  have e2 := oX.cell 2 _ rfl
  have hlt1 := oX.lt
  have hPg1 : ∀ g : Grow W1, PL (up W1 g) := fun g => (hP.below X0b).below (up_below W1 g)
  refine wp_region_uptail 12 (by kernel_rfl) (by kernel_rfl) ?_
  simp only [List.take_succ_cons, List.take_zero, List.drop_succ_cons, List.drop_zero]
  repeat (go_big_quiet_step (first
    | (go_at_call 57; exact Ret.up (pitoa_any n0 (by omega) _ (hPg1 _).tab))
    | (go_at_call 57; exact Ret.up (pitoa_any n1 (by omega) _ (hPg1 _).tab))
    | (go_at_call 57; exact Ret.up (pitoa_any n2 (by omega) _ (hPg1 _).tab))))
  refine wpQuiet_nil ?_
  rintro x1 ⟨gg1, rfl⟩
  have hx1 := up_below W1 gg1
  have hz1 := hx1.size
  have hwa1 := wld_alloc (wld_below hwl hx1) (.cells #[.string ⟨(wRate).toArray⟩, .string ⟨(Lib.decDigits n0).toArray⟩, .string ⟨(wLevel).toArray⟩, .string ⟨(Lib.decDigits n1).toArray⟩, .string ⟨(wKind).toArray⟩, .string ⟨(Lib.decDigits n2).toArray⟩] 9)
  have hoa1 := (oX.below hx1).alloc (.cells #[.string ⟨(wRate).toArray⟩, .string ⟨(Lib.decDigits n0).toArray⟩, .string ⟨(wLevel).toArray⟩, .string ⟨(Lib.decDigits n1).toArray⟩, .string ⟨(wKind).toArray⟩, .string ⟨(Lib.decDigits n2).toArray⟩] 9)
  have hba1 : Below w.heap.size w ((up W1 gg1).alloc (.cells #[.string ⟨(wRate).toArray⟩, .string ⟨(Lib.decDigits n0).toArray⟩, .string ⟨(wLevel).toArray⟩, .string ⟨(Lib.decDigits n1).toArray⟩, .string ⟨(wKind).toArray⟩, .string ⟨(Lib.decDigits n2).toArray⟩] 9)) := (X0b.trans (hx1.mono X0b.size)).alloc (Nat.le_trans X0b.size hz1) _
  have hht1 := heap_top (up W1 gg1) (.cells #[.string ⟨(wRate).toArray⟩, .string ⟨(Lib.decDigits n0).toArray⟩, .string ⟨(wLevel).toArray⟩, .string ⟨(Lib.decDigits n1).toArray⟩, .string ⟨(wKind).toArray⟩, .string ⟨(Lib.decDigits n2).toArray⟩] 9)
  have hbd1 := joinW_bd [wRate, Lib.decDigits n0, wLevel, Lib.decDigits n1, wKind, Lib.decDigits n2] ([] : List UInt8)
  simp only [List.map_cons, List.map_nil, List.sum_cons, List.sum_nil, List.length_nil] at hbd1
  have hza1 : b ≤ ((up W1 gg1).alloc (.cells #[.string ⟨(wRate).toArray⟩, .string ⟨(Lib.decDigits n0).toArray⟩, .string ⟨(wLevel).toArray⟩, .string ⟨(Lib.decDigits n1).toArray⟩, .string ⟨(wKind).toArray⟩, .string ⟨(Lib.decDigits n2).toArray⟩] 9)).heap.size := by simp; omega
  have hlb1 := (wld_lt (wld_below hwl hx1)).2
  clear e0 e1 e2 hPg1
  go_wp2_with fail
  refine (join9_any b b [wRate, Lib.decDigits n0, wLevel, Lib.decDigits n1, wKind, Lib.decDigits n2] (up W1 gg1).heap.size 6 [] _ hwa1 hza1 hht1 (by omega) (by simp) (by omega)).mono ?_
  rintro e W2 ⟨rfl, hwl2, hbl2, hol2⟩
  have P2b := hba1.trans (hbl2.mono (by omega))
  have o2X := own_low hoa1 hbl2 hob
  have hzb2 : b ≤ W2.heap.size := by have := hbl2.size; omega
  generalize hJ1 : joinW [] [wRate, Lib.decDigits n0, wLevel, Lib.decDigits n1, wKind, Lib.decDigits n2] = J1 at hwl2 hbd1
  have HJ1 := Lib.hid hJ1
  clear hJ1 hwa1 hoa1 hba1 hht1 hza1 hbl2 hol2 hx1 hz1 hlb1 hlt1 X0b oX hwl hzb
  go_wp2_with fail
  have e3 := o2X.cell 3 _ rfl
  have e4 := o2X.cell 4 _ rfl
  have hlt2 := o2X.lt
  have hPg2 : ∀ g : Grow W2, PL (up W2 g) := fun g => (hP.below P2b).below (up_below W2 g)
  refine wp_region_uptail 10 (by kernel_rfl) (by kernel_rfl) ?_
  simp only [List.take_succ_cons, List.take_zero, List.drop_succ_cons, List.drop_zero]
  repeat (go_big_quiet_step (first
    | (go_at_call 57; exact Ret.up (pitoa_any n3 (by omega) _ (hPg2 _).tab))
    | (go_at_call 57; exact Ret.up (pitoa_any n4 (by omega) _ (hPg2 _).tab))))
  refine wpQuiet_nil ?_
  rintro x2 ⟨gg2, rfl⟩
  have hx2 := up_below W2 gg2
  have hz2 := hx2.size
  have hwa2 := wld_alloc (wld_below hwl2 hx2) (.cells #[.string ⟨(wNights).toArray⟩, .string ⟨(Lib.decDigits n3).toArray⟩, .string ⟨(wTo).toArray⟩, .string ⟨(Lib.decDigits n4).toArray⟩] 9)
  have hoa2 := (o2X.below hx2).alloc (.cells #[.string ⟨(wNights).toArray⟩, .string ⟨(Lib.decDigits n3).toArray⟩, .string ⟨(wTo).toArray⟩, .string ⟨(Lib.decDigits n4).toArray⟩] 9)
  have hba2 : Below w.heap.size w ((up W2 gg2).alloc (.cells #[.string ⟨(wNights).toArray⟩, .string ⟨(Lib.decDigits n3).toArray⟩, .string ⟨(wTo).toArray⟩, .string ⟨(Lib.decDigits n4).toArray⟩] 9)) := (P2b.trans (hx2.mono P2b.size)).alloc (Nat.le_trans P2b.size hz2) _
  have hht2 := heap_top (up W2 gg2) (.cells #[.string ⟨(wNights).toArray⟩, .string ⟨(Lib.decDigits n3).toArray⟩, .string ⟨(wTo).toArray⟩, .string ⟨(Lib.decDigits n4).toArray⟩] 9)
  have hbd2 := joinW_bd [wNights, Lib.decDigits n3, wTo, Lib.decDigits n4] J1
  simp only [List.map_cons, List.map_nil, List.sum_cons, List.sum_nil, List.length_nil] at hbd2
  have hza2 : b ≤ ((up W2 gg2).alloc (.cells #[.string ⟨(wNights).toArray⟩, .string ⟨(Lib.decDigits n3).toArray⟩, .string ⟨(wTo).toArray⟩, .string ⟨(Lib.decDigits n4).toArray⟩] 9)).heap.size := by simp; omega
  have hlb2 := (wld_lt (wld_below hwl2 hx2)).2
  clear e3 e4 hPg2
  go_wp2_with fail
  refine (join9_any b b [wNights, Lib.decDigits n3, wTo, Lib.decDigits n4] (up W2 gg2).heap.size 4 J1 _ hwa2 hza2 hht2 (by omega) (by simp) (by omega)).mono ?_
  rintro e W3 ⟨rfl, hwl3, hbl3, hol3⟩
  have P3b := hba2.trans (hbl3.mono (by omega))
  have o3X := own_low hoa2 hbl3 hob
  have hzb3 : b ≤ W3.heap.size := by have := hbl3.size; omega
  generalize hJ2 : joinW J1 [wNights, Lib.decDigits n3, wTo, Lib.decDigits n4] = J2 at hwl3 hbd2
  have HJ2 := Lib.hid hJ2
  clear hJ2 hwa2 hoa2 hba2 hht2 hza2 hbl3 hol3 hx2 hz2 hlb2 hlt2 P2b o2X hwl2 hzb2
  go_wp2_with fail
  have e5 := o3X.cell 5 _ rfl
  have e6 := o3X.cell 6 _ rfl
  have e7 := o3X.cell 7 _ rfl
  have hlt3 := o3X.lt
  have hPg3 : ∀ g : Grow W3, PL (up W3 g) := fun g => (hP.below P3b).below (up_below W3 g)
  refine wp_region_uptail 12 (by kernel_rfl) (by kernel_rfl) ?_
  simp only [List.take_succ_cons, List.take_zero, List.drop_succ_cons, List.drop_zero]
  repeat (go_big_quiet_step (first
    | (go_at_call 57; exact Ret.up (pitoa_any n5 (by omega) _ (hPg3 _).tab))
    | (go_at_call 57; exact Ret.up (pitoa_any n6 (by omega) _ (hPg3 _).tab))
    | (go_at_call 57; exact Ret.up (pitoa_any n7 (by omega) _ (hPg3 _).tab))))
  refine wpQuiet_nil ?_
  rintro x3 ⟨gg3, rfl⟩
  have hx3 := up_below W3 gg3
  have hz3 := hx3.size
  have hwa3 := wld_alloc (wld_below hwl3 hx3) (.cells #[.string ⟨(wStay).toArray⟩, .string ⟨(Lib.decDigits n5).toArray⟩, .string ⟨(wTo).toArray⟩, .string ⟨(Lib.decDigits n6).toArray⟩, .string ⟨(wArrive).toArray⟩, .string ⟨(Lib.decDigits n7).toArray⟩] 9)
  have hoa3 := (o3X.below hx3).alloc (.cells #[.string ⟨(wStay).toArray⟩, .string ⟨(Lib.decDigits n5).toArray⟩, .string ⟨(wTo).toArray⟩, .string ⟨(Lib.decDigits n6).toArray⟩, .string ⟨(wArrive).toArray⟩, .string ⟨(Lib.decDigits n7).toArray⟩] 9)
  have hba3 : Below w.heap.size w ((up W3 gg3).alloc (.cells #[.string ⟨(wStay).toArray⟩, .string ⟨(Lib.decDigits n5).toArray⟩, .string ⟨(wTo).toArray⟩, .string ⟨(Lib.decDigits n6).toArray⟩, .string ⟨(wArrive).toArray⟩, .string ⟨(Lib.decDigits n7).toArray⟩] 9)) := (P3b.trans (hx3.mono P3b.size)).alloc (Nat.le_trans P3b.size hz3) _
  have hht3 := heap_top (up W3 gg3) (.cells #[.string ⟨(wStay).toArray⟩, .string ⟨(Lib.decDigits n5).toArray⟩, .string ⟨(wTo).toArray⟩, .string ⟨(Lib.decDigits n6).toArray⟩, .string ⟨(wArrive).toArray⟩, .string ⟨(Lib.decDigits n7).toArray⟩] 9)
  have hbd3 := joinW_bd [wStay, Lib.decDigits n5, wTo, Lib.decDigits n6, wArrive, Lib.decDigits n7] J2
  simp only [List.map_cons, List.map_nil, List.sum_cons, List.sum_nil, List.length_nil] at hbd3
  have hza3 : b ≤ ((up W3 gg3).alloc (.cells #[.string ⟨(wStay).toArray⟩, .string ⟨(Lib.decDigits n5).toArray⟩, .string ⟨(wTo).toArray⟩, .string ⟨(Lib.decDigits n6).toArray⟩, .string ⟨(wArrive).toArray⟩, .string ⟨(Lib.decDigits n7).toArray⟩] 9)).heap.size := by simp; omega
  have hlb3 := (wld_lt (wld_below hwl3 hx3)).2
  clear e5 e6 e7 hPg3
  go_wp2_with fail
  refine (join9_any b b [wStay, Lib.decDigits n5, wTo, Lib.decDigits n6, wArrive, Lib.decDigits n7] (up W3 gg3).heap.size 6 J2 _ hwa3 hza3 hht3 (by omega) (by simp) (by omega)).mono ?_
  rintro e W4 ⟨rfl, hwl4, hbl4, hol4⟩
  have P4b := hba3.trans (hbl4.mono (by omega))
  have o4X := own_low hoa3 hbl4 hob
  have hzb4 : b ≤ W4.heap.size := by have := hbl4.size; omega
  generalize hJ3 : joinW J2 [wStay, Lib.decDigits n5, wTo, Lib.decDigits n6, wArrive, Lib.decDigits n7] = J3 at hwl4 hbd3
  have HJ3 := Lib.hid hJ3
  clear hJ3 hwa3 hoa3 hba3 hht3 hza3 hbl4 hol4 hx3 hz3 hlb3 hlt3 P3b o3X hwl3 hzb3
  go_wp2_with fail
  refine (pitoa_any cc (by omega) W4 (hP.below P4b).tab).mono ?_
  rintro e w6 ⟨rfl, hx6⟩
  have m1 : ¬ (9223372036854775807 < (Lib.decDigits cc).length + 1) := by omega
  have m2 : ¬ (9223372036854775807 < ((Lib.decDigits cc).length : Int) + 1) := by omega
  have m3 : ¬ (9223372036854775807 < TP.length + 1) := by omega
  have m4 : ¬ (9223372036854775807 < (TP.length : Int) + 1) := by omega
  have hz6 := hx6.size
  have P6b := P4b.trans (hx6.mono P4b.size)
  have hwl6 := wld_below hwl4 hx6
  have hlb6 := (wld_lt hwl6).2
  have q1 : ((⟨(Lib.decDigits cc).toArray⟩ : ByteArray) ++ ⟨#[37]⟩) = ⟨(Lib.decDigits cc ++ [37]).toArray⟩ := bytes_app _ [37]
  have q2 : ((⟨TP.toArray⟩ : ByteArray) ++ ⟨#[59]⟩) = ⟨(TP ++ [59]).toArray⟩ := bytes_app _ [59]
  have Q1 := Lib.hid q1
  have Q2 := Lib.hid q2
  clear q1 q2 hx6
  go_wp2_with fail
  rw [Q1.out, Q2.out]
  have hwa6 := wld_alloc hwl6 (.cells #[.string ⟨wKeep.toArray⟩, .string ⟨(Lib.decDigits cc ++ [37]).toArray⟩, .string ⟨wWhen.toArray⟩, .string ⟨TW.toArray⟩, .string ⟨wPrice.toArray⟩, .string ⟨(TP ++ [59]).toArray⟩] 9)
  have hba6 : Below w.heap.size w (w6.alloc (.cells #[.string ⟨wKeep.toArray⟩, .string ⟨(Lib.decDigits cc ++ [37]).toArray⟩, .string ⟨wWhen.toArray⟩, .string ⟨TW.toArray⟩, .string ⟨wPrice.toArray⟩, .string ⟨(TP ++ [59]).toArray⟩] 9)) := P6b.alloc P6b.size _
  have hht6 := heap_top w6 (.cells #[.string ⟨wKeep.toArray⟩, .string ⟨(Lib.decDigits cc ++ [37]).toArray⟩, .string ⟨wWhen.toArray⟩, .string ⟨TW.toArray⟩, .string ⟨wPrice.toArray⟩, .string ⟨(TP ++ [59]).toArray⟩] 9)
  have hbd6 := joinW_bd [wKeep, Lib.decDigits cc ++ [37], wWhen, TW, wPrice, TP ++ [59]] J3
  simp only [List.map_cons, List.map_nil, List.sum_cons, List.sum_nil, List.length_append, List.length_cons, List.length_nil] at hbd6
  have hza6 : b ≤ (w6.alloc (.cells #[.string ⟨wKeep.toArray⟩, .string ⟨(Lib.decDigits cc ++ [37]).toArray⟩, .string ⟨wWhen.toArray⟩, .string ⟨TW.toArray⟩, .string ⟨wPrice.toArray⟩, .string ⟨(TP ++ [59]).toArray⟩] 9)).heap.size := by simp; omega
  refine (join9_any b b [wKeep, Lib.decDigits cc ++ [37], wWhen, TW, wPrice, TP ++ [59]] w6.heap.size 6 J3 _ hwa6 hza6 hht6 (by omega) (by simp) (by omega)).mono ?_
  rintro e w7 ⟨rfl, hwl7, hbl7, hol7⟩
  have P7b := hba6.trans (hbl7.mono (by omega))
  have HR : joinW J3 [wKeep, Lib.decDigits cc ++ [37], wWhen, TW, wPrice, TP ++ [59]] = rateX n0 n1 n2 n3 n4 n5 n6 n7 cc TW TP := by rw [← HJ3.out, ← HJ2.out, ← HJ1.out]; exact rate_joined n0 n1 n2 n3 n4 n5 n6 n7 cc TW TP
  rw [HR] at hwl7 hbd6
  have hne : rateX n0 n1 n2 n3 n4 n5 n6 n7 cc TW TP ≠ [] := by unfold rateX wRate; simp
  have HRX : Hid (rateX n0 n1 n2 n3 n4 n5 n6 n7 cc TW TP = rateX n0 n1 n2 n3 n4 n5 n6 n7 cc (txtE we) (txtE pe)) := Lib.hid (by rw [HTW.out, HTP.out])
  generalize rateX n0 n1 n2 n3 n4 n5 n6 n7 cc TW TP = RX at hwl7 hbd6 hne HRX
  clear HR hwa6 hba6 hht6 hza6 hbl7 hol7
  go_wp2_with fail
  refine (wstring_any b b RX hne (by omega) w7 hwl7).mono ?_
  rintro e w8 ⟨rfl, hb8⟩
  go_wp2_with fail
  go_ret2
  exact Ret.mk (by rw [← HRX.out]; rfl) (P7b.trans (hb8.mono (by omega)))
theorem prate_any {Q R : Nat → Prop} (a0 a1 a2 a3 a4 a5 a6 a7 kn kd : Int) (we pe : Xp) (ad1 ad2 : Option Addr) (cap1 cap2 : Nat) (w : World) (hP : PL w) (hT : Tree Q w we (.agg #[.int .i64 we.o, .int .i64 we.n, .slice ad1 we.ks.length cap1])) (hU : Tree R w pe (.agg #[.int .i64 pe.o, .int .i64 pe.n, .slice ad2 pe.ks.length cap2])) :
    Calls Tryz.prog 27 #[.agg #[.int .i64 (a0 : Int), .int .i64 a1, .int .i64 a2, .int .i64 a3, .int .i64 a4, .int .i64 a5, .int .i64 a6, .int .i64 a7, .int .i64 kn, .int .i64 kd, .int .i64 we.o, .int .i64 we.n, .slice ad1 we.ks.length cap1, .int .i64 pe.o, .int .i64 pe.n, .slice ad2 pe.ks.length cap2]] w (Ret (.tuple #[.string ⟨(rateP a0 a1 a2 a3 a4 a5 a6 a7 kn kd we pe).1.toArray⟩, .int .i64 (rateP a0 a1 a2 a3 a4 a5 a6 a7 kn kd we pe).2]) w) := by
  rw [rateP_eq]
  cases h1 : (pctF kn kd).2 with
  | false => rw [if_neg (by simp)]; exact prate_pct a0 a1 a2 a3 a4 a5 a6 a7 kn kd we pe ad1 ad2 cap1 cap2 w hP hT hU h1
  | true =>
  cases h2 : [a0, a1, a2, a3, a4, a5, a6, a7, (pctF kn kd).1].all nineB with
  | false => rw [if_neg (by simp)]; exact prate_say a0 a1 a2 a3 a4 a5 a6 a7 kn kd we pe ad1 ad2 cap1 cap2 w hP hT hU h1 h2
  | true =>
  cases h3 : validF we with
  | false => rw [if_neg (by simp)]; exact prate_when a0 a1 a2 a3 a4 a5 a6 a7 kn kd we pe ad1 ad2 cap1 cap2 w hP hT hU h1 h2 h3
  | true =>
  cases h4 : validF pe with
  | false => rw [if_neg (by simp)]; exact prate_price a0 a1 a2 a3 a4 a5 a6 a7 kn kd we pe ad1 ad2 cap1 cap2 w hP hT hU h1 h2 h3 h4
  | true =>
    rw [if_pos (by simp)]
    simp only [List.all_cons, List.all_nil, Bool.and_true, Bool.and_eq_true] at h2
    obtain ⟨b0, b1, b2, b3, b4, b5, b6, b7, b8⟩ := h2
    obtain ⟨n0, rfl, g0⟩ := nine_nat b0
    obtain ⟨n1, rfl, g1⟩ := nine_nat b1
    obtain ⟨n2, rfl, g2⟩ := nine_nat b2
    obtain ⟨n3, rfl, g3⟩ := nine_nat b3
    obtain ⟨n4, rfl, g4⟩ := nine_nat b4
    obtain ⟨n5, rfl, g5⟩ := nine_nat b5
    obtain ⟨n6, rfl, g6⟩ := nine_nat b6
    obtain ⟨n7, rfl, g7⟩ := nine_nat b7
    obtain ⟨cc, hc, g8⟩ := nine_nat b8
    rw [hc]
    exact prate_ok n0 n1 n2 n3 n4 n5 n6 n7 kn kd we pe ad1 ad2 cap1 cap2 w hP hT hU g0 g1 g2 g3 g4 g5 g6 g7 cc g8 h1 hc h3 h4
end Go.Proofs.YtlkefcbkpohpgaaGreatDoor
