/-
  The walk of ParserNumbers.
-/
import Derived.Test.YthnlenbfknbmcaaGreatDoorQsh
import Derived.Test.YthnlenbfknbmcaaGreatDoorQsm
import Derived.Test.YthnlenbfknbmcaaGreatDoorQg
import Derived.Test.YthnlenbfknbmcaaGreatDoorQpp
import Derived.Test.YthnlenbfknbmcaaGreatDoorQpo
import Derived.Test.YthnlenbfknbmcaaGreatDoorQt
import Derived.Test.YthnlenbfknbmcaaGreatDoorRef01C
import Derived.Test.YthnlenbfknbmcaaGreatDoorParHead
import Derived.Test.YthnlenbfknbmcaaGreatDoorParWords
import Derived.Test.YthnlenbfknbmcaaGreatDoorLoad
import Derived.Deep.RegionHeld3
import Derived.Deep.DeepCutAuto
import Derived.BigQuiet
namespace Go.Proofs.YthnlenbfknbmcaaGreatDoor
open Go.RowKit Go.Shelf
set_option maxRecDepth 100000
set_option linter.unusedVariables false
set_option linter.unusedSimpArgs false

theorem drB (w : World) : Below w.heap.size w w.drew := (Below.refl w.heap.size w).drew
theorem small_is {e : Xp} (h : smallE e = true) : smallS e := by
  unfold smallE validF at h
  simp only [Bool.and_eq_true, decide_eq_true_eq] at h
  exact ⟨h.1.1.1.1, h.2, h.1.2⟩
theorem small_val {e : Xp} (h : smallE e = true) : validF e = true := by
  unfold smallE at h
  simp only [Bool.and_eq_true] at h
  exact h.1.1
theorem two_trees {w : World} {B : Nat} {a b : Xp} {ada adb : Option Addr} {capa capb : Nat} (h : Own w B [.int .i64 a.o, .int .i64 a.n, .slice ada a.ks.length capa, .int .i64 b.o, .int .i64 b.n, .slice adb b.ks.length capb]) (ha : Tree (fun _ => False) w a (.agg #[.int .i64 a.o, .int .i64 a.n, .slice ada a.ks.length capa])) (hb : Tree (fun _ => False) w b (.agg #[.int .i64 b.o, .int .i64 b.n, .slice adb b.ks.length capb])) : Trees (fun _ => False) w [a, b] (some ⟨B, 0, none⟩) 0 := by
  have := tree_two (Q := fun _ => False) (o := 0) (fun h => h) h ha hb 2
  obtain ⟨ad, cap, e, -, ht⟩ := this.shape
  simp [nodeE, Xp.o, Xp.n, Xp.ks] at e ht
  obtain ⟨e, -⟩ := e
  rw [e]
  exact ht
theorem mk_zero {n d : Int} (h : (mkF n d).2.1 ≠ 0) : (mkF n d).2.2 = 0 := by
  unfold mkF setl at *
  split at h <;> rename_i h1
  · rw [if_pos h1]
    split at h <;> rename_i h2
    · rw [if_pos h2]
    · exact absurd rfl h
  · exact absurd rfl h
theorem mk_pct (c : Nat) (h : c ≤ 999999999) : (mkF c 100).2.2 = 0 := by
  refine mk_zero ?_
  have := (keep_pct c h).1
  unfold keepB vldB fitB at this
  simp only [Bool.and_eq_true, decide_eq_true_eq] at this
  omega
/-- the beginning of the source, so many numbers long -/
def srcT (m0 m1 m2 m3 m4 m5 m6 m7 : Nat) (k : Nat) : List UInt8 := ([(wRate ++ [32]) ++ Lib.decDigits m0, (32 :: (wLevel ++ [32])) ++ Lib.decDigits m1, (32 :: (wKind ++ [32])) ++ Lib.decDigits m2, (32 :: (wNights ++ [32])) ++ Lib.decDigits m3, (32 :: (wTo ++ [32])) ++ Lib.decDigits m4, (32 :: (wStay ++ [32])) ++ Lib.decDigits m5, (32 :: (wTo ++ [32])) ++ Lib.decDigits m6, (32 :: (wArrive ++ [32])) ++ Lib.decDigits m7].take k).flatten
theorem dec_num : ∃ D : Nat → ByteArray, (∀ n, D n = ⟨(Lib.decDigits n).toArray⟩) ∧ (∀ n, n ≤ 999999999 → (D n).size ≤ 9) ∧ ∀ n, n ≤ 999999999 → ∀ w, Calls Tryz.prog 19 #[.int .i64 (n : Nat)] w (Ret (.string (D n)) w) :=
  ⟨fun n => ⟨(Lib.decDigits n).toArray⟩, fun _ => rfl, fun n h => (by have := dec_size 8 n (by omega); simpa [ByteArray.size] using this), fun n h w => rdec_any n (by omega) w⟩
set_option maxHeartbeats 3200000 in
theorem lawN_no (hHd : ∀ w, Lay w → Calls Tryz.prog 6 #[] w (Ret (.bool true) w)) (x0 x1 x2 x3 x4 x5 x6 x7 kp : Nat) (hxb : x0 ≤ 4294967295 ∧ x1 ≤ 4294967295 ∧ x2 ≤ 4294967295 ∧ x3 ≤ 4294967295 ∧ x4 ≤ 4294967295 ∧ x5 ≤ 4294967295 ∧ x6 ≤ 4294967295 ∧ x7 ≤ 4294967295 ∧ kp ≤ 4294967295) (a b : Xp) (va vb : Value) (w : World) (hL : Lay w) (ha : Tree (fun _ => False) w a va) (hb0 : Tree (fun _ => False) w b vb) (hs : [a, b].all smallE = false) : Calls Tryz.prog 5 #[.agg #[.int .u32 (x0 : Nat), .int .u32 (x1 : Nat), .int .u32 (x2 : Nat), .int .u32 (x3 : Nat), .int .u32 (x4 : Nat), .int .u32 (x5 : Nat), .int .u32 (x6 : Nat), .int .u32 (x7 : Nat)], .int .u32 (kp : Nat), va, vb] w (Ret (.bool true) w) := by
  obtain ⟨ada, capa, rfl, -, -⟩ := ha.shape
  obtain ⟨adb, capb, rfl, -, -⟩ := hb0.shape
  obtain ⟨W, hW⟩ : ∃ W, W = (((w.alloc (.cells #[.int .u32 (x0 : Nat), .int .u32 (x1 : Nat), .int .u32 (x2 : Nat), .int .u32 (x3 : Nat), .int .u32 (x4 : Nat), .int .u32 (x5 : Nat), .int .u32 (x6 : Nat), .int .u32 (x7 : Nat)] 41)).alloc (.cells #[.int .i64 a.o, .int .i64 a.n, .slice ada a.ks.length capa] 24)).alloc (.cells #[.int .i64 b.o, .int .i64 b.n, .slice adb b.ks.length capb] 24)) := ⟨_, rfl⟩
  have ox : Own W (w.heap.size) [.int .u32 (x0 : Nat), .int .u32 (x1 : Nat), .int .u32 (x2 : Nat), .int .u32 (x3 : Nat), .int .u32 (x4 : Nat), .int .u32 (x5 : Nat), .int .u32 (x6 : Nat), .int .u32 (x7 : Nat)] := by
    rw [hW]
    have := (((Own.new w #[.int .u32 (x0 : Nat), .int .u32 (x1 : Nat), .int .u32 (x2 : Nat), .int .u32 (x3 : Nat), .int .u32 (x4 : Nat), .int .u32 (x5 : Nat), .int .u32 (x6 : Nat), .int .u32 (x7 : Nat)] 41).alloc (.cells #[.int .i64 a.o, .int .i64 a.n, .slice ada a.ks.length capa] 24)).alloc (.cells #[.int .i64 b.o, .int .i64 b.n, .slice adb b.ks.length capb] 24))
    simpa using this
  have oa : Own W (w.heap.size + 1) [.int .i64 a.o, .int .i64 a.n, .slice ada a.ks.length capa] := by
    rw [hW]
    have := ((Own.new (w.alloc (.cells #[.int .u32 (x0 : Nat), .int .u32 (x1 : Nat), .int .u32 (x2 : Nat), .int .u32 (x3 : Nat), .int .u32 (x4 : Nat), .int .u32 (x5 : Nat), .int .u32 (x6 : Nat), .int .u32 (x7 : Nat)] 41)) #[.int .i64 a.o, .int .i64 a.n, .slice ada a.ks.length capa] 24).alloc (.cells #[.int .i64 b.o, .int .i64 b.n, .slice adb b.ks.length capb] 24))
    simpa using this
  have ob : Own W (w.heap.size + 2) [.int .i64 b.o, .int .i64 b.n, .slice adb b.ks.length capb] := by
    rw [hW]
    have := (Own.new ((w.alloc (.cells #[.int .u32 (x0 : Nat), .int .u32 (x1 : Nat), .int .u32 (x2 : Nat), .int .u32 (x3 : Nat), .int .u32 (x4 : Nat), .int .u32 (x5 : Nat), .int .u32 (x6 : Nat), .int .u32 (x7 : Nat)] 41)).alloc (.cells #[.int .i64 a.o, .int .i64 a.n, .slice ada a.ks.length capa] 24)) #[.int .i64 b.o, .int .i64 b.n, .slice adb b.ks.length capb] 24)
    simpa using this
  have hb : Below w.heap.size w W := by rw [hW]; exact balloc (balloc (balloc (Below.refl _ _) _) _) _
  have hH := hHd _ (hL.below hb)
  have Ta := ha.below hb
  have Tb := hb0.below hb
  clear ha hb0 hHd
  go_enter Tryz.func5, Tryz.ntmps5
  go_wp2_with fail
  rw [← hW]
  clear hW
  refine hH.mono ?_
  rintro e w1 ⟨rfl, hx⟩
  clear hH
  first | with_reducible replace ox := ox.below hx | with_reducible replace ox := (ox.below (alB _ _)).below hx | with_reducible replace ox := (ox.below (drB _)).below hx | with_reducible replace ox := ((ox.below (alB _ _)).below (drB _)).below hx | with_reducible replace ox := ((ox.below (alB _ _)).below (alB _ _)).below hx
  first | with_reducible replace oa := oa.below hx | with_reducible replace oa := (oa.below (alB _ _)).below hx | with_reducible replace oa := (oa.below (drB _)).below hx | with_reducible replace oa := ((oa.below (alB _ _)).below (drB _)).below hx | with_reducible replace oa := ((oa.below (alB _ _)).below (alB _ _)).below hx
  first | with_reducible replace ob := ob.below hx | with_reducible replace ob := (ob.below (alB _ _)).below hx | with_reducible replace ob := (ob.below (drB _)).below hx | with_reducible replace ob := ((ob.below (alB _ _)).below (drB _)).below hx | with_reducible replace ob := ((ob.below (alB _ _)).below (alB _ _)).below hx
  first | with_reducible replace Ta := Ta.below hx | with_reducible replace Ta := (Ta.below (alB _ _)).below hx | with_reducible replace Ta := (Ta.below (drB _)).below hx | with_reducible replace Ta := ((Ta.below (alB _ _)).below (drB _)).below hx | with_reducible replace Ta := ((Ta.below (alB _ _)).below (alB _ _)).below hx
  first | with_reducible replace Tb := Tb.below hx | with_reducible replace Tb := (Tb.below (alB _ _)).below hx | with_reducible replace Tb := (Tb.below (drB _)).below hx | with_reducible replace Tb := ((Tb.below (alB _ _)).below (drB _)).below hx | with_reducible replace Tb := ((Tb.below (alB _ _)).below (alB _ _)).below hx
  first | with_reducible replace hb := hb.trans (hx.mono hb.size) | with_reducible replace hb := (balloc hb _).trans (hx.mono (balloc hb _).size) | with_reducible replace hb := (hb.trans ((drB _).mono hb.size)).trans (hx.mono (hb.trans ((drB _).mono hb.size)).size) | with_reducible replace hb := ((balloc hb _).trans ((drB _).mono (balloc hb _).size)).trans (hx.mono ((balloc hb _).trans ((drB _).mono (balloc hb _).size)).size) | with_reducible replace hb := (balloc (balloc hb _) _).trans (hx.mono (balloc (balloc hb _) _).size)
  clear hx
  obtain ⟨ra0, ra1, ra2, -, -, -, raz⟩ := oa.three
  obtain ⟨rb0, rb1, rb2, -, -, -, rbz⟩ := ob.three
  go_wp2_with fail
  clear ra0 ra1 ra2 raz rb0 rb1 rb2 rbz
  have os := Own.new w1 #[.int .i64 a.o, .int .i64 a.n, .slice ada a.ks.length capa, .int .i64 b.o, .int .i64 b.n, .slice adb b.ks.length capb] 24
  have TS := two_trees os (Ta.below (alB w1 (.cells #[.int .i64 a.o, .int .i64 a.n, .slice ada a.ks.length capa, .int .i64 b.o, .int .i64 b.n, .slice adb b.ks.length capb] 24))) (Tb.below (alB w1 (.cells #[.int .i64 a.o, .int .i64 a.n, .slice ada a.ks.length capa, .int .i64 b.o, .int .i64 b.n, .slice adb b.ks.length capb] 24)))
  have hSm := small_any (fun _ => False) [a, b] _ 2 _ (by simp) TS
  rw [hs] at hSm
  refine hSm.mono ?_
  rintro e w2 ⟨rfl, hx⟩
  clear hSm TS os
  first | with_reducible replace ox := ox.below hx | with_reducible replace ox := (ox.below (alB _ _)).below hx | with_reducible replace ox := (ox.below (drB _)).below hx | with_reducible replace ox := ((ox.below (alB _ _)).below (drB _)).below hx | with_reducible replace ox := ((ox.below (alB _ _)).below (alB _ _)).below hx
  first | with_reducible replace oa := oa.below hx | with_reducible replace oa := (oa.below (alB _ _)).below hx | with_reducible replace oa := (oa.below (drB _)).below hx | with_reducible replace oa := ((oa.below (alB _ _)).below (drB _)).below hx | with_reducible replace oa := ((oa.below (alB _ _)).below (alB _ _)).below hx
  first | with_reducible replace ob := ob.below hx | with_reducible replace ob := (ob.below (alB _ _)).below hx | with_reducible replace ob := (ob.below (drB _)).below hx | with_reducible replace ob := ((ob.below (alB _ _)).below (drB _)).below hx | with_reducible replace ob := ((ob.below (alB _ _)).below (alB _ _)).below hx
  first | with_reducible replace Ta := Ta.below hx | with_reducible replace Ta := (Ta.below (alB _ _)).below hx | with_reducible replace Ta := (Ta.below (drB _)).below hx | with_reducible replace Ta := ((Ta.below (alB _ _)).below (drB _)).below hx | with_reducible replace Ta := ((Ta.below (alB _ _)).below (alB _ _)).below hx
  first | with_reducible replace Tb := Tb.below hx | with_reducible replace Tb := (Tb.below (alB _ _)).below hx | with_reducible replace Tb := (Tb.below (drB _)).below hx | with_reducible replace Tb := ((Tb.below (alB _ _)).below (drB _)).below hx | with_reducible replace Tb := ((Tb.below (alB _ _)).below (alB _ _)).below hx
  first | with_reducible replace hb := hb.trans (hx.mono hb.size) | with_reducible replace hb := (balloc hb _).trans (hx.mono (balloc hb _).size) | with_reducible replace hb := (hb.trans ((drB _).mono hb.size)).trans (hx.mono (hb.trans ((drB _).mono hb.size)).size) | with_reducible replace hb := ((balloc hb _).trans ((drB _).mono (balloc hb _).size)).trans (hx.mono ((balloc hb _).trans ((drB _).mono (balloc hb _).size)).size) | with_reducible replace hb := (balloc (balloc hb _) _).trans (hx.mono (balloc (balloc hb _) _).size)
  clear hx
  go_wp2_with fail
  go_ret
  exact Ret.mk rfl hb
set_option maxHeartbeats 16000000 in
theorem lawN_yes (hHd : ∀ w, Lay w → Calls Tryz.prog 6 #[] w (Ret (.bool true) w)) (x0 x1 x2 x3 x4 x5 x6 x7 kp : Nat) (hxb : x0 ≤ 4294967295 ∧ x1 ≤ 4294967295 ∧ x2 ≤ 4294967295 ∧ x3 ≤ 4294967295 ∧ x4 ≤ 4294967295 ∧ x5 ≤ 4294967295 ∧ x6 ≤ 4294967295 ∧ x7 ≤ 4294967295 ∧ kp ≤ 4294967295) (a b : Xp) (va vb : Value) (w : World) (hL : Lay w) (ha : Tree (fun _ => False) w a va) (hb0 : Tree (fun _ => False) w b vb) (hs : [a, b].all smallE = true) : Calls Tryz.prog 5 #[.agg #[.int .u32 (x0 : Nat), .int .u32 (x1 : Nat), .int .u32 (x2 : Nat), .int .u32 (x3 : Nat), .int .u32 (x4 : Nat), .int .u32 (x5 : Nat), .int .u32 (x6 : Nat), .int .u32 (x7 : Nat)], .int .u32 (kp : Nat), va, vb] w (Ret (.bool true) w) := by
  obtain ⟨ada, capa, rfl, -, -⟩ := ha.shape
  obtain ⟨adb, capb, rfl, -, -⟩ := hb0.shape
  obtain ⟨W, hW⟩ : ∃ W, W = (((w.alloc (.cells #[.int .u32 (x0 : Nat), .int .u32 (x1 : Nat), .int .u32 (x2 : Nat), .int .u32 (x3 : Nat), .int .u32 (x4 : Nat), .int .u32 (x5 : Nat), .int .u32 (x6 : Nat), .int .u32 (x7 : Nat)] 41)).alloc (.cells #[.int .i64 a.o, .int .i64 a.n, .slice ada a.ks.length capa] 24)).alloc (.cells #[.int .i64 b.o, .int .i64 b.n, .slice adb b.ks.length capb] 24)) := ⟨_, rfl⟩
  have ox : Own W (w.heap.size) [.int .u32 (x0 : Nat), .int .u32 (x1 : Nat), .int .u32 (x2 : Nat), .int .u32 (x3 : Nat), .int .u32 (x4 : Nat), .int .u32 (x5 : Nat), .int .u32 (x6 : Nat), .int .u32 (x7 : Nat)] := by
    rw [hW]
    have := (((Own.new w #[.int .u32 (x0 : Nat), .int .u32 (x1 : Nat), .int .u32 (x2 : Nat), .int .u32 (x3 : Nat), .int .u32 (x4 : Nat), .int .u32 (x5 : Nat), .int .u32 (x6 : Nat), .int .u32 (x7 : Nat)] 41).alloc (.cells #[.int .i64 a.o, .int .i64 a.n, .slice ada a.ks.length capa] 24)).alloc (.cells #[.int .i64 b.o, .int .i64 b.n, .slice adb b.ks.length capb] 24))
    simpa using this
  have oa : Own W (w.heap.size + 1) [.int .i64 a.o, .int .i64 a.n, .slice ada a.ks.length capa] := by
    rw [hW]
    have := ((Own.new (w.alloc (.cells #[.int .u32 (x0 : Nat), .int .u32 (x1 : Nat), .int .u32 (x2 : Nat), .int .u32 (x3 : Nat), .int .u32 (x4 : Nat), .int .u32 (x5 : Nat), .int .u32 (x6 : Nat), .int .u32 (x7 : Nat)] 41)) #[.int .i64 a.o, .int .i64 a.n, .slice ada a.ks.length capa] 24).alloc (.cells #[.int .i64 b.o, .int .i64 b.n, .slice adb b.ks.length capb] 24))
    simpa using this
  have ob : Own W (w.heap.size + 2) [.int .i64 b.o, .int .i64 b.n, .slice adb b.ks.length capb] := by
    rw [hW]
    have := (Own.new ((w.alloc (.cells #[.int .u32 (x0 : Nat), .int .u32 (x1 : Nat), .int .u32 (x2 : Nat), .int .u32 (x3 : Nat), .int .u32 (x4 : Nat), .int .u32 (x5 : Nat), .int .u32 (x6 : Nat), .int .u32 (x7 : Nat)] 41)).alloc (.cells #[.int .i64 a.o, .int .i64 a.n, .slice ada a.ks.length capa] 24)) #[.int .i64 b.o, .int .i64 b.n, .slice adb b.ks.length capb] 24)
    simpa using this
  have hb : Below w.heap.size w W := by rw [hW]; exact balloc (balloc (balloc (Below.refl _ _) _) _) _
  have hH := hHd _ (hL.below hb)
  have Ta := ha.below hb
  have Tb := hb0.below hb
  have hsa : smallE a = true ∧ smallE b = true := by simpa using hs
  obtain ⟨va, vb⟩ := hsa
  have ma := small_is va
  have mb := small_is vb
  replace va := small_val va
  replace vb := small_val vb
  obtain ⟨hx0, hx1, hx2, hx3, hx4, hx5, hx6, hx7, hxk⟩ := hxb
  obtain ⟨m0, em0⟩ : ∃ m, m = x0 % 1000000000 := ⟨_, rfl⟩
  have hm0 : m0 ≤ 999999999 := by omega
  obtain ⟨m1, em1⟩ : ∃ m, m = x1 % 1000000000 := ⟨_, rfl⟩
  have hm1 : m1 ≤ 999999999 := by omega
  obtain ⟨m2, em2⟩ : ∃ m, m = x2 % 1000000000 := ⟨_, rfl⟩
  have hm2 : m2 ≤ 999999999 := by omega
  obtain ⟨m3, em3⟩ : ∃ m, m = x3 % 1000000000 := ⟨_, rfl⟩
  have hm3 : m3 ≤ 999999999 := by omega
  obtain ⟨m4, em4⟩ : ∃ m, m = x4 % 1000000000 := ⟨_, rfl⟩
  have hm4 : m4 ≤ 999999999 := by omega
  obtain ⟨m5, em5⟩ : ∃ m, m = x5 % 1000000000 := ⟨_, rfl⟩
  have hm5 : m5 ≤ 999999999 := by omega
  obtain ⟨m6, em6⟩ : ∃ m, m = x6 % 1000000000 := ⟨_, rfl⟩
  have hm6 : m6 ≤ 999999999 := by omega
  obtain ⟨m7, em7⟩ : ∃ m, m = x7 % 1000000000 := ⟨_, rfl⟩
  have hm7 : m7 ≤ 999999999 := by omega
  obtain ⟨m8, em8⟩ : ∃ m, m = kp % 1000000000 := ⟨_, rfl⟩
  have hm8 : m8 ≤ 999999999 := by omega
  have hr0 : (x0 : Int).tmod 1000000000 = (m0 : Int) := by rw [em0, Int.tmod_eq_emod_of_nonneg (by omega)]; omega
  have hw0 : IntKind.i64.wrap (m0 : Int) = (m0 : Int) := IntWalk.i64_in _ (by omega)
  have hv0 : IntKind.u32.wrap (m0 : Int) = (m0 : Int) := IntWalk.u32_in _ (by omega)
  have hr1 : (x1 : Int).tmod 1000000000 = (m1 : Int) := by rw [em1, Int.tmod_eq_emod_of_nonneg (by omega)]; omega
  have hw1 : IntKind.i64.wrap (m1 : Int) = (m1 : Int) := IntWalk.i64_in _ (by omega)
  have hv1 : IntKind.u32.wrap (m1 : Int) = (m1 : Int) := IntWalk.u32_in _ (by omega)
  have hr2 : (x2 : Int).tmod 1000000000 = (m2 : Int) := by rw [em2, Int.tmod_eq_emod_of_nonneg (by omega)]; omega
  have hw2 : IntKind.i64.wrap (m2 : Int) = (m2 : Int) := IntWalk.i64_in _ (by omega)
  have hv2 : IntKind.u32.wrap (m2 : Int) = (m2 : Int) := IntWalk.u32_in _ (by omega)
  have hr3 : (x3 : Int).tmod 1000000000 = (m3 : Int) := by rw [em3, Int.tmod_eq_emod_of_nonneg (by omega)]; omega
  have hw3 : IntKind.i64.wrap (m3 : Int) = (m3 : Int) := IntWalk.i64_in _ (by omega)
  have hv3 : IntKind.u32.wrap (m3 : Int) = (m3 : Int) := IntWalk.u32_in _ (by omega)
  have hr4 : (x4 : Int).tmod 1000000000 = (m4 : Int) := by rw [em4, Int.tmod_eq_emod_of_nonneg (by omega)]; omega
  have hw4 : IntKind.i64.wrap (m4 : Int) = (m4 : Int) := IntWalk.i64_in _ (by omega)
  have hv4 : IntKind.u32.wrap (m4 : Int) = (m4 : Int) := IntWalk.u32_in _ (by omega)
  have hr5 : (x5 : Int).tmod 1000000000 = (m5 : Int) := by rw [em5, Int.tmod_eq_emod_of_nonneg (by omega)]; omega
  have hw5 : IntKind.i64.wrap (m5 : Int) = (m5 : Int) := IntWalk.i64_in _ (by omega)
  have hv5 : IntKind.u32.wrap (m5 : Int) = (m5 : Int) := IntWalk.u32_in _ (by omega)
  have hr6 : (x6 : Int).tmod 1000000000 = (m6 : Int) := by rw [em6, Int.tmod_eq_emod_of_nonneg (by omega)]; omega
  have hw6 : IntKind.i64.wrap (m6 : Int) = (m6 : Int) := IntWalk.i64_in _ (by omega)
  have hv6 : IntKind.u32.wrap (m6 : Int) = (m6 : Int) := IntWalk.u32_in _ (by omega)
  have hr7 : (x7 : Int).tmod 1000000000 = (m7 : Int) := by rw [em7, Int.tmod_eq_emod_of_nonneg (by omega)]; omega
  have hw7 : IntKind.i64.wrap (m7 : Int) = (m7 : Int) := IntWalk.i64_in _ (by omega)
  have hv7 : IntKind.u32.wrap (m7 : Int) = (m7 : Int) := IntWalk.u32_in _ (by omega)
  have hr8 : (kp : Int).tmod 1000000000 = (m8 : Int) := by rw [em8, Int.tmod_eq_emod_of_nonneg (by omega)]; omega
  have hw8 : IntKind.i64.wrap (m8 : Int) = (m8 : Int) := IntWalk.i64_in _ (by omega)
  have hv8 : IntKind.u32.wrap (m8 : Int) = (m8 : Int) := IntWalk.u32_in _ (by omega)
  clear em0 em1 em2 em3 em4 em5 em6 em7 em8
  clear ha hb0 hHd
  go_enter Tryz.func5, Tryz.ntmps5
  go_wp2_with fail
  rw [← hW]
  clear hW
  refine hH.mono ?_
  rintro e w1 ⟨rfl, hx⟩
  clear hH
  first | with_reducible replace ox := ox.below hx | with_reducible replace ox := (ox.below (alB _ _)).below hx | with_reducible replace ox := (ox.below (drB _)).below hx | with_reducible replace ox := ((ox.below (alB _ _)).below (drB _)).below hx | with_reducible replace ox := ((ox.below (alB _ _)).below (alB _ _)).below hx
  first | with_reducible replace oa := oa.below hx | with_reducible replace oa := (oa.below (alB _ _)).below hx | with_reducible replace oa := (oa.below (drB _)).below hx | with_reducible replace oa := ((oa.below (alB _ _)).below (drB _)).below hx | with_reducible replace oa := ((oa.below (alB _ _)).below (alB _ _)).below hx
  first | with_reducible replace ob := ob.below hx | with_reducible replace ob := (ob.below (alB _ _)).below hx | with_reducible replace ob := (ob.below (drB _)).below hx | with_reducible replace ob := ((ob.below (alB _ _)).below (drB _)).below hx | with_reducible replace ob := ((ob.below (alB _ _)).below (alB _ _)).below hx
  first | with_reducible replace Ta := Ta.below hx | with_reducible replace Ta := (Ta.below (alB _ _)).below hx | with_reducible replace Ta := (Ta.below (drB _)).below hx | with_reducible replace Ta := ((Ta.below (alB _ _)).below (drB _)).below hx | with_reducible replace Ta := ((Ta.below (alB _ _)).below (alB _ _)).below hx
  first | with_reducible replace Tb := Tb.below hx | with_reducible replace Tb := (Tb.below (alB _ _)).below hx | with_reducible replace Tb := (Tb.below (drB _)).below hx | with_reducible replace Tb := ((Tb.below (alB _ _)).below (drB _)).below hx | with_reducible replace Tb := ((Tb.below (alB _ _)).below (alB _ _)).below hx
  first | with_reducible replace hb := hb.trans (hx.mono hb.size) | with_reducible replace hb := (balloc hb _).trans (hx.mono (balloc hb _).size) | with_reducible replace hb := (hb.trans ((drB _).mono hb.size)).trans (hx.mono (hb.trans ((drB _).mono hb.size)).size) | with_reducible replace hb := ((balloc hb _).trans ((drB _).mono (balloc hb _).size)).trans (hx.mono ((balloc hb _).trans ((drB _).mono (balloc hb _).size)).size) | with_reducible replace hb := (balloc (balloc hb _) _).trans (hx.mono (balloc (balloc hb _) _).size)
  clear hx
  obtain ⟨ra0, ra1, ra2, -, -, -, raz⟩ := oa.three
  obtain ⟨rb0, rb1, rb2, -, -, -, rbz⟩ := ob.three
  go_wp2_with fail
  clear ra0 ra1 ra2 raz rb0 rb1 rb2 rbz
  have os := Own.new w1 #[.int .i64 a.o, .int .i64 a.n, .slice ada a.ks.length capa, .int .i64 b.o, .int .i64 b.n, .slice adb b.ks.length capb] 24
  have TS := two_trees os (Ta.below (alB w1 (.cells #[.int .i64 a.o, .int .i64 a.n, .slice ada a.ks.length capa, .int .i64 b.o, .int .i64 b.n, .slice adb b.ks.length capb] 24))) (Tb.below (alB w1 (.cells #[.int .i64 a.o, .int .i64 a.n, .slice ada a.ks.length capa, .int .i64 b.o, .int .i64 b.n, .slice adb b.ks.length capb] 24)))
  have hSm := small_any (fun _ => False) [a, b] _ 2 _ (by simp) TS
  rw [hs] at hSm
  refine hSm.mono ?_
  rintro e w2 ⟨rfl, hx⟩
  clear hSm TS os
  first | with_reducible replace ox := ox.below hx | with_reducible replace ox := (ox.below (alB _ _)).below hx | with_reducible replace ox := (ox.below (drB _)).below hx | with_reducible replace ox := ((ox.below (alB _ _)).below (drB _)).below hx | with_reducible replace ox := ((ox.below (alB _ _)).below (alB _ _)).below hx
  first | with_reducible replace oa := oa.below hx | with_reducible replace oa := (oa.below (alB _ _)).below hx | with_reducible replace oa := (oa.below (drB _)).below hx | with_reducible replace oa := ((oa.below (alB _ _)).below (drB _)).below hx | with_reducible replace oa := ((oa.below (alB _ _)).below (alB _ _)).below hx
  first | with_reducible replace ob := ob.below hx | with_reducible replace ob := (ob.below (alB _ _)).below hx | with_reducible replace ob := (ob.below (drB _)).below hx | with_reducible replace ob := ((ob.below (alB _ _)).below (drB _)).below hx | with_reducible replace ob := ((ob.below (alB _ _)).below (alB _ _)).below hx
  first | with_reducible replace Ta := Ta.below hx | with_reducible replace Ta := (Ta.below (alB _ _)).below hx | with_reducible replace Ta := (Ta.below (drB _)).below hx | with_reducible replace Ta := ((Ta.below (alB _ _)).below (drB _)).below hx | with_reducible replace Ta := ((Ta.below (alB _ _)).below (alB _ _)).below hx
  first | with_reducible replace Tb := Tb.below hx | with_reducible replace Tb := (Tb.below (alB _ _)).below hx | with_reducible replace Tb := (Tb.below (drB _)).below hx | with_reducible replace Tb := ((Tb.below (alB _ _)).below (drB _)).below hx | with_reducible replace Tb := ((Tb.below (alB _ _)).below (alB _ _)).below hx
  first | with_reducible replace hb := hb.trans (hx.mono hb.size) | with_reducible replace hb := (balloc hb _).trans (hx.mono (balloc hb _).size) | with_reducible replace hb := (hb.trans ((drB _).mono hb.size)).trans (hx.mono (hb.trans ((drB _).mono hb.size)).size) | with_reducible replace hb := ((balloc hb _).trans ((drB _).mono (balloc hb _).size)).trans (hx.mono ((balloc hb _).trans ((drB _).mono (balloc hb _).size)).size) | with_reducible replace hb := (balloc (balloc hb _) _).trans (hx.mono (balloc (balloc hb _) _).size)
  clear hx
  clear hs
  go_wp2_with fail
  have on := Own.new w2 #[.int .i64 0, .int .i64 0, .int .i64 0, .int .i64 0, .int .i64 0, .int .i64 0, .int .i64 0, .int .i64 0] 42
  have bn := alB w2 (.cells #[.int .i64 0, .int .i64 0, .int .i64 0, .int .i64 0, .int .i64 0, .int .i64 0, .int .i64 0, .int .i64 0] 42)
  go_loopw [11] (fun i wr => ∃ k : Nat, i = .int .i64 k ∧ k ≤ 8 ∧ Own wr w2.heap.size (([.int .i64 (m0 : Nat), .int .i64 (m1 : Nat), .int .i64 (m2 : Nat), .int .i64 (m3 : Nat), .int .i64 (m4 : Nat), .int .i64 (m5 : Nat), .int .i64 (m6 : Nat), .int .i64 (m7 : Nat)] : List Value).take k ++ ([.int .i64 0, .int .i64 0, .int .i64 0, .int .i64 0, .int .i64 0, .int .i64 0, .int .i64 0, .int .i64 0] : List Value).drop k) ∧ Below w2.heap.size w2 wr) (fun i _ => 8 - (intOf i).toNat)
  case atStart => exact ⟨0, rfl, by omega, on, bn⟩
  case round =>
    obtain ⟨k, rfl, hk8, hown, q2⟩ := hrel
    have hox := ox.below q2
    rcases (show k = 0 ∨ k = 1 ∨ k = 2 ∨ k = 3 ∨ k = 4 ∨ k = 5 ∨ k = 6 ∨ k = 7 ∨ k = 8 by omega) with rfl | rfl | rfl | rfl | rfl | rfl | rfl | rfl | rfl
    · replace hown : Own wr w2.heap.size [.int .i64 0, .int .i64 0, .int .i64 0, .int .i64 0, .int .i64 0, .int .i64 0, .int .i64 0, .int .i64 0] := hown
      have c0 := hox.cell 0 _ rfl
      have c1 := hown.cell 0 _ rfl
      have c2 := hown.fro 0 _ rfl
      have hfin := hown.setAt (i := 0) (.int .i64 (m0 : Nat)) (by simp)
      have hbel := Below.setCell q2 (p := ⟨w2.heap.size, 0, none⟩) (Nat.le_refl _) (.int .i64 (m0 : Nat))
      clear hown hox q2
      go_wp2_with fail
      go_roundw
      case rel => exact ⟨1, by go_num, by omega, hfin, hbel⟩
      case measure => simp [intOf]
    · replace hown : Own wr w2.heap.size [.int .i64 (m0 : Nat), .int .i64 0, .int .i64 0, .int .i64 0, .int .i64 0, .int .i64 0, .int .i64 0, .int .i64 0] := hown
      have c0 := hox.cell 1 _ rfl
      have c1 := hown.cell 1 _ rfl
      have c2 := hown.fro 1 _ rfl
      have hfin := hown.setAt (i := 1) (.int .i64 (m1 : Nat)) (by simp)
      have hbel := Below.setCell q2 (p := ⟨w2.heap.size, 1, none⟩) (Nat.le_refl _) (.int .i64 (m1 : Nat))
      clear hown hox q2
      go_wp2_with fail
      go_roundw
      case rel => exact ⟨2, by go_num, by omega, hfin, hbel⟩
      case measure => simp [intOf]
    · replace hown : Own wr w2.heap.size [.int .i64 (m0 : Nat), .int .i64 (m1 : Nat), .int .i64 0, .int .i64 0, .int .i64 0, .int .i64 0, .int .i64 0, .int .i64 0] := hown
      have c0 := hox.cell 2 _ rfl
      have c1 := hown.cell 2 _ rfl
      have c2 := hown.fro 2 _ rfl
      have hfin := hown.setAt (i := 2) (.int .i64 (m2 : Nat)) (by simp)
      have hbel := Below.setCell q2 (p := ⟨w2.heap.size, 2, none⟩) (Nat.le_refl _) (.int .i64 (m2 : Nat))
      clear hown hox q2
      go_wp2_with fail
      go_roundw
      case rel => exact ⟨3, by go_num, by omega, hfin, hbel⟩
      case measure => simp [intOf]
    · replace hown : Own wr w2.heap.size [.int .i64 (m0 : Nat), .int .i64 (m1 : Nat), .int .i64 (m2 : Nat), .int .i64 0, .int .i64 0, .int .i64 0, .int .i64 0, .int .i64 0] := hown
      have c0 := hox.cell 3 _ rfl
      have c1 := hown.cell 3 _ rfl
      have c2 := hown.fro 3 _ rfl
      have hfin := hown.setAt (i := 3) (.int .i64 (m3 : Nat)) (by simp)
      have hbel := Below.setCell q2 (p := ⟨w2.heap.size, 3, none⟩) (Nat.le_refl _) (.int .i64 (m3 : Nat))
      clear hown hox q2
      go_wp2_with fail
      go_roundw
      case rel => exact ⟨4, by go_num, by omega, hfin, hbel⟩
      case measure => simp [intOf]
    · replace hown : Own wr w2.heap.size [.int .i64 (m0 : Nat), .int .i64 (m1 : Nat), .int .i64 (m2 : Nat), .int .i64 (m3 : Nat), .int .i64 0, .int .i64 0, .int .i64 0, .int .i64 0] := hown
      have c0 := hox.cell 4 _ rfl
      have c1 := hown.cell 4 _ rfl
      have c2 := hown.fro 4 _ rfl
      have hfin := hown.setAt (i := 4) (.int .i64 (m4 : Nat)) (by simp)
      have hbel := Below.setCell q2 (p := ⟨w2.heap.size, 4, none⟩) (Nat.le_refl _) (.int .i64 (m4 : Nat))
      clear hown hox q2
      go_wp2_with fail
      go_roundw
      case rel => exact ⟨5, by go_num, by omega, hfin, hbel⟩
      case measure => simp [intOf]
    · replace hown : Own wr w2.heap.size [.int .i64 (m0 : Nat), .int .i64 (m1 : Nat), .int .i64 (m2 : Nat), .int .i64 (m3 : Nat), .int .i64 (m4 : Nat), .int .i64 0, .int .i64 0, .int .i64 0] := hown
      have c0 := hox.cell 5 _ rfl
      have c1 := hown.cell 5 _ rfl
      have c2 := hown.fro 5 _ rfl
      have hfin := hown.setAt (i := 5) (.int .i64 (m5 : Nat)) (by simp)
      have hbel := Below.setCell q2 (p := ⟨w2.heap.size, 5, none⟩) (Nat.le_refl _) (.int .i64 (m5 : Nat))
      clear hown hox q2
      go_wp2_with fail
      go_roundw
      case rel => exact ⟨6, by go_num, by omega, hfin, hbel⟩
      case measure => simp [intOf]
    · replace hown : Own wr w2.heap.size [.int .i64 (m0 : Nat), .int .i64 (m1 : Nat), .int .i64 (m2 : Nat), .int .i64 (m3 : Nat), .int .i64 (m4 : Nat), .int .i64 (m5 : Nat), .int .i64 0, .int .i64 0] := hown
      have c0 := hox.cell 6 _ rfl
      have c1 := hown.cell 6 _ rfl
      have c2 := hown.fro 6 _ rfl
      have hfin := hown.setAt (i := 6) (.int .i64 (m6 : Nat)) (by simp)
      have hbel := Below.setCell q2 (p := ⟨w2.heap.size, 6, none⟩) (Nat.le_refl _) (.int .i64 (m6 : Nat))
      clear hown hox q2
      go_wp2_with fail
      go_roundw
      case rel => exact ⟨7, by go_num, by omega, hfin, hbel⟩
      case measure => simp [intOf]
    · replace hown : Own wr w2.heap.size [.int .i64 (m0 : Nat), .int .i64 (m1 : Nat), .int .i64 (m2 : Nat), .int .i64 (m3 : Nat), .int .i64 (m4 : Nat), .int .i64 (m5 : Nat), .int .i64 (m6 : Nat), .int .i64 0] := hown
      have c0 := hox.cell 7 _ rfl
      have c1 := hown.cell 7 _ rfl
      have c2 := hown.fro 7 _ rfl
      have hfin := hown.setAt (i := 7) (.int .i64 (m7 : Nat)) (by simp)
      have hbel := Below.setCell q2 (p := ⟨w2.heap.size, 7, none⟩) (Nat.le_refl _) (.int .i64 (m7 : Nat))
      clear hown hox q2
      go_wp2_with fail
      go_roundw
      case rel => exact ⟨8, by go_num, by omega, hfin, hbel⟩
      case measure => simp [intOf]
    · replace hown : Own wr w2.heap.size [.int .i64 (m0 : Nat), .int .i64 (m1 : Nat), .int .i64 (m2 : Nat), .int .i64 (m3 : Nat), .int .i64 (m4 : Nat), .int .i64 (m5 : Nat), .int .i64 (m6 : Nat), .int .i64 (m7 : Nat)] := hown
      clear hox on bn hr0 hw0 hv0 hx0 hr1 hw1 hv1 hx1 hr2 hw2 hv2 hx2 hr3 hw3 hv3 hx3 hr4 hw4 hv4 hx4 hr5 hw5 hv5 hx5 hr6 hw6 hv6 hx6 hr7 hw7 hv7 hx7
      replace oa := oa.below q2
      replace ob := ob.below q2
      replace Ta := Ta.below q2
      replace Tb := Tb.below q2
      replace hb := hb.trans (q2.mono hb.size)
      clear q2 ox
      obtain ⟨wn, rfl⟩ : ∃ x, x = wr := ⟨_, rfl⟩
      go_wp2_with (refine wpList_words rfl rfl ?_)
      have ow := Own.new wn #[.string ⟨#[114, 97, 116, 101]⟩, .string ⟨#[32, 108, 101, 118, 101, 108]⟩, .string ⟨#[32, 107, 105, 110, 100]⟩, .string ⟨#[32, 110, 105, 103, 104, 116, 115]⟩, .string ⟨#[32, 116, 111]⟩, .string ⟨#[32, 115, 116, 97, 121]⟩, .string ⟨#[32, 116, 111]⟩, .string ⟨#[32, 97, 114, 114, 105, 118, 101]⟩] 9
      replace oa := oa.below (alB wn (.cells #[.string ⟨#[114, 97, 116, 101]⟩, .string ⟨#[32, 108, 101, 118, 101, 108]⟩, .string ⟨#[32, 107, 105, 110, 100]⟩, .string ⟨#[32, 110, 105, 103, 104, 116, 115]⟩, .string ⟨#[32, 116, 111]⟩, .string ⟨#[32, 115, 116, 97, 121]⟩, .string ⟨#[32, 116, 111]⟩, .string ⟨#[32, 97, 114, 114, 105, 118, 101]⟩] 9))
      replace ob := ob.below (alB wn (.cells #[.string ⟨#[114, 97, 116, 101]⟩, .string ⟨#[32, 108, 101, 118, 101, 108]⟩, .string ⟨#[32, 107, 105, 110, 100]⟩, .string ⟨#[32, 110, 105, 103, 104, 116, 115]⟩, .string ⟨#[32, 116, 111]⟩, .string ⟨#[32, 115, 116, 97, 121]⟩, .string ⟨#[32, 116, 111]⟩, .string ⟨#[32, 97, 114, 114, 105, 118, 101]⟩] 9))
      replace Ta := Ta.below (alB wn (.cells #[.string ⟨#[114, 97, 116, 101]⟩, .string ⟨#[32, 108, 101, 118, 101, 108]⟩, .string ⟨#[32, 107, 105, 110, 100]⟩, .string ⟨#[32, 110, 105, 103, 104, 116, 115]⟩, .string ⟨#[32, 116, 111]⟩, .string ⟨#[32, 115, 116, 97, 121]⟩, .string ⟨#[32, 116, 111]⟩, .string ⟨#[32, 97, 114, 114, 105, 118, 101]⟩] 9))
      replace Tb := Tb.below (alB wn (.cells #[.string ⟨#[114, 97, 116, 101]⟩, .string ⟨#[32, 108, 101, 118, 101, 108]⟩, .string ⟨#[32, 107, 105, 110, 100]⟩, .string ⟨#[32, 110, 105, 103, 104, 116, 115]⟩, .string ⟨#[32, 116, 111]⟩, .string ⟨#[32, 115, 116, 97, 121]⟩, .string ⟨#[32, 116, 111]⟩, .string ⟨#[32, 97, 114, 114, 105, 118, 101]⟩] 9))
      replace hown := hown.below (alB wn (.cells #[.string ⟨#[114, 97, 116, 101]⟩, .string ⟨#[32, 108, 101, 118, 101, 108]⟩, .string ⟨#[32, 107, 105, 110, 100]⟩, .string ⟨#[32, 110, 105, 103, 104, 116, 115]⟩, .string ⟨#[32, 116, 111]⟩, .string ⟨#[32, 115, 116, 97, 121]⟩, .string ⟨#[32, 116, 111]⟩, .string ⟨#[32, 97, 114, 114, 105, 118, 101]⟩] 9))
      replace hb := balloc hb (.cells #[.string ⟨#[114, 97, 116, 101]⟩, .string ⟨#[32, 108, 101, 118, 101, 108]⟩, .string ⟨#[32, 107, 105, 110, 100]⟩, .string ⟨#[32, 110, 105, 103, 104, 116, 115]⟩, .string ⟨#[32, 116, 111]⟩, .string ⟨#[32, 115, 116, 97, 121]⟩, .string ⟨#[32, 116, 111]⟩, .string ⟨#[32, 97, 114, 114, 105, 118, 101]⟩] 9)
      obtain ⟨wm, hwm⟩ : ∃ x, x = wn.alloc (.cells #[.string ⟨#[114, 97, 116, 101]⟩, .string ⟨#[32, 108, 101, 118, 101, 108]⟩, .string ⟨#[32, 107, 105, 110, 100]⟩, .string ⟨#[32, 110, 105, 103, 104, 116, 115]⟩, .string ⟨#[32, 116, 111]⟩, .string ⟨#[32, 115, 116, 97, 121]⟩, .string ⟨#[32, 116, 111]⟩, .string ⟨#[32, 97, 114, 114, 105, 118, 101]⟩] 9) := ⟨_, rfl⟩
      rw [← hwm] at ow hown oa ob Ta Tb hb ⊢
      clear hwm
      obtain ⟨DB, hDe, hDs, hD⟩ := dec_num
      go_loopw [13, 14] (fun s i wr => ∃ (k : Nat) (S : ByteArray), i = .int .i64 k ∧ s = .string S ∧ k ≤ 8 ∧ S = ⟨(srcT m0 m1 m2 m3 m4 m5 m6 m7 k).toArray⟩ ∧ S.size ≤ 18 * k ∧ Below wm.heap.size wm wr) (fun _ i _ => 8 - (intOf i).toNat)
      case atStart => exact ⟨0, _, rfl, rfl, by omega, rfl, by simp [ByteArray.size], Below.refl _ _⟩
      case round =>
        obtain ⟨k, S, rfl, rfl, hk8, eS, zS, q2⟩ := hrel
        have hnn := hown.below q2
        have hww := ow.below q2
        rcases (show k = 0 ∨ k = 1 ∨ k = 2 ∨ k = 3 ∨ k = 4 ∨ k = 5 ∨ k = 6 ∨ k = 7 ∨ k = 8 by omega) with rfl | rfl | rfl | rfl | rfl | rfl | rfl | rfl | rfl
        · have cn := hnn.cell 0 _ rfl
          have cw := hww.cell 0 _ rfl
          have lw := hww.lt
          have ln := hnn.lt
          have zD := hDs m0 hm0
          have eD := hDe m0
          obtain ⟨T, hT⟩ : ∃ T : ByteArray, T = S ++ (⟨#[114, 97, 116, 101]⟩ ++ ⟨#[32]⟩ ++ DB m0) := ⟨_, rfl⟩
          have zT : T.size ≤ 18 * 1 := by rw [hT]; simp only [ByteArray.size_append]; simp only [ByteArray.size, List.size_toArray, List.length_cons, List.length_nil] at *; omega
          have eT : T = ⟨(srcT m0 m1 m2 m3 m4 m5 m6 m7 1).toArray⟩ := by
            rw [hT, eS, eD]
            apply ByteArray.ext
            simp [ByteArray.data_append, srcT, wRate, wLevel, wKind, wNights, wTo, wStay, wArrive]
          have y0 : ¬ (9223372036854775807 < 4 + 1 + (DB m0).size) := by omega
          have v0 : ¬ (9223372036854775807 < (4 : Int) + 1 + ((DB m0).size : Int)) := by omega
          have y1 : ¬ (9223372036854775807 < S.size + (4 + 1 + (DB m0).size)) := by omega
          have v1 : ¬ (9223372036854775807 < (S.size : Int) + ((4 : Int) + 1 + ((DB m0).size : Int))) := by omega
          have y2 : ¬ (9223372036854775807 < S.size + (5 + (DB m0).size)) := by omega
          have v2 : ¬ (9223372036854775807 < (S.size : Int) + ((5 : Int) + ((DB m0).size : Int))) := by omega
          have y3 : ¬ (9223372036854775807 < 5 + (DB m0).size) := by omega
          have v3 : ¬ (9223372036854775807 < (5 : Int) + ((DB m0).size : Int)) := by omega
          replace hT := Lib.hid hT
          clear eS zS zD eD hnn hww hDe hDs
          go_wp2_with fail
          refine wp_region_up (by kernel_rfl) (by kernel_rfl) ?_
          repeat (go_big_quiet_step (first | (go_at_call 19; exact Ret.up (hD _ (by assumption) _))))
          refine wpQuiet_nil ?_
          rintro cur ⟨g, rfl⟩
          have hx := up_below _ g
          generalize up _ g = cur at hx ⊢
          replace q2 := q2.trans (hx.mono q2.size)
          rw [← hT.out]
          clear hT cn cw hx lw ln
          go_wp2_with fail
          go_roundw
          case rel => exact ⟨1, T, by go_num, rfl, by omega, eT, zT, q2⟩
          case measure => simp [intOf]
        · have cn := hnn.cell 1 _ rfl
          have cw := hww.cell 1 _ rfl
          have lw := hww.lt
          have ln := hnn.lt
          have zD := hDs m1 hm1
          have eD := hDe m1
          obtain ⟨T, hT⟩ : ∃ T : ByteArray, T = S ++ (⟨#[32, 108, 101, 118, 101, 108]⟩ ++ ⟨#[32]⟩ ++ DB m1) := ⟨_, rfl⟩
          have zT : T.size ≤ 18 * 2 := by rw [hT]; simp only [ByteArray.size_append]; simp only [ByteArray.size, List.size_toArray, List.length_cons, List.length_nil] at *; omega
          have eT : T = ⟨(srcT m0 m1 m2 m3 m4 m5 m6 m7 2).toArray⟩ := by
            rw [hT, eS, eD]
            apply ByteArray.ext
            simp [ByteArray.data_append, srcT, wRate, wLevel, wKind, wNights, wTo, wStay, wArrive]
          have y0 : ¬ (9223372036854775807 < 6 + 1 + (DB m1).size) := by omega
          have v0 : ¬ (9223372036854775807 < (6 : Int) + 1 + ((DB m1).size : Int)) := by omega
          have y1 : ¬ (9223372036854775807 < S.size + (6 + 1 + (DB m1).size)) := by omega
          have v1 : ¬ (9223372036854775807 < (S.size : Int) + ((6 : Int) + 1 + ((DB m1).size : Int))) := by omega
          have y2 : ¬ (9223372036854775807 < S.size + (7 + (DB m1).size)) := by omega
          have v2 : ¬ (9223372036854775807 < (S.size : Int) + ((7 : Int) + ((DB m1).size : Int))) := by omega
          have y3 : ¬ (9223372036854775807 < 7 + (DB m1).size) := by omega
          have v3 : ¬ (9223372036854775807 < (7 : Int) + ((DB m1).size : Int)) := by omega
          replace hT := Lib.hid hT
          clear eS zS zD eD hnn hww hDe hDs
          go_wp2_with fail
          refine wp_region_up (by kernel_rfl) (by kernel_rfl) ?_
          repeat (go_big_quiet_step (first | (go_at_call 19; exact Ret.up (hD _ (by assumption) _))))
          refine wpQuiet_nil ?_
          rintro cur ⟨g, rfl⟩
          have hx := up_below _ g
          generalize up _ g = cur at hx ⊢
          replace q2 := q2.trans (hx.mono q2.size)
          rw [← hT.out]
          clear hT cn cw hx lw ln
          go_wp2_with fail
          go_roundw
          case rel => exact ⟨2, T, by go_num, rfl, by omega, eT, zT, q2⟩
          case measure => simp [intOf]
        · have cn := hnn.cell 2 _ rfl
          have cw := hww.cell 2 _ rfl
          have lw := hww.lt
          have ln := hnn.lt
          have zD := hDs m2 hm2
          have eD := hDe m2
          obtain ⟨T, hT⟩ : ∃ T : ByteArray, T = S ++ (⟨#[32, 107, 105, 110, 100]⟩ ++ ⟨#[32]⟩ ++ DB m2) := ⟨_, rfl⟩
          have zT : T.size ≤ 18 * 3 := by rw [hT]; simp only [ByteArray.size_append]; simp only [ByteArray.size, List.size_toArray, List.length_cons, List.length_nil] at *; omega
          have eT : T = ⟨(srcT m0 m1 m2 m3 m4 m5 m6 m7 3).toArray⟩ := by
            rw [hT, eS, eD]
            apply ByteArray.ext
            simp [ByteArray.data_append, srcT, wRate, wLevel, wKind, wNights, wTo, wStay, wArrive]
          have y0 : ¬ (9223372036854775807 < 5 + 1 + (DB m2).size) := by omega
          have v0 : ¬ (9223372036854775807 < (5 : Int) + 1 + ((DB m2).size : Int)) := by omega
          have y1 : ¬ (9223372036854775807 < S.size + (5 + 1 + (DB m2).size)) := by omega
          have v1 : ¬ (9223372036854775807 < (S.size : Int) + ((5 : Int) + 1 + ((DB m2).size : Int))) := by omega
          have y2 : ¬ (9223372036854775807 < S.size + (6 + (DB m2).size)) := by omega
          have v2 : ¬ (9223372036854775807 < (S.size : Int) + ((6 : Int) + ((DB m2).size : Int))) := by omega
          have y3 : ¬ (9223372036854775807 < 6 + (DB m2).size) := by omega
          have v3 : ¬ (9223372036854775807 < (6 : Int) + ((DB m2).size : Int)) := by omega
          replace hT := Lib.hid hT
          clear eS zS zD eD hnn hww hDe hDs
          go_wp2_with fail
          refine wp_region_up (by kernel_rfl) (by kernel_rfl) ?_
          repeat (go_big_quiet_step (first | (go_at_call 19; exact Ret.up (hD _ (by assumption) _))))
          refine wpQuiet_nil ?_
          rintro cur ⟨g, rfl⟩
          have hx := up_below _ g
          generalize up _ g = cur at hx ⊢
          replace q2 := q2.trans (hx.mono q2.size)
          rw [← hT.out]
          clear hT cn cw hx lw ln
          go_wp2_with fail
          go_roundw
          case rel => exact ⟨3, T, by go_num, rfl, by omega, eT, zT, q2⟩
          case measure => simp [intOf]
        · have cn := hnn.cell 3 _ rfl
          have cw := hww.cell 3 _ rfl
          have lw := hww.lt
          have ln := hnn.lt
          have zD := hDs m3 hm3
          have eD := hDe m3
          obtain ⟨T, hT⟩ : ∃ T : ByteArray, T = S ++ (⟨#[32, 110, 105, 103, 104, 116, 115]⟩ ++ ⟨#[32]⟩ ++ DB m3) := ⟨_, rfl⟩
          have zT : T.size ≤ 18 * 4 := by rw [hT]; simp only [ByteArray.size_append]; simp only [ByteArray.size, List.size_toArray, List.length_cons, List.length_nil] at *; omega
          have eT : T = ⟨(srcT m0 m1 m2 m3 m4 m5 m6 m7 4).toArray⟩ := by
            rw [hT, eS, eD]
            apply ByteArray.ext
            simp [ByteArray.data_append, srcT, wRate, wLevel, wKind, wNights, wTo, wStay, wArrive]
          have y0 : ¬ (9223372036854775807 < 7 + 1 + (DB m3).size) := by omega
          have v0 : ¬ (9223372036854775807 < (7 : Int) + 1 + ((DB m3).size : Int)) := by omega
          have y1 : ¬ (9223372036854775807 < S.size + (7 + 1 + (DB m3).size)) := by omega
          have v1 : ¬ (9223372036854775807 < (S.size : Int) + ((7 : Int) + 1 + ((DB m3).size : Int))) := by omega
          have y2 : ¬ (9223372036854775807 < S.size + (8 + (DB m3).size)) := by omega
          have v2 : ¬ (9223372036854775807 < (S.size : Int) + ((8 : Int) + ((DB m3).size : Int))) := by omega
          have y3 : ¬ (9223372036854775807 < 8 + (DB m3).size) := by omega
          have v3 : ¬ (9223372036854775807 < (8 : Int) + ((DB m3).size : Int)) := by omega
          replace hT := Lib.hid hT
          clear eS zS zD eD hnn hww hDe hDs
          go_wp2_with fail
          refine wp_region_up (by kernel_rfl) (by kernel_rfl) ?_
          repeat (go_big_quiet_step (first | (go_at_call 19; exact Ret.up (hD _ (by assumption) _))))
          refine wpQuiet_nil ?_
          rintro cur ⟨g, rfl⟩
          have hx := up_below _ g
          generalize up _ g = cur at hx ⊢
          replace q2 := q2.trans (hx.mono q2.size)
          rw [← hT.out]
          clear hT cn cw hx lw ln
          go_wp2_with fail
          go_roundw
          case rel => exact ⟨4, T, by go_num, rfl, by omega, eT, zT, q2⟩
          case measure => simp [intOf]
        · have cn := hnn.cell 4 _ rfl
          have cw := hww.cell 4 _ rfl
          have lw := hww.lt
          have ln := hnn.lt
          have zD := hDs m4 hm4
          have eD := hDe m4
          obtain ⟨T, hT⟩ : ∃ T : ByteArray, T = S ++ (⟨#[32, 116, 111]⟩ ++ ⟨#[32]⟩ ++ DB m4) := ⟨_, rfl⟩
          have zT : T.size ≤ 18 * 5 := by rw [hT]; simp only [ByteArray.size_append]; simp only [ByteArray.size, List.size_toArray, List.length_cons, List.length_nil] at *; omega
          have eT : T = ⟨(srcT m0 m1 m2 m3 m4 m5 m6 m7 5).toArray⟩ := by
            rw [hT, eS, eD]
            apply ByteArray.ext
            simp [ByteArray.data_append, srcT, wRate, wLevel, wKind, wNights, wTo, wStay, wArrive]
          have y0 : ¬ (9223372036854775807 < 3 + 1 + (DB m4).size) := by omega
          have v0 : ¬ (9223372036854775807 < (3 : Int) + 1 + ((DB m4).size : Int)) := by omega
          have y1 : ¬ (9223372036854775807 < S.size + (3 + 1 + (DB m4).size)) := by omega
          have v1 : ¬ (9223372036854775807 < (S.size : Int) + ((3 : Int) + 1 + ((DB m4).size : Int))) := by omega
          have y2 : ¬ (9223372036854775807 < S.size + (4 + (DB m4).size)) := by omega
          have v2 : ¬ (9223372036854775807 < (S.size : Int) + ((4 : Int) + ((DB m4).size : Int))) := by omega
          have y3 : ¬ (9223372036854775807 < 4 + (DB m4).size) := by omega
          have v3 : ¬ (9223372036854775807 < (4 : Int) + ((DB m4).size : Int)) := by omega
          replace hT := Lib.hid hT
          clear eS zS zD eD hnn hww hDe hDs
          go_wp2_with fail
          refine wp_region_up (by kernel_rfl) (by kernel_rfl) ?_
          repeat (go_big_quiet_step (first | (go_at_call 19; exact Ret.up (hD _ (by assumption) _))))
          refine wpQuiet_nil ?_
          rintro cur ⟨g, rfl⟩
          have hx := up_below _ g
          generalize up _ g = cur at hx ⊢
          replace q2 := q2.trans (hx.mono q2.size)
          rw [← hT.out]
          clear hT cn cw hx lw ln
          go_wp2_with fail
          go_roundw
          case rel => exact ⟨5, T, by go_num, rfl, by omega, eT, zT, q2⟩
          case measure => simp [intOf]
        · have cn := hnn.cell 5 _ rfl
          have cw := hww.cell 5 _ rfl
          have lw := hww.lt
          have ln := hnn.lt
          have zD := hDs m5 hm5
          have eD := hDe m5
          obtain ⟨T, hT⟩ : ∃ T : ByteArray, T = S ++ (⟨#[32, 115, 116, 97, 121]⟩ ++ ⟨#[32]⟩ ++ DB m5) := ⟨_, rfl⟩
          have zT : T.size ≤ 18 * 6 := by rw [hT]; simp only [ByteArray.size_append]; simp only [ByteArray.size, List.size_toArray, List.length_cons, List.length_nil] at *; omega
          have eT : T = ⟨(srcT m0 m1 m2 m3 m4 m5 m6 m7 6).toArray⟩ := by
            rw [hT, eS, eD]
            apply ByteArray.ext
            simp [ByteArray.data_append, srcT, wRate, wLevel, wKind, wNights, wTo, wStay, wArrive]
          have y0 : ¬ (9223372036854775807 < 5 + 1 + (DB m5).size) := by omega
          have v0 : ¬ (9223372036854775807 < (5 : Int) + 1 + ((DB m5).size : Int)) := by omega
          have y1 : ¬ (9223372036854775807 < S.size + (5 + 1 + (DB m5).size)) := by omega
          have v1 : ¬ (9223372036854775807 < (S.size : Int) + ((5 : Int) + 1 + ((DB m5).size : Int))) := by omega
          have y2 : ¬ (9223372036854775807 < S.size + (6 + (DB m5).size)) := by omega
          have v2 : ¬ (9223372036854775807 < (S.size : Int) + ((6 : Int) + ((DB m5).size : Int))) := by omega
          have y3 : ¬ (9223372036854775807 < 6 + (DB m5).size) := by omega
          have v3 : ¬ (9223372036854775807 < (6 : Int) + ((DB m5).size : Int)) := by omega
          replace hT := Lib.hid hT
          clear eS zS zD eD hnn hww hDe hDs
          go_wp2_with fail
          refine wp_region_up (by kernel_rfl) (by kernel_rfl) ?_
          repeat (go_big_quiet_step (first | (go_at_call 19; exact Ret.up (hD _ (by assumption) _))))
          refine wpQuiet_nil ?_
          rintro cur ⟨g, rfl⟩
          have hx := up_below _ g
          generalize up _ g = cur at hx ⊢
          replace q2 := q2.trans (hx.mono q2.size)
          rw [← hT.out]
          clear hT cn cw hx lw ln
          go_wp2_with fail
          go_roundw
          case rel => exact ⟨6, T, by go_num, rfl, by omega, eT, zT, q2⟩
          case measure => simp [intOf]
        · have cn := hnn.cell 6 _ rfl
          have cw := hww.cell 6 _ rfl
          have lw := hww.lt
          have ln := hnn.lt
          have zD := hDs m6 hm6
          have eD := hDe m6
          obtain ⟨T, hT⟩ : ∃ T : ByteArray, T = S ++ (⟨#[32, 116, 111]⟩ ++ ⟨#[32]⟩ ++ DB m6) := ⟨_, rfl⟩
          have zT : T.size ≤ 18 * 7 := by rw [hT]; simp only [ByteArray.size_append]; simp only [ByteArray.size, List.size_toArray, List.length_cons, List.length_nil] at *; omega
          have eT : T = ⟨(srcT m0 m1 m2 m3 m4 m5 m6 m7 7).toArray⟩ := by
            rw [hT, eS, eD]
            apply ByteArray.ext
            simp [ByteArray.data_append, srcT, wRate, wLevel, wKind, wNights, wTo, wStay, wArrive]
          have y0 : ¬ (9223372036854775807 < 3 + 1 + (DB m6).size) := by omega
          have v0 : ¬ (9223372036854775807 < (3 : Int) + 1 + ((DB m6).size : Int)) := by omega
          have y1 : ¬ (9223372036854775807 < S.size + (3 + 1 + (DB m6).size)) := by omega
          have v1 : ¬ (9223372036854775807 < (S.size : Int) + ((3 : Int) + 1 + ((DB m6).size : Int))) := by omega
          have y2 : ¬ (9223372036854775807 < S.size + (4 + (DB m6).size)) := by omega
          have v2 : ¬ (9223372036854775807 < (S.size : Int) + ((4 : Int) + ((DB m6).size : Int))) := by omega
          have y3 : ¬ (9223372036854775807 < 4 + (DB m6).size) := by omega
          have v3 : ¬ (9223372036854775807 < (4 : Int) + ((DB m6).size : Int)) := by omega
          replace hT := Lib.hid hT
          clear eS zS zD eD hnn hww hDe hDs
          go_wp2_with fail
          refine wp_region_up (by kernel_rfl) (by kernel_rfl) ?_
          repeat (go_big_quiet_step (first | (go_at_call 19; exact Ret.up (hD _ (by assumption) _))))
          refine wpQuiet_nil ?_
          rintro cur ⟨g, rfl⟩
          have hx := up_below _ g
          generalize up _ g = cur at hx ⊢
          replace q2 := q2.trans (hx.mono q2.size)
          rw [← hT.out]
          clear hT cn cw hx lw ln
          go_wp2_with fail
          go_roundw
          case rel => exact ⟨7, T, by go_num, rfl, by omega, eT, zT, q2⟩
          case measure => simp [intOf]
        · have cn := hnn.cell 7 _ rfl
          have cw := hww.cell 7 _ rfl
          have lw := hww.lt
          have ln := hnn.lt
          have zD := hDs m7 hm7
          have eD := hDe m7
          obtain ⟨T, hT⟩ : ∃ T : ByteArray, T = S ++ (⟨#[32, 97, 114, 114, 105, 118, 101]⟩ ++ ⟨#[32]⟩ ++ DB m7) := ⟨_, rfl⟩
          have zT : T.size ≤ 18 * 8 := by rw [hT]; simp only [ByteArray.size_append]; simp only [ByteArray.size, List.size_toArray, List.length_cons, List.length_nil] at *; omega
          have eT : T = ⟨(srcT m0 m1 m2 m3 m4 m5 m6 m7 8).toArray⟩ := by
            rw [hT, eS, eD]
            apply ByteArray.ext
            simp [ByteArray.data_append, srcT, wRate, wLevel, wKind, wNights, wTo, wStay, wArrive]
          have y0 : ¬ (9223372036854775807 < 7 + 1 + (DB m7).size) := by omega
          have v0 : ¬ (9223372036854775807 < (7 : Int) + 1 + ((DB m7).size : Int)) := by omega
          have y1 : ¬ (9223372036854775807 < S.size + (7 + 1 + (DB m7).size)) := by omega
          have v1 : ¬ (9223372036854775807 < (S.size : Int) + ((7 : Int) + 1 + ((DB m7).size : Int))) := by omega
          have y2 : ¬ (9223372036854775807 < S.size + (8 + (DB m7).size)) := by omega
          have v2 : ¬ (9223372036854775807 < (S.size : Int) + ((8 : Int) + ((DB m7).size : Int))) := by omega
          have y3 : ¬ (9223372036854775807 < 8 + (DB m7).size) := by omega
          have v3 : ¬ (9223372036854775807 < (8 : Int) + ((DB m7).size : Int)) := by omega
          replace hT := Lib.hid hT
          clear eS zS zD eD hnn hww hDe hDs
          go_wp2_with fail
          refine wp_region_up (by kernel_rfl) (by kernel_rfl) ?_
          repeat (go_big_quiet_step (first | (go_at_call 19; exact Ret.up (hD _ (by assumption) _))))
          refine wpQuiet_nil ?_
          rintro cur ⟨g, rfl⟩
          have hx := up_below _ g
          generalize up _ g = cur at hx ⊢
          replace q2 := q2.trans (hx.mono q2.size)
          rw [← hT.out]
          clear hT cn cw hx lw ln
          go_wp2_with fail
          go_roundw
          case rel => exact ⟨8, T, by go_num, rfl, by omega, eT, zT, q2⟩
          case measure => simp [intOf]
        · clear hnn hww
          replace oa := oa.below q2
          replace ob := ob.below q2
          replace Ta := Ta.below q2
          replace Tb := Tb.below q2
          replace hown := hown.below q2
          replace ow := ow.below q2
          replace hb := hb.trans (q2.mono hb.size)
          clear q2 ow
          obtain ⟨w3, rfl⟩ : ∃ x, x = wr := ⟨_, rfl⟩
          have zD := hDs m8 hm8
          have eD := hDe m8
          have hDk := fun w1 => hD m8 hm8 w1
          generalize DB m8 = D at zD eD hDk
          have nz : (18 * 8 : Nat) = 144 := rfl
          rw [nz] at zS
          clear nz hD hDe hDs
          have y0 : ¬ (9223372036854775807 < 6 + D.size) := by omega
          have v0 : ¬ (9223372036854775807 < (6 : Int) + (D.size : Int)) := by omega
          have y1 : ¬ (9223372036854775807 < 6 + D.size + 7) := by omega
          have v1 : ¬ (9223372036854775807 < (6 : Int) + (D.size : Int) + 7) := by omega
          have EQ := Lib.hid eS
          have ED := Lib.hid eD
          clear eS eD
          go_upto_region 16 with (fail)
          go_cut [13] (fun s wx => ∃ sa ka sb kb, Sw a sa ka ∧ Sw b sb kb ∧ s = .string ⟨((wRate ++ 32 :: (Lib.decDigits m0 ++ 32 :: (wLevel ++ 32 :: (Lib.decDigits m1 ++ 32 :: (wKind ++ 32 :: (Lib.decDigits m2 ++ 32 :: (wNights ++ 32 :: (Lib.decDigits m3 ++ 32 :: (wTo ++ 32 :: (Lib.decDigits m4 ++ 32 :: (wStay ++ 32 :: (Lib.decDigits m5 ++ 32 :: (wTo ++ 32 :: (Lib.decDigits m6 ++ 32 :: (wArrive ++ 32 :: (Lib.decDigits m7 ++ 32 :: (wKeep ++ 32 :: (Lib.decDigits m8 ++ 37 :: 32 :: (wWhen ++ 32 :: (sa ++ 32 :: (wPrice ++ 32 :: (sb ++ 32 :: [59])))))))))))))))))))))) : List UInt8).toArray⟩ ∧ Below w3.heap.size w3 wx)
          case first =>
            have hz := Below.refl w3.heap.size w3
            go_region_held3 (fun w' => w'.cell? ⟨w.heap.size + 1, 0, none⟩ = some (.int .i64 a.o) ∧ w'.cell? ⟨w.heap.size + 1, 1, none⟩ = some (.int .i64 a.n) ∧ w'.cell? ⟨w.heap.size + 1, 2, none⟩ = some (.slice ada a.ks.length capa) ∧ w'.cell? ⟨w.heap.size + 2, 0, none⟩ = some (.int .i64 b.o) ∧ w'.cell? ⟨w.heap.size + 2, 1, none⟩ = some (.int .i64 b.n) ∧ w'.cell? ⟨w.heap.size + 2, 2, none⟩ = some (.slice adb b.ks.length capb)) (first | with_reducible exact ⟨oa.cell 0 _ rfl, oa.cell 1 _ rfl, oa.cell 2 _ rfl, ob.cell 0 _ rfl, ob.cell 1 _ rfl, ob.cell 2 _ rfl⟩ | with_reducible exact ⟨(oa.below (drB _)).cell 0 _ rfl, (oa.below (drB _)).cell 1 _ rfl, (oa.below (drB _)).cell 2 _ rfl, (ob.below (drB _)).cell 0 _ rfl, (ob.below (drB _)).cell 1 _ rfl, (ob.below (drB _)).cell 2 _ rfl⟩) (first
              | (go_at_call 17
                 have mk := Sa
                 clear mk
                 refine (show_any _ b _ _ mb.1 (by have := mb.2.1; omega) Tb).mono ?_
                 rintro e vv ⟨sb, kb, Sb, rfl, hx⟩
                 first | with_reducible replace oa := oa.below hx | with_reducible replace oa := (oa.below (alB _ _)).below hx | with_reducible replace oa := (oa.below (drB _)).below hx | with_reducible replace oa := ((oa.below (alB _ _)).below (drB _)).below hx | with_reducible replace oa := ((oa.below (alB _ _)).below (alB _ _)).below hx
                 first | with_reducible replace ob := ob.below hx | with_reducible replace ob := (ob.below (alB _ _)).below hx | with_reducible replace ob := (ob.below (drB _)).below hx | with_reducible replace ob := ((ob.below (alB _ _)).below (drB _)).below hx | with_reducible replace ob := ((ob.below (alB _ _)).below (alB _ _)).below hx
                 first | with_reducible replace Ta := Ta.below hx | with_reducible replace Ta := (Ta.below (alB _ _)).below hx | with_reducible replace Ta := (Ta.below (drB _)).below hx | with_reducible replace Ta := ((Ta.below (alB _ _)).below (drB _)).below hx | with_reducible replace Ta := ((Ta.below (alB _ _)).below (alB _ _)).below hx
                 first | with_reducible replace Tb := Tb.below hx | with_reducible replace Tb := (Tb.below (alB _ _)).below hx | with_reducible replace Tb := (Tb.below (drB _)).below hx | with_reducible replace Tb := ((Tb.below (alB _ _)).below (drB _)).below hx | with_reducible replace Tb := ((Tb.below (alB _ _)).below (alB _ _)).below hx
                 first | with_reducible replace hown := hown.below hx | with_reducible replace hown := (hown.below (alB _ _)).below hx | with_reducible replace hown := (hown.below (drB _)).below hx | with_reducible replace hown := ((hown.below (alB _ _)).below (drB _)).below hx | with_reducible replace hown := ((hown.below (alB _ _)).below (alB _ _)).below hx
                 first | with_reducible replace hz := hz.trans (hx.mono hz.size) | with_reducible replace hz := (balloc hz _).trans (hx.mono (balloc hz _).size) | with_reducible replace hz := (hz.trans ((drB _).mono hz.size)).trans (hx.mono (hz.trans ((drB _).mono hz.size)).size) | with_reducible replace hz := ((balloc hz _).trans ((drB _).mono (balloc hz _).size)).trans (hx.mono ((balloc hz _).trans ((drB _).mono (balloc hz _).size)).size) | with_reducible replace hz := (balloc (balloc hz _) _).trans (hx.mono (balloc (balloc hz _) _).size)
                 clear hx
                 obtain ⟨B, eB⟩ : ∃ S : ByteArray, S = ⟨sb.toArray⟩ := ⟨_, rfl⟩
                 have zB : B.size ≤ 8000 := by rw [eB]; have := sw_count Sb; have := mb.2.1; simp only [ByteArray.size, List.size_toArray]; omega
                 rw [← eB]
                 replace eB := Lib.hid eB
                 have y4 : ¬ (9223372036854775807 < 6 + D.size + 7 + A.size + 7 + B.size) := by omega
                 have v4 : ¬ (9223372036854775807 < (6 : Int) + (D.size : Int) + 7 + (A.size : Int) + 7 + (B.size : Int)) := by omega
                 have y5 : ¬ (9223372036854775807 < 6 + D.size + 7 + A.size + 7 + B.size + 2) := by omega
                 have v5 : ¬ (9223372036854775807 < (6 : Int) + (D.size : Int) + 7 + (A.size : Int) + 7 + (B.size : Int) + 2) := by omega
                 have y6 : ¬ (9223372036854775807 < S.size + (6 + D.size + 7 + A.size + 7 + B.size + 2)) := by omega
                 have v6 : ¬ (9223372036854775807 < (S.size : Int) + ((6 : Int) + (D.size : Int) + 7 + (A.size : Int) + 7 + (B.size : Int) + 2)) := by omega)
              | (go_at_call 17
                 refine (show_any _ a _ _ ma.1 (by have := ma.2.1; omega) Ta).mono ?_
                 rintro e vv ⟨sa, ka, Sa, rfl, hx⟩
                 first | with_reducible replace oa := oa.below hx | with_reducible replace oa := (oa.below (alB _ _)).below hx | with_reducible replace oa := (oa.below (drB _)).below hx | with_reducible replace oa := ((oa.below (alB _ _)).below (drB _)).below hx | with_reducible replace oa := ((oa.below (alB _ _)).below (alB _ _)).below hx
                 first | with_reducible replace ob := ob.below hx | with_reducible replace ob := (ob.below (alB _ _)).below hx | with_reducible replace ob := (ob.below (drB _)).below hx | with_reducible replace ob := ((ob.below (alB _ _)).below (drB _)).below hx | with_reducible replace ob := ((ob.below (alB _ _)).below (alB _ _)).below hx
                 first | with_reducible replace Ta := Ta.below hx | with_reducible replace Ta := (Ta.below (alB _ _)).below hx | with_reducible replace Ta := (Ta.below (drB _)).below hx | with_reducible replace Ta := ((Ta.below (alB _ _)).below (drB _)).below hx | with_reducible replace Ta := ((Ta.below (alB _ _)).below (alB _ _)).below hx
                 first | with_reducible replace Tb := Tb.below hx | with_reducible replace Tb := (Tb.below (alB _ _)).below hx | with_reducible replace Tb := (Tb.below (drB _)).below hx | with_reducible replace Tb := ((Tb.below (alB _ _)).below (drB _)).below hx | with_reducible replace Tb := ((Tb.below (alB _ _)).below (alB _ _)).below hx
                 first | with_reducible replace hown := hown.below hx | with_reducible replace hown := (hown.below (alB _ _)).below hx | with_reducible replace hown := (hown.below (drB _)).below hx | with_reducible replace hown := ((hown.below (alB _ _)).below (drB _)).below hx | with_reducible replace hown := ((hown.below (alB _ _)).below (alB _ _)).below hx
                 first | with_reducible replace hz := hz.trans (hx.mono hz.size) | with_reducible replace hz := (balloc hz _).trans (hx.mono (balloc hz _).size) | with_reducible replace hz := (hz.trans ((drB _).mono hz.size)).trans (hx.mono (hz.trans ((drB _).mono hz.size)).size) | with_reducible replace hz := ((balloc hz _).trans ((drB _).mono (balloc hz _).size)).trans (hx.mono ((balloc hz _).trans ((drB _).mono (balloc hz _).size)).size) | with_reducible replace hz := (balloc (balloc hz _) _).trans (hx.mono (balloc (balloc hz _) _).size)
                 clear hx
                 obtain ⟨A, eA⟩ : ∃ S : ByteArray, S = ⟨sa.toArray⟩ := ⟨_, rfl⟩
                 have zA : A.size ≤ 8000 := by rw [eA]; have := sw_count Sa; have := ma.2.1; simp only [ByteArray.size, List.size_toArray]; omega
                 rw [← eA]
                 replace eA := Lib.hid eA
                 have y2 : ¬ (9223372036854775807 < 6 + D.size + 7 + A.size) := by omega
                 have v2 : ¬ (9223372036854775807 < (6 : Int) + (D.size : Int) + 7 + (A.size : Int)) := by omega
                 have y3 : ¬ (9223372036854775807 < 6 + D.size + 7 + A.size + 7) := by omega
                 have v3 : ¬ (9223372036854775807 < (6 : Int) + (D.size : Int) + 7 + (A.size : Int) + 7) := by omega)
              | (go_at_call 19
                 refine (hDk _).mono ?_
                 rintro e vv ⟨rfl, hx⟩
                 first | with_reducible replace oa := oa.below hx | with_reducible replace oa := (oa.below (alB _ _)).below hx | with_reducible replace oa := (oa.below (drB _)).below hx | with_reducible replace oa := ((oa.below (alB _ _)).below (drB _)).below hx | with_reducible replace oa := ((oa.below (alB _ _)).below (alB _ _)).below hx
                 first | with_reducible replace ob := ob.below hx | with_reducible replace ob := (ob.below (alB _ _)).below hx | with_reducible replace ob := (ob.below (drB _)).below hx | with_reducible replace ob := ((ob.below (alB _ _)).below (drB _)).below hx | with_reducible replace ob := ((ob.below (alB _ _)).below (alB _ _)).below hx
                 first | with_reducible replace Ta := Ta.below hx | with_reducible replace Ta := (Ta.below (alB _ _)).below hx | with_reducible replace Ta := (Ta.below (drB _)).below hx | with_reducible replace Ta := ((Ta.below (alB _ _)).below (drB _)).below hx | with_reducible replace Ta := ((Ta.below (alB _ _)).below (alB _ _)).below hx
                 first | with_reducible replace Tb := Tb.below hx | with_reducible replace Tb := (Tb.below (alB _ _)).below hx | with_reducible replace Tb := (Tb.below (drB _)).below hx | with_reducible replace Tb := ((Tb.below (alB _ _)).below (drB _)).below hx | with_reducible replace Tb := ((Tb.below (alB _ _)).below (alB _ _)).below hx
                 first | with_reducible replace hown := hown.below hx | with_reducible replace hown := (hown.below (alB _ _)).below hx | with_reducible replace hown := (hown.below (drB _)).below hx | with_reducible replace hown := ((hown.below (alB _ _)).below (drB _)).below hx | with_reducible replace hown := ((hown.below (alB _ _)).below (alB _ _)).below hx
                 first | with_reducible replace hz := hz.trans (hx.mono hz.size) | with_reducible replace hz := (balloc hz _).trans (hx.mono (balloc hz _).size) | with_reducible replace hz := (hz.trans ((drB _).mono hz.size)).trans (hx.mono (hz.trans ((drB _).mono hz.size)).size) | with_reducible replace hz := ((balloc hz _).trans ((drB _).mono (balloc hz _).size)).trans (hx.mono ((balloc hz _).trans ((drB _).mono (balloc hz _).size)).size) | with_reducible replace hz := (balloc (balloc hz _) _).trans (hx.mono (balloc (balloc hz _) _).size)
                 clear hx))
            all_goals (
              obtain ⟨T, hT⟩ : ∃ T : ByteArray, T = S ++ (⟨#[32, 107, 101, 101, 112, 32]⟩ ++ D ++ ⟨#[37, 32, 119, 104, 101, 110, 32]⟩ ++ A ++ ⟨#[32, 112, 114, 105, 99, 101, 32]⟩ ++ B ++ ⟨#[32, 59]⟩) := ⟨_, rfl⟩
              rw [← hT]
              have eT : T = ⟨((wRate ++ 32 :: (Lib.decDigits m0 ++ 32 :: (wLevel ++ 32 :: (Lib.decDigits m1 ++ 32 :: (wKind ++ 32 :: (Lib.decDigits m2 ++ 32 :: (wNights ++ 32 :: (Lib.decDigits m3 ++ 32 :: (wTo ++ 32 :: (Lib.decDigits m4 ++ 32 :: (wStay ++ 32 :: (Lib.decDigits m5 ++ 32 :: (wTo ++ 32 :: (Lib.decDigits m6 ++ 32 :: (wArrive ++ 32 :: (Lib.decDigits m7 ++ 32 :: (wKeep ++ 32 :: (Lib.decDigits m8 ++ 37 :: 32 :: (wWhen ++ 32 :: (sa ++ 32 :: (wPrice ++ 32 :: (sb ++ 32 :: [59])))))))))))))))))))))) : List UInt8).toArray⟩ := by
                rw [hT, EQ.out, ED.out, eA.out, eB.out]
                apply ByteArray.ext
                simp [ByteArray.data_append, srcT, wRate, wLevel, wKind, wNights, wTo, wStay, wArrive, wKeep, wWhen, wPrice]
              rw [eT]
              go_wp2_with fail
              go_meet
              exact ⟨sa, ka, sb, kb, Sa, Sb, rfl, hz⟩)
          case rest =>
            obtain ⟨sa, ka, sb, kb, Sa, Sb, rfl, hx⟩ := hcut
            rename World => wz
            replace oa := oa.below hx
            replace ob := ob.below hx
            replace Ta := Ta.below hx
            replace Tb := Tb.below hx
            replace hown := hown.below hx
            replace hb := hb.trans (hx.mono hb.size)
            clear hx zS zD y0 y1 v0 v1 hDk EQ ED
            obtain ⟨T, eT⟩ : ∃ T : ByteArray, T = ⟨((wRate ++ 32 :: (Lib.decDigits m0 ++ 32 :: (wLevel ++ 32 :: (Lib.decDigits m1 ++ 32 :: (wKind ++ 32 :: (Lib.decDigits m2 ++ 32 :: (wNights ++ 32 :: (Lib.decDigits m3 ++ 32 :: (wTo ++ 32 :: (Lib.decDigits m4 ++ 32 :: (wStay ++ 32 :: (Lib.decDigits m5 ++ 32 :: (wTo ++ 32 :: (Lib.decDigits m6 ++ 32 :: (wArrive ++ 32 :: (Lib.decDigits m7 ++ 32 :: (wKeep ++ 32 :: (Lib.decDigits m8 ++ 37 :: 32 :: (wWhen ++ 32 :: (sa ++ 32 :: (wPrice ++ 32 :: (sb ++ 32 :: [59])))))))))))))))))))))) : List UInt8).toArray⟩ := ⟨_, rfl⟩
            rw [← eT]
            have hRP := src_rate (num_kind m0 hm0).1 (num_kind m0 hm0).2 (num_kind m1 hm1).1 (num_kind m1 hm1).2 (num_kind m2 hm2).1 (num_kind m2 hm2).2 (num_kind m3 hm3).1 (num_kind m3 hm3).2 (num_kind m4 hm4).1 (num_kind m4 hm4).2 (num_kind m5 hm5).1 (num_kind m5 hm5).2 (num_kind m6 hm6).1 (num_kind m6 hm6).2 (num_kind m7 hm7).1 (num_kind m7 hm7).2 (num_kind m8 hm8).1 (num_kind m8 hm8).2 ⟨by have := dec_size 8 m0 (by omega); omega, by have := dec_size 8 m1 (by omega); omega, by have := dec_size 8 m2 (by omega); omega, by have := dec_size 8 m3 (by omega); omega, by have := dec_size 8 m4 (by omega); omega, by have := dec_size 8 m5 (by omega); omega, by have := dec_size 8 m6 (by omega); omega, by have := dec_size 8 m7 (by omega); omega, by have := dec_size 8 m8 (by omega); omega⟩ Sa Sb va vb
            have hR := fun w1 (h : Below w.heap.size w w1) => rates_law (wRate ++ 32 :: (Lib.decDigits m0 ++ 32 :: (wLevel ++ 32 :: (Lib.decDigits m1 ++ 32 :: (wKind ++ 32 :: (Lib.decDigits m2 ++ 32 :: (wNights ++ 32 :: (Lib.decDigits m3 ++ 32 :: (wTo ++ 32 :: (Lib.decDigits m4 ++ 32 :: (wStay ++ 32 :: (Lib.decDigits m5 ++ 32 :: (wTo ++ 32 :: (Lib.decDigits m6 ++ 32 :: (wArrive ++ 32 :: (Lib.decDigits m7 ++ 32 :: (wKeep ++ 32 :: (Lib.decDigits m8 ++ 37 :: 32 :: (wWhen ++ 32 :: (sa ++ 32 :: (wPrice ++ 32 :: (sb ++ 32 :: [59])))))))))))))))))))))) w1 (hL.below h)
            rw [← eT] at hR
            have hMk := fun w1 => r_make (m8 : Int) 100 w1
            rw [mk_pct m8 hm8] at hMk
            obtain ⟨r, er⟩ : ∃ r : Rt, r = ⟨m0, m1, m2, m3, m4, m5, m6, m7, m8, a, b⟩ := ⟨_, rfl⟩
            have ekn : (mkF (m8 : Int) 100).1 = r.kn := by rw [er]; rfl
            have ekd : (mkF (m8 : Int) 100).2.1 = r.kd := by rw [er]; rfl
            rw [ekn, ekd] at hMk
            have hlist : [[leafE 1 m0, leafE 1 m1, leafE 1 m2, leafE 1 m3, leafE 1 m4, leafE 1 m5, leafE 1 m6, leafE 1 m7, leafE 1 m8, a, b]] = [r].map Rt.list := by rw [er]; rfl
            rw [hlist] at hRP
            replace hRP := Lib.hid hRP
            replace er := Lib.hid er
            clear eT hlist ekn ekd Sa Sb ma mb va vb
            obtain ⟨kn, ekn⟩ : ∃ k, k = r.kn := ⟨_, rfl⟩
            obtain ⟨kd, ekd⟩ : ∃ k, k = r.kd := ⟨_, rfl⟩
            rw [← ekn, ← ekd] at hMk
            replace ekn := Lib.hid ekn
            replace ekd := Lib.hid ekd
            go_wp2_with fail
            refine (hMk _).mono ?_
            rintro e w5 ⟨rfl, hx⟩
            first | with_reducible replace oa := oa.below hx | with_reducible replace oa := (oa.below (alB _ _)).below hx | with_reducible replace oa := (oa.below (drB _)).below hx | with_reducible replace oa := ((oa.below (alB _ _)).below (drB _)).below hx | with_reducible replace oa := ((oa.below (alB _ _)).below (alB _ _)).below hx
            first | with_reducible replace ob := ob.below hx | with_reducible replace ob := (ob.below (alB _ _)).below hx | with_reducible replace ob := (ob.below (drB _)).below hx | with_reducible replace ob := ((ob.below (alB _ _)).below (drB _)).below hx | with_reducible replace ob := ((ob.below (alB _ _)).below (alB _ _)).below hx
            first | with_reducible replace Ta := Ta.below hx | with_reducible replace Ta := (Ta.below (alB _ _)).below hx | with_reducible replace Ta := (Ta.below (drB _)).below hx | with_reducible replace Ta := ((Ta.below (alB _ _)).below (drB _)).below hx | with_reducible replace Ta := ((Ta.below (alB _ _)).below (alB _ _)).below hx
            first | with_reducible replace Tb := Tb.below hx | with_reducible replace Tb := (Tb.below (alB _ _)).below hx | with_reducible replace Tb := (Tb.below (drB _)).below hx | with_reducible replace Tb := ((Tb.below (alB _ _)).below (drB _)).below hx | with_reducible replace Tb := ((Tb.below (alB _ _)).below (alB _ _)).below hx
            first | with_reducible replace hown := hown.below hx | with_reducible replace hown := (hown.below (alB _ _)).below hx | with_reducible replace hown := (hown.below (drB _)).below hx | with_reducible replace hown := ((hown.below (alB _ _)).below (drB _)).below hx | with_reducible replace hown := ((hown.below (alB _ _)).below (alB _ _)).below hx
            first | with_reducible replace hb := hb.trans (hx.mono hb.size) | with_reducible replace hb := (balloc hb _).trans (hx.mono (balloc hb _).size) | with_reducible replace hb := (hb.trans ((drB _).mono hb.size)).trans (hx.mono (hb.trans ((drB _).mono hb.size)).size) | with_reducible replace hb := ((balloc hb _).trans ((drB _).mono (balloc hb _).size)).trans (hx.mono ((balloc hb _).trans ((drB _).mono (balloc hb _).size)).size) | with_reducible replace hb := (balloc (balloc hb _) _).trans (hx.mono (balloc (balloc hb _) _).size)
            clear hx
            have op := Own.new w5 #[.int .i64 kn, .int .i64 kd] 46
            replace oa := oa.below (alB w5 (.cells #[.int .i64 kn, .int .i64 kd] 46))
            replace ob := ob.below (alB w5 (.cells #[.int .i64 kn, .int .i64 kd] 46))
            replace Ta := Ta.below (alB w5 (.cells #[.int .i64 kn, .int .i64 kd] 46))
            replace Tb := Tb.below (alB w5 (.cells #[.int .i64 kn, .int .i64 kd] 46))
            replace hown := hown.below (alB w5 (.cells #[.int .i64 kn, .int .i64 kd] 46))
            replace hb := balloc hb (.cells #[.int .i64 kn, .int .i64 kd] 46)
            go_wp2_with fail
            refine (hR _ hb).mono ?_
            rintro e w6 ⟨rs, ec, n2, v, hp, rfl, hl2, hrs, hx⟩
            obtain ⟨e1, e2, e3⟩ := hp.det hRP.out
            obtain rfl := tl_inj e1
            subst e2 e3
            clear hp hRP hR e1 hl2
            first | with_reducible replace oa := oa.below hx | with_reducible replace oa := (oa.below (alB _ _)).below hx | with_reducible replace oa := (oa.below (drB _)).below hx | with_reducible replace oa := ((oa.below (alB _ _)).below (drB _)).below hx | with_reducible replace oa := ((oa.below (alB _ _)).below (alB _ _)).below hx
            first | with_reducible replace ob := ob.below hx | with_reducible replace ob := (ob.below (alB _ _)).below hx | with_reducible replace ob := (ob.below (drB _)).below hx | with_reducible replace ob := ((ob.below (alB _ _)).below (drB _)).below hx | with_reducible replace ob := ((ob.below (alB _ _)).below (alB _ _)).below hx
            first | with_reducible replace Ta := Ta.below hx | with_reducible replace Ta := (Ta.below (alB _ _)).below hx | with_reducible replace Ta := (Ta.below (drB _)).below hx | with_reducible replace Ta := ((Ta.below (alB _ _)).below (drB _)).below hx | with_reducible replace Ta := ((Ta.below (alB _ _)).below (alB _ _)).below hx
            first | with_reducible replace Tb := Tb.below hx | with_reducible replace Tb := (Tb.below (alB _ _)).below hx | with_reducible replace Tb := (Tb.below (drB _)).below hx | with_reducible replace Tb := ((Tb.below (alB _ _)).below (drB _)).below hx | with_reducible replace Tb := ((Tb.below (alB _ _)).below (alB _ _)).below hx
            first | with_reducible replace hown := hown.below hx | with_reducible replace hown := (hown.below (alB _ _)).below hx | with_reducible replace hown := (hown.below (drB _)).below hx | with_reducible replace hown := ((hown.below (alB _ _)).below (drB _)).below hx | with_reducible replace hown := ((hown.below (alB _ _)).below (alB _ _)).below hx
            first | with_reducible replace op := op.below hx | with_reducible replace op := (op.below (alB _ _)).below hx | with_reducible replace op := (op.below (drB _)).below hx | with_reducible replace op := ((op.below (alB _ _)).below (drB _)).below hx | with_reducible replace op := ((op.below (alB _ _)).below (alB _ _)).below hx
            first | with_reducible replace hb := hb.trans (hx.mono hb.size) | with_reducible replace hb := (balloc hb _).trans (hx.mono (balloc hb _).size) | with_reducible replace hb := (hb.trans ((drB _).mono hb.size)).trans (hx.mono (hb.trans ((drB _).mono hb.size)).size) | with_reducible replace hb := ((balloc hb _).trans ((drB _).mono (balloc hb _).size)).trans (hx.mono ((balloc hb _).trans ((drB _).mono (balloc hb _).size)).size) | with_reducible replace hb := (balloc (balloc hb _) _).trans (hx.mono (balloc (balloc hb _) _).size)
            clear hx
            obtain ⟨ca0, ca1, ca2, -, -, -, -⟩ := oa.three
            obtain ⟨cb0, cb1, cb2, -, -, -, -⟩ := ob.three
            obtain ⟨cp0, cp1, -⟩ := op.two
            have cn0 := hown.cell 0 _ rfl
            have cn1 := hown.cell 1 _ rfl
            have cn2 := hown.cell 2 _ rfl
            have cn3 := hown.cell 3 _ rfl
            have cn4 := hown.cell 4 _ rfl
            have cn5 := hown.cell 5 _ rfl
            have cn6 := hown.cell 6 _ rfl
            have cn7 := hown.cell 7 _ rfl
            obtain ⟨adr, capr, rfl⟩ := hrs.shape
            go_upto_region 19 with (fail)
            go_cut [21] (fun s wx => s = .pointer (some ⟨w6.heap.size, 0, none⟩) ∧ wx = w6.alloc (.cells #[.int .i64 (m0 : Nat), .int .i64 (m1 : Nat), .int .i64 (m2 : Nat), .int .i64 (m3 : Nat), .int .i64 (m4 : Nat), .int .i64 (m5 : Nat), .int .i64 (m6 : Nat), .int .i64 (m7 : Nat), .int .i64 kn, .int .i64 kd, .int .i64 a.o, .int .i64 a.n, .slice ada a.ks.length capa, .int .i64 b.o, .int .i64 b.n, .slice adb b.ks.length capb] 52))
            case first =>
              go_wp2_with fail
              go_meet
              exact ⟨rfl, rfl⟩
            case rest =>
              obtain ⟨rfl, rfl⟩ := hcut
              have ow := Own.new w6 #[.int .i64 (m0 : Nat), .int .i64 (m1 : Nat), .int .i64 (m2 : Nat), .int .i64 (m3 : Nat), .int .i64 (m4 : Nat), .int .i64 (m5 : Nat), .int .i64 (m6 : Nat), .int .i64 (m7 : Nat), .int .i64 kn, .int .i64 kd, .int .i64 a.o, .int .i64 a.n, .slice ada a.ks.length capa, .int .i64 b.o, .int .i64 b.n, .slice adb b.ks.length capb] 52
              have cw := Lib.hid ow.rangeL
              go_wp2_with (refine wpList_load_atL (by kernel_rfl) 52 _ rfl _ rfl _ _ cw.out Tryz.underlying52 rfl Tryz.sizeRateL ?_)
              clear cw
              have rv : RateV (fun _ => False) w6 r #[.int .i64 (m0 : Nat), .int .i64 (m1 : Nat), .int .i64 (m2 : Nat), .int .i64 (m3 : Nat), .int .i64 (m4 : Nat), .int .i64 (m5 : Nat), .int .i64 (m6 : Nat), .int .i64 (m7 : Nat), .int .i64 kn, .int .i64 kd, .int .i64 a.o, .int .i64 a.n, .slice ada a.ks.length capa, .int .i64 b.o, .int .i64 b.n, .slice adb b.ks.length capb].toList := ⟨ada, capa, adb, capb, by unfold rateC; rw [← ekn.out, ← ekd.out, er.out], by rw [er.out]; exact Ta, by rw [er.out]; exact Tb⟩
              have S2 := sameRates_any [r] _ _ ((w6.alloc (.cells #[.int .i64 (m0 : Nat), .int .i64 (m1 : Nat), .int .i64 (m2 : Nat), .int .i64 (m3 : Nat), .int .i64 (m4 : Nat), .int .i64 (m5 : Nat), .int .i64 (m6 : Nat), .int .i64 (m7 : Nat), .int .i64 kn, .int .i64 kd, .int .i64 a.o, .int .i64 a.n, .slice ada a.ks.length capa, .int .i64 b.o, .int .i64 b.n, .slice adb b.ks.length capb] 52)).alloc (.cells #[.int .i64 (m0 : Nat), .int .i64 (m1 : Nat), .int .i64 (m2 : Nat), .int .i64 (m3 : Nat), .int .i64 (m4 : Nat), .int .i64 (m5 : Nat), .int .i64 (m6 : Nat), .int .i64 (m7 : Nat), .int .i64 kn, .int .i64 kd, .int .i64 a.o, .int .i64 a.n, .slice ada a.ks.length capa, .int .i64 b.o, .int .i64 b.n, .slice adb b.ks.length capb] 52)) ((hrs.below (alB w6 (.cells #[.int .i64 (m0 : Nat), .int .i64 (m1 : Nat), .int .i64 (m2 : Nat), .int .i64 (m3 : Nat), .int .i64 (m4 : Nat), .int .i64 (m5 : Nat), .int .i64 (m6 : Nat), .int .i64 (m7 : Nat), .int .i64 kn, .int .i64 kd, .int .i64 a.o, .int .i64 a.n, .slice ada a.ks.length capa, .int .i64 b.o, .int .i64 b.n, .slice adb b.ks.length capb] 52))).below (alB _ (.cells #[.int .i64 (m0 : Nat), .int .i64 (m1 : Nat), .int .i64 (m2 : Nat), .int .i64 (m3 : Nat), .int .i64 (m4 : Nat), .int .i64 (m5 : Nat), .int .i64 (m6 : Nat), .int .i64 (m7 : Nat), .int .i64 kn, .int .i64 kd, .int .i64 a.o, .int .i64 a.n, .slice ada a.ks.length capa, .int .i64 b.o, .int .i64 b.n, .slice adb b.ks.length capb] 52))) (rsl_new (Q := (fun _ => False)) (Own.new (w6.alloc (.cells #[.int .i64 (m0 : Nat), .int .i64 (m1 : Nat), .int .i64 (m2 : Nat), .int .i64 (m3 : Nat), .int .i64 (m4 : Nat), .int .i64 (m5 : Nat), .int .i64 (m6 : Nat), .int .i64 (m7 : Nat), .int .i64 kn, .int .i64 kd, .int .i64 a.o, .int .i64 a.n, .slice ada a.ks.length capa, .int .i64 b.o, .int .i64 b.n, .slice adb b.ks.length capb] 52)) #[.int .i64 (m0 : Nat), .int .i64 (m1 : Nat), .int .i64 (m2 : Nat), .int .i64 (m3 : Nat), .int .i64 (m4 : Nat), .int .i64 (m5 : Nat), .int .i64 (m6 : Nat), .int .i64 (m7 : Nat), .int .i64 kn, .int .i64 kd, .int .i64 a.o, .int .i64 a.n, .slice ada a.ks.length capa, .int .i64 b.o, .int .i64 b.n, .slice adb b.ks.length capb] 52) ((rv.below (alB w6 (.cells #[.int .i64 (m0 : Nat), .int .i64 (m1 : Nat), .int .i64 (m2 : Nat), .int .i64 (m3 : Nat), .int .i64 (m4 : Nat), .int .i64 (m5 : Nat), .int .i64 (m6 : Nat), .int .i64 (m7 : Nat), .int .i64 kn, .int .i64 kd, .int .i64 a.o, .int .i64 a.n, .slice ada a.ks.length capa, .int .i64 b.o, .int .i64 b.n, .slice adb b.ks.length capb] 52))).below (alB _ (.cells #[.int .i64 (m0 : Nat), .int .i64 (m1 : Nat), .int .i64 (m2 : Nat), .int .i64 (m3 : Nat), .int .i64 (m4 : Nat), .int .i64 (m5 : Nat), .int .i64 (m6 : Nat), .int .i64 (m7 : Nat), .int .i64 kn, .int .i64 kd, .int .i64 a.o, .int .i64 a.n, .slice ada a.ks.length capa, .int .i64 b.o, .int .i64 b.n, .slice adb b.ks.length capb] 52))) 1)
              simp only [World.size_alloc, List.length_cons, List.length_nil, Nat.zero_add] at S2
              refine S2.mono ?_
              rintro e w7 ⟨rfl, hx⟩
              replace hb := (balloc (balloc hb _) _).trans (hx.mono (balloc (balloc hb _) _).size)
              go_wp2_with fail
              go_ret
              exact Ret.mk rfl hb
theorem lawN_any (hHd : ∀ w, Lay w → Calls Tryz.prog 6 #[] w (Ret (.bool true) w)) (x0 x1 x2 x3 x4 x5 x6 x7 kp : Nat) (hxb : x0 ≤ 4294967295 ∧ x1 ≤ 4294967295 ∧ x2 ≤ 4294967295 ∧ x3 ≤ 4294967295 ∧ x4 ≤ 4294967295 ∧ x5 ≤ 4294967295 ∧ x6 ≤ 4294967295 ∧ x7 ≤ 4294967295 ∧ kp ≤ 4294967295) (a b : Xp) (va vb : Value) (w : World) (hL : Lay w) (ha : Tree (fun _ => False) w a va) (hb0 : Tree (fun _ => False) w b vb) : Calls Tryz.prog 5 #[.agg #[.int .u32 (x0 : Nat), .int .u32 (x1 : Nat), .int .u32 (x2 : Nat), .int .u32 (x3 : Nat), .int .u32 (x4 : Nat), .int .u32 (x5 : Nat), .int .u32 (x6 : Nat), .int .u32 (x7 : Nat)], .int .u32 (kp : Nat), va, vb] w (Ret (.bool true) w) := by
  cases hs : [a, b].all smallE with
  | false => exact lawN_no hHd x0 x1 x2 x3 x4 x5 x6 x7 kp hxb a b va vb w hL ha hb0 hs
  | true => exact lawN_yes hHd x0 x1 x2 x3 x4 x5 x6 x7 kp hxb a b va vb w hL ha hb0 hs
end Go.Proofs.YthnlenbfknbmcaaGreatDoor
