/-
  The walk of ParserPrecedence: what stands ahead, and the first way.
-/
import Derived.Test.YthnlenbfknbmcaaGreatDoorQsh
import Derived.Test.YthnlenbfknbmcaaGreatDoorQsm
import Derived.Test.YthnlenbfknbmcaaGreatDoorQg
import Derived.Test.YthnlenbfknbmcaaGreatDoorQt
import Derived.Test.YthnlenbfknbmcaaGreatDoorParHead
import Derived.Deep.RegionHeld3
import Derived.Deep.DeepCutAuto
namespace Go.Proofs.YthnlenbfknbmcaaGreatDoor
open Go.RowKit Go.Shelf
set_option maxRecDepth 100000
set_option linter.unusedVariables false
set_option linter.unusedSimpArgs false

/-- the operations of a region, by its number -/
def findR (n : Nat) : Code → Option (Array Oper)
  | .region id ops _ => if id = n then some ops else none
  | .seq a b => (match findR n a with | some o => some o | none => findR n b)
  | .cond _ a b => (match findR n a with | some o => some o | none => findR n b)
  | .block _ a => findR n a
  | .loop a => findR n a
  | .scope a => findR n a
  | _ => none
theorem drB (w : World) : Below w.heap.size w w.drew := (Below.refl w.heap.size w).drew
theorem bAq {w w1 : World} {o : Obj} (h : Below (w.alloc o).heap.size (w.alloc o) w1) : Below w.heap.size w w1 := (alB w o).trans (h.mono (alB w o).size)
theorem bDq {w w1 : World} (h : Below w.drew.heap.size w.drew w1) : Below w.heap.size w w1 := (drB w).trans (h.mono (drB w).size)
theorem Trees.belowq {Q : Nat → Prop} {w w' : World} {l : List Xp} {ad : Option Addr} {i : Nat} (ht : Trees Q w l ad i) (h : Below w.heap.size w w') : Trees Q w' l ad i := Trees.go h.size (fun k hk hq => ⟨h.block k hk, hq⟩) ht
/-- a source that is read as an expression -/
theorem pexpr_ep {s : List UInt8} {e : Xp} (h : EP s e 0) (w : World) (hL : Lay w) : Calls Tryz.prog 8 #[.string ⟨s.toArray⟩] w fun x w' => ∃ ad cap, x = .returned (.tuple #[.agg #[.int .i64 e.o, .int .i64 e.n, .slice ad e.ks.length cap], .int .i64 0]) ∧ Tree (fun _ => False) w' e (.agg #[.int .i64 e.o, .int .i64 e.n, .slice ad e.ks.length cap]) ∧ Below w.heap.size w w' :=
  (pexpr_any s w hL).mono fun x w' ⟨e2, k, tv, hp, he, ht, hb⟩ => by
    obtain ⟨rfl, rfl⟩ := hp.det h
    obtain ⟨ad, cap, rfl, -, -⟩ := ht.shape
    exact ⟨ad, cap, he, ht.free, hb⟩
theorem four_trees {w : World} {B : Nat} {a b c d : Xp} {ada adb adc add : Option Addr} {capa capb capc capd : Nat} (h : Own w B [.int .i64 a.o, .int .i64 a.n, .slice ada a.ks.length capa, .int .i64 b.o, .int .i64 b.n, .slice adb b.ks.length capb, .int .i64 c.o, .int .i64 c.n, .slice adc c.ks.length capc, .int .i64 d.o, .int .i64 d.n, .slice add d.ks.length capd])
    (ha : Tree (fun _ => False) w a (.agg #[.int .i64 a.o, .int .i64 a.n, .slice ada a.ks.length capa])) (hb : Tree (fun _ => False) w b (.agg #[.int .i64 b.o, .int .i64 b.n, .slice adb b.ks.length capb])) (hc : Tree (fun _ => False) w c (.agg #[.int .i64 c.o, .int .i64 c.n, .slice adc c.ks.length capc])) (hd : Tree (fun _ => False) w d (.agg #[.int .i64 d.o, .int .i64 d.n, .slice add d.ks.length capd])) : Trees (fun _ => False) w [a, b, c, d] (some ⟨B, 0, none⟩) 0 := by
  have := tree_node (Q := fun _ => False) (o := 0) (l := [a, b, c, d]) (vs := [(.int .i64 a.o, .int .i64 a.n, .slice ada a.ks.length capa), (.int .i64 b.o, .int .i64 b.n, .slice adb b.ks.length capb), (.int .i64 c.o, .int .i64 c.n, .slice adc c.ks.length capc), (.int .i64 d.o, .int .i64 d.n, .slice add d.ks.length capd)]) (fun h => h) h rfl (by simp) (fun k h1 h2 => by
    match k, h1 with
    | 0, _ => exact ha
    | 1, _ => exact hb
    | 2, _ => exact hc
    | 3, _ => exact hd) 4 (by simp)
  obtain ⟨ad, cap, e, -, ht⟩ := this.shape
  simp [nodeE, Xp.o, Xp.n, Xp.ks] at e ht
  obtain ⟨e, -⟩ := e
  rw [e]
  exact ht
theorem small_is {e : Xp} (h : smallE e = true) : smallS e := by
  unfold smallE validF at h
  simp only [Bool.and_eq_true, decide_eq_true_eq] at h
  exact ⟨h.1.1.1.1, h.2, h.1.2⟩
set_option maxHeartbeats 6400000 in
theorem lawQ_no (hHd : ∀ w, Lay w → Calls Tryz.prog 6 #[] w (Ret (.bool true) w)) (a b c d : Xp) (va vb vc vd : Value) (w : World) (hL : Lay w) (ha : Tree (fun _ => False) w a va) (hb0 : Tree (fun _ => False) w b vb) (hc : Tree (fun _ => False) w c vc) (hd : Tree (fun _ => False) w d vd) (hs : [a, b, c, d].all smallE = false) : Calls Tryz.prog 4 #[va, vb, vc, vd] w (Ret (.bool true) w) := by
  obtain ⟨ada, capa, rfl, -, -⟩ := ha.shape
  obtain ⟨adb, capb, rfl, -, -⟩ := hb0.shape
  obtain ⟨adc, capc, rfl, -, -⟩ := hc.shape
  obtain ⟨add, capd, rfl, -, -⟩ := hd.shape
  obtain ⟨W, hW⟩ : ∃ W, W = ((((w.alloc (.cells #[.int .i64 a.o, .int .i64 a.n, .slice ada a.ks.length capa] 24)).alloc (.cells #[.int .i64 b.o, .int .i64 b.n, .slice adb b.ks.length capb] 24)).alloc (.cells #[.int .i64 c.o, .int .i64 c.n, .slice adc c.ks.length capc] 24)).alloc (.cells #[.int .i64 d.o, .int .i64 d.n, .slice add d.ks.length capd] 24)) := ⟨_, rfl⟩
  have oa : Own W (w.heap.size) [.int .i64 a.o, .int .i64 a.n, .slice ada a.ks.length capa] := by
    rw [hW]
    have := ((((Own.new w #[.int .i64 a.o, .int .i64 a.n, .slice ada a.ks.length capa] 24).alloc (.cells #[.int .i64 b.o, .int .i64 b.n, .slice adb b.ks.length capb] 24)).alloc (.cells #[.int .i64 c.o, .int .i64 c.n, .slice adc c.ks.length capc] 24)).alloc (.cells #[.int .i64 d.o, .int .i64 d.n, .slice add d.ks.length capd] 24))
    simpa using this
  have ob : Own W (w.heap.size + 1) [.int .i64 b.o, .int .i64 b.n, .slice adb b.ks.length capb] := by
    rw [hW]
    have := (((Own.new (w.alloc (.cells #[.int .i64 a.o, .int .i64 a.n, .slice ada a.ks.length capa] 24)) #[.int .i64 b.o, .int .i64 b.n, .slice adb b.ks.length capb] 24).alloc (.cells #[.int .i64 c.o, .int .i64 c.n, .slice adc c.ks.length capc] 24)).alloc (.cells #[.int .i64 d.o, .int .i64 d.n, .slice add d.ks.length capd] 24))
    simpa using this
  have oc : Own W (w.heap.size + 2) [.int .i64 c.o, .int .i64 c.n, .slice adc c.ks.length capc] := by
    rw [hW]
    have := ((Own.new ((w.alloc (.cells #[.int .i64 a.o, .int .i64 a.n, .slice ada a.ks.length capa] 24)).alloc (.cells #[.int .i64 b.o, .int .i64 b.n, .slice adb b.ks.length capb] 24)) #[.int .i64 c.o, .int .i64 c.n, .slice adc c.ks.length capc] 24).alloc (.cells #[.int .i64 d.o, .int .i64 d.n, .slice add d.ks.length capd] 24))
    simpa using this
  have od : Own W (w.heap.size + 3) [.int .i64 d.o, .int .i64 d.n, .slice add d.ks.length capd] := by
    rw [hW]
    have := (Own.new (((w.alloc (.cells #[.int .i64 a.o, .int .i64 a.n, .slice ada a.ks.length capa] 24)).alloc (.cells #[.int .i64 b.o, .int .i64 b.n, .slice adb b.ks.length capb] 24)).alloc (.cells #[.int .i64 c.o, .int .i64 c.n, .slice adc c.ks.length capc] 24)) #[.int .i64 d.o, .int .i64 d.n, .slice add d.ks.length capd] 24)
    simpa using this
  have hb : Below w.heap.size w W := by rw [hW]; exact balloc (balloc (balloc (balloc (Below.refl _ _) _) _) _) _
  have hH := hHd _ (hL.below hb)
  have Ta := ha.below hb
  have Tb := hb0.below hb
  have Tc := hc.below hb
  have Td := hd.below hb
  clear ha hb0 hc hd hHd
  go_enter Tryz.func4, Tryz.ntmps4
  go_wp2_with fail
  rw [← hW]
  clear hW
  refine hH.mono ?_
  rintro e w1 ⟨rfl, hx⟩
  clear hH
  first | (have hq := hx; with_reducible replace oa := oa.below hq) | (have hq := (bAq hx); with_reducible replace oa := oa.below hq) | (have hq := (bAq (bDq hx)); with_reducible replace oa := oa.below hq) | (have hq := (bAq (bAq hx)); with_reducible replace oa := oa.below hq) | (have hq := (bAq (bAq (bDq hx))); with_reducible replace oa := oa.below hq) | (have hq := (bDq hx); with_reducible replace oa := oa.below hq)
  replace ob := ob.below hq
  replace oc := oc.below hq
  replace od := od.below hq
  replace Ta := Ta.below hq
  replace Tb := Tb.below hq
  replace Tc := Tc.below hq
  replace Td := Td.below hq
  replace hb := hb.trans (hq.mono hb.size)
  clear hq
  clear hx
  obtain ⟨ra0, ra1, ra2, -, -, -, raz⟩ := oa.three
  obtain ⟨rb0, rb1, rb2, -, -, -, rbz⟩ := ob.three
  obtain ⟨rc0, rc1, rc2, -, -, -, rcz⟩ := oc.three
  obtain ⟨rd0, rd1, rd2, -, -, -, rdz⟩ := od.three
  go_wp2_with fail
  clear ra0 ra1 ra2 raz rb0 rb1 rb2 rbz rc0 rc1 rc2 rcz rd0 rd1 rd2 rdz
  have os := Own.new w1 #[.int .i64 a.o, .int .i64 a.n, .slice ada a.ks.length capa, .int .i64 b.o, .int .i64 b.n, .slice adb b.ks.length capb, .int .i64 c.o, .int .i64 c.n, .slice adc c.ks.length capc, .int .i64 d.o, .int .i64 d.n, .slice add d.ks.length capd] 24
  have TS := four_trees os (Ta.below (alB w1 (.cells #[.int .i64 a.o, .int .i64 a.n, .slice ada a.ks.length capa, .int .i64 b.o, .int .i64 b.n, .slice adb b.ks.length capb, .int .i64 c.o, .int .i64 c.n, .slice adc c.ks.length capc, .int .i64 d.o, .int .i64 d.n, .slice add d.ks.length capd] 24))) (Tb.below (alB w1 (.cells #[.int .i64 a.o, .int .i64 a.n, .slice ada a.ks.length capa, .int .i64 b.o, .int .i64 b.n, .slice adb b.ks.length capb, .int .i64 c.o, .int .i64 c.n, .slice adc c.ks.length capc, .int .i64 d.o, .int .i64 d.n, .slice add d.ks.length capd] 24))) (Tc.below (alB w1 (.cells #[.int .i64 a.o, .int .i64 a.n, .slice ada a.ks.length capa, .int .i64 b.o, .int .i64 b.n, .slice adb b.ks.length capb, .int .i64 c.o, .int .i64 c.n, .slice adc c.ks.length capc, .int .i64 d.o, .int .i64 d.n, .slice add d.ks.length capd] 24))) (Td.below (alB w1 (.cells #[.int .i64 a.o, .int .i64 a.n, .slice ada a.ks.length capa, .int .i64 b.o, .int .i64 b.n, .slice adb b.ks.length capb, .int .i64 c.o, .int .i64 c.n, .slice adc c.ks.length capc, .int .i64 d.o, .int .i64 d.n, .slice add d.ks.length capd] 24)))
  have hSm := small_any (fun _ => False) [a, b, c, d] _ 4 _ (by simp) TS
  rw [hs] at hSm
  refine hSm.mono ?_
  rintro e w2 ⟨rfl, hx⟩
  clear hSm TS os
  first | (have hq := hx; with_reducible replace oa := oa.below hq) | (have hq := (bAq hx); with_reducible replace oa := oa.below hq) | (have hq := (bAq (bDq hx)); with_reducible replace oa := oa.below hq) | (have hq := (bAq (bAq hx)); with_reducible replace oa := oa.below hq) | (have hq := (bAq (bAq (bDq hx))); with_reducible replace oa := oa.below hq) | (have hq := (bDq hx); with_reducible replace oa := oa.below hq)
  replace ob := ob.below hq
  replace oc := oc.below hq
  replace od := od.below hq
  replace Ta := Ta.below hq
  replace Tb := Tb.below hq
  replace Tc := Tc.below hq
  replace Td := Td.below hq
  replace hb := hb.trans (hq.mono hb.size)
  clear hq
  clear hx
  go_wp2_with fail
  go_ret
  exact Ret.mk rfl hb
theorem bytes_p (sa sb sc sd : List UInt8) (A B C D : ByteArray) (eA : A = ⟨sa.toArray⟩) (eB : B = ⟨sb.toArray⟩) (eC : C = ⟨sc.toArray⟩) (eD : D = ⟨sd.toArray⟩) : (⟨((sa ++ 32 :: ([43] ++ 32 :: (sb ++ 32 :: ([42] ++ 32 :: (sc ++ 32 :: ([60] ++ 32 :: (sd ++ 32 :: ([45] ++ 32 :: (sa ++ 32 :: ([47] ++ 32 :: sb)))))))))) : List UInt8).toArray⟩ : ByteArray) = A ++ ⟨#[32, 43, 32]⟩ ++ B ++ ⟨#[32, 42, 32]⟩ ++ C ++ ⟨#[32, 60, 32]⟩ ++ D ++ ⟨#[32, 45, 32]⟩ ++ A ++ ⟨#[32, 47, 32]⟩ ++ B := by
  subst eA eB eC eD
  apply ByteArray.ext; simp [ByteArray.data_append, wNot, wAnd, wOr, wIf, wThen, wElse]
theorem bytes_q (sa sb sc sd : List UInt8) (A B C D : ByteArray) (eA : A = ⟨sa.toArray⟩) (eB : B = ⟨sb.toArray⟩) (eC : C = ⟨sc.toArray⟩) (eD : D = ⟨sd.toArray⟩) : (⟨((wNot ++ 32 :: (sa ++ 32 :: ([61] ++ 32 :: (sb ++ 32 :: (wAnd ++ 32 :: (sc ++ 32 :: (wOr ++ 32 :: (sd ++ 32 :: (wAnd ++ 32 :: (wNot ++ 32 :: (wNot ++ 32 :: sa))))))))))) : List UInt8).toArray⟩ : ByteArray) = (⟨#[110, 111, 116, 32]⟩ : ByteArray) ++ A ++ ⟨#[32, 61, 32]⟩ ++ B ++ ⟨#[32, 97, 110, 100, 32]⟩ ++ C ++ ⟨#[32, 111, 114, 32]⟩ ++ D ++ ⟨#[32, 97, 110, 100, 32, 110, 111, 116, 32, 110, 111, 116, 32]⟩ ++ A := by
  subst eA eB eC eD
  apply ByteArray.ext; simp [ByteArray.data_append, wNot, wAnd, wOr, wIf, wThen, wElse]
theorem bytes_r (sa sb sc sd : List UInt8) (A B C D : ByteArray) (eA : A = ⟨sa.toArray⟩) (eB : B = ⟨sb.toArray⟩) (eC : C = ⟨sc.toArray⟩) (eD : D = ⟨sd.toArray⟩) : (⟨((sa ++ 32 :: ([45] ++ 32 :: (sb ++ 32 :: ([43] ++ 32 :: (sc ++ 32 :: ([45] ++ 32 :: sd)))))) : List UInt8).toArray⟩ : ByteArray) = A ++ ⟨#[32, 45, 32]⟩ ++ B ++ ⟨#[32, 43, 32]⟩ ++ C ++ ⟨#[32, 45, 32]⟩ ++ D := by
  subst eA eB eC eD
  apply ByteArray.ext; simp [ByteArray.data_append, wNot, wAnd, wOr, wIf, wThen, wElse]
theorem bytes_s (sa sb sc sd : List UInt8) (A B C D : ByteArray) (eA : A = ⟨sa.toArray⟩) (eB : B = ⟨sb.toArray⟩) (eC : C = ⟨sc.toArray⟩) (eD : D = ⟨sd.toArray⟩) : (⟨((sa ++ 32 :: ([47] ++ 32 :: (sb ++ 32 :: ([42] ++ 32 :: (sc ++ 32 :: (wOr ++ 32 :: (sd ++ 32 :: (wOr ++ 32 :: sa)))))))) : List UInt8).toArray⟩ : ByteArray) = A ++ ⟨#[32, 47, 32]⟩ ++ B ++ ⟨#[32, 42, 32]⟩ ++ C ++ ⟨#[32, 111, 114, 32]⟩ ++ D ++ ⟨#[32, 111, 114, 32]⟩ ++ A := by
  subst eA eB eC eD
  apply ByteArray.ext; simp [ByteArray.data_append, wNot, wAnd, wOr, wIf, wThen, wElse]
theorem bytes_t (sa sb sc sd : List UInt8) (A B C D : ByteArray) (eA : A = ⟨sa.toArray⟩) (eB : B = ⟨sb.toArray⟩) (eC : C = ⟨sc.toArray⟩) (eD : D = ⟨sd.toArray⟩) : (⟨((wIf ++ 32 :: (sa ++ 32 :: (wThen ++ 32 :: (sb ++ 32 :: (wElse ++ 32 :: (wIf ++ 32 :: (sc ++ 32 :: (wThen ++ 32 :: (sd ++ 32 :: (wElse ++ 32 :: (sa ++ 32 :: ([43] ++ 32 :: sb)))))))))))) : List UInt8).toArray⟩ : ByteArray) = (⟨#[105, 102, 32]⟩ : ByteArray) ++ A ++ ⟨#[32, 116, 104, 101, 110, 32]⟩ ++ B ++ ⟨#[32, 101, 108, 115, 101, 32, 105, 102, 32]⟩ ++ C ++ ⟨#[32, 116, 104, 101, 110, 32]⟩ ++ D ++ ⟨#[32, 101, 108, 115, 101, 32]⟩ ++ A ++ ⟨#[32, 43, 32]⟩ ++ B := by
  subst eA eB eC eD
  apply ByteArray.ext; simp [ByteArray.data_append, wNot, wAnd, wOr, wIf, wThen, wElse]
end Go.Proofs.YthnlenbfknbmcaaGreatDoor
