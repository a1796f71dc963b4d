/-
  What the printer leans on: strconv.Itoa and AppendInt, money.Text; the tables of its own.
-/
import Derived.Shelf.Strconv.AppendIntPublic10
import Derived.Shelf.Strconv.Itoa3
import Derived.Ground.NamesProg
import Derived.Test.YtlkefcbkpohpgaaDoorParRTxt
import Derived.Test.YtlkefcbkpohpgaaDoorPrnBld
import Derived.Test.YtlkefcbkpohpgaaDoorPrnMath
namespace Go.Proofs
open Go.Shelf
def Tryd.laysItoa_ren : Go.Shelf.Ren := ⟨fun | 171 => 29 | 243 => 50 | 246 => 65 | 283 => 76 | 284 => 77 | 285 => 78 | 286 => 79 | 129 => 87 | 317 => 86 | 318 => 88 | 319 => 89 | 320 => 90 | 337 => 91 | 338 => 92 | n => n, fun | 3 => 3 | 9 => 9 | 2 => 2 | 4 => 4 | 171 => 100 | 0 => 0 | 53 => 101 | 37 => 49 | 5 => 5 | 173 => 104 | 212 => 112 | 51 => 106 | 20 => 20 | 213 => 113 | 46 => 95 | 232 => 116 | 233 => 117 | n => n, fun | 17 => 3 | 18 => 4 | 19 => 5 | n => n⟩
theorem Tryd.laysItoa : Go.Proofs.LaysM.n171 Tryd.prog Tryd.laysItoa_ren := {
  mixed := by kernel_rfl
  f129 := Tryd.func87.trans (congrArg some (by kernel_rfl))
  f171 := Tryd.func29.trans (congrArg some (by kernel_rfl))
  f243 := Tryd.func50.trans (congrArg some (by kernel_rfl))
  f246 := Tryd.func65.trans (congrArg some (by kernel_rfl))
  f283 := Tryd.func76.trans (congrArg some (by kernel_rfl))
  f284 := Tryd.func77.trans (congrArg some (by kernel_rfl))
  f285 := Tryd.func78.trans (congrArg some (by kernel_rfl))
  f286 := Tryd.func79.trans (congrArg some (by kernel_rfl))
  f317 := Tryd.func86.trans (congrArg some (by kernel_rfl))
  f318 := Tryd.func88.trans (congrArg some (by kernel_rfl))
  f319 := Tryd.func89.trans (congrArg some (by kernel_rfl))
  f320 := Tryd.func90.trans (congrArg some (by kernel_rfl))
  f337 := Tryd.func91.trans (congrArg some (by kernel_rfl))
  f338 := Tryd.func92.trans (congrArg some (by kernel_rfl))
  t0 := Tryd.underlying0
  a0 := Tryd.isAgg0
  z0 := Tryd.sizeOf0
  v0 := Tryd.zeroValue0
  t2 := Tryd.underlying2
  a2 := Tryd.isAgg2
  z2 := Tryd.sizeOf2
  v2 := Tryd.zeroValue2
  t3 := Tryd.underlying3
  a3 := Tryd.isAgg3
  z3 := Tryd.sizeOf3
  v3 := Tryd.zeroValue3
  t4 := Tryd.underlying4
  a4 := Tryd.isAgg4
  z4 := Tryd.sizeOf4
  v4 := Tryd.zeroValue4
  t5 := Tryd.underlying5
  a5 := Tryd.isAgg5
  z5 := Tryd.sizeOf5
  v5 := Tryd.zeroValue5
  t9 := Tryd.underlying9
  a9 := Tryd.isAgg9
  z9 := Tryd.sizeOf9
  v9 := Tryd.zeroValue9
  t20 := Tryd.underlying20
  a20 := Tryd.isAgg20
  z20 := Tryd.sizeOf20
  v20 := Tryd.zeroValue20
  t37 := Tryd.underlying49
  a37 := Tryd.isAgg49
  z37 := Tryd.sizeOf49
  v37 := Tryd.zeroValue49
  t46 := Tryd.underlying95
  a46 := Tryd.isAgg95
  z46 := Tryd.sizeOf95
  v46 := Tryd.zeroValue95
  t51 := Tryd.underlying106
  a51 := Tryd.isAgg106
  z51 := Tryd.sizeOf106
  v51 := Tryd.zeroValue106
  t53 := Tryd.underlying101
  a53 := Tryd.isAgg101
  z53 := Tryd.sizeOf101
  v53 := Tryd.zeroValue101
  t171 := Tryd.underlying100
  a171 := Tryd.isAgg100
  z171 := Tryd.sizeOf100
  v171 := Tryd.zeroValue100
  t173 := Tryd.underlying104
  a173 := Tryd.isAgg104
  z173 := Tryd.sizeOf104
  v173 := Tryd.zeroValue104
  t212 := Tryd.underlying112
  a212 := Tryd.isAgg112
  z212 := Tryd.sizeOf112
  v212 := Tryd.zeroValue112
  t213 := Tryd.underlying113
  a213 := Tryd.isAgg113
  z213 := Tryd.sizeOf113
  t232 := Tryd.underlying116
  a232 := Tryd.isAgg116
  z232 := Tryd.sizeOf116
  v232 := Tryd.zeroValue116
  t233 := Tryd.underlying117
  a233 := Tryd.isAgg117
  z233 := Tryd.sizeOf117
  v233 := Tryd.zeroValue117
  g17 := by kernel_rfl
  g18 := by kernel_rfl
  g19 := by kernel_rfl
  i0 := by kernel_rfl
  i2 := by kernel_rfl
  i3 := by kernel_rfl
  i4 := by kernel_rfl
  i5 := by kernel_rfl
  i9 := by kernel_rfl
  i20 := by kernel_rfl
  i37 := by kernel_rfl
  i46 := by kernel_rfl
  i51 := by kernel_rfl
  i53 := by kernel_rfl
  i171 := by kernel_rfl
  i173 := by kernel_rfl
  i212 := by kernel_rfl
  i232 := by kernel_rfl
  i233 := by kernel_rfl
  m17 := by kernel_rfl
  m18 := by kernel_rfl
  m19 := by kernel_rfl }
def Tryd.laysAppendInt_ren : Go.Shelf.Ren := ⟨fun | 176 => 59 | 249 => 72 | 288 => 82 | 283 => 76 | 284 => 77 | 285 => 78 | 286 => 79 | 129 => 87 | 317 => 86 | 318 => 88 | 319 => 89 | 320 => 90 | 337 => 91 | 338 => 92 | n => n, fun | 37 => 49 | 2 => 2 | 3 => 3 | 53 => 101 | 4 => 4 | 9 => 9 | 171 => 100 | 0 => 0 | 173 => 104 | 212 => 112 | 51 => 106 | 5 => 5 | 20 => 20 | 213 => 113 | 46 => 95 | 232 => 116 | 233 => 117 | n => n, fun | 17 => 3 | 18 => 4 | 19 => 5 | n => n⟩
theorem Tryd.laysAppendInt : Go.Proofs.LaysM.n176 Tryd.prog Tryd.laysAppendInt_ren := {
  mixed := by kernel_rfl
  f129 := Tryd.func87.trans (congrArg some (by kernel_rfl))
  f176 := Tryd.func59.trans (congrArg some (by kernel_rfl))
  f249 := Tryd.func72.trans (congrArg some (by kernel_rfl))
  f283 := Tryd.func76.trans (congrArg some (by kernel_rfl))
  f284 := Tryd.func77.trans (congrArg some (by kernel_rfl))
  f285 := Tryd.func78.trans (congrArg some (by kernel_rfl))
  f286 := Tryd.func79.trans (congrArg some (by kernel_rfl))
  f288 := Tryd.func82.trans (congrArg some (by kernel_rfl))
  f317 := Tryd.func86.trans (congrArg some (by kernel_rfl))
  f318 := Tryd.func88.trans (congrArg some (by kernel_rfl))
  f319 := Tryd.func89.trans (congrArg some (by kernel_rfl))
  f320 := Tryd.func90.trans (congrArg some (by kernel_rfl))
  f337 := Tryd.func91.trans (congrArg some (by kernel_rfl))
  f338 := Tryd.func92.trans (congrArg some (by kernel_rfl))
  t0 := Tryd.underlying0
  a0 := Tryd.isAgg0
  z0 := Tryd.sizeOf0
  v0 := Tryd.zeroValue0
  t2 := Tryd.underlying2
  a2 := Tryd.isAgg2
  z2 := Tryd.sizeOf2
  v2 := Tryd.zeroValue2
  t3 := Tryd.underlying3
  a3 := Tryd.isAgg3
  z3 := Tryd.sizeOf3
  v3 := Tryd.zeroValue3
  t4 := Tryd.underlying4
  a4 := Tryd.isAgg4
  z4 := Tryd.sizeOf4
  v4 := Tryd.zeroValue4
  t5 := Tryd.underlying5
  a5 := Tryd.isAgg5
  z5 := Tryd.sizeOf5
  v5 := Tryd.zeroValue5
  t9 := Tryd.underlying9
  a9 := Tryd.isAgg9
  z9 := Tryd.sizeOf9
  v9 := Tryd.zeroValue9
  t20 := Tryd.underlying20
  a20 := Tryd.isAgg20
  z20 := Tryd.sizeOf20
  v20 := Tryd.zeroValue20
  t37 := Tryd.underlying49
  a37 := Tryd.isAgg49
  z37 := Tryd.sizeOf49
  v37 := Tryd.zeroValue49
  t46 := Tryd.underlying95
  a46 := Tryd.isAgg95
  z46 := Tryd.sizeOf95
  v46 := Tryd.zeroValue95
  t51 := Tryd.underlying106
  a51 := Tryd.isAgg106
  z51 := Tryd.sizeOf106
  v51 := Tryd.zeroValue106
  t53 := Tryd.underlying101
  a53 := Tryd.isAgg101
  z53 := Tryd.sizeOf101
  v53 := Tryd.zeroValue101
  t171 := Tryd.underlying100
  a171 := Tryd.isAgg100
  z171 := Tryd.sizeOf100
  v171 := Tryd.zeroValue100
  t173 := Tryd.underlying104
  a173 := Tryd.isAgg104
  z173 := Tryd.sizeOf104
  v173 := Tryd.zeroValue104
  t212 := Tryd.underlying112
  a212 := Tryd.isAgg112
  z212 := Tryd.sizeOf112
  v212 := Tryd.zeroValue112
  t213 := Tryd.underlying113
  a213 := Tryd.isAgg113
  z213 := Tryd.sizeOf113
  t232 := Tryd.underlying116
  a232 := Tryd.isAgg116
  z232 := Tryd.sizeOf116
  v232 := Tryd.zeroValue116
  t233 := Tryd.underlying117
  a233 := Tryd.isAgg117
  z233 := Tryd.sizeOf117
  v233 := Tryd.zeroValue117
  g17 := by kernel_rfl
  g18 := by kernel_rfl
  g19 := by kernel_rfl
  i0 := by kernel_rfl
  i2 := by kernel_rfl
  i3 := by kernel_rfl
  i4 := by kernel_rfl
  i5 := by kernel_rfl
  i9 := by kernel_rfl
  i20 := by kernel_rfl
  i37 := by kernel_rfl
  i46 := by kernel_rfl
  i51 := by kernel_rfl
  i53 := by kernel_rfl
  i171 := by kernel_rfl
  i173 := by kernel_rfl
  i212 := by kernel_rfl
  i232 := by kernel_rfl
  i233 := by kernel_rfl
  m17 := by kernel_rfl
  m18 := by kernel_rfl
  m19 := by kernel_rfl }
end Go.Proofs
namespace Go.Proofs.YtlkefcbkpohpgaaDoor
open Go.RowKit Go.Shelf
set_option maxRecDepth 100000

/-- the table of powers of ten reads as it was laid -/
def Ptab (w : World) : Prop := Lib.TabIs Tryd.prog w "internal/strconv.uint64pow10" .u64 Lib.pow10Tab
theorem Ptab.below {w w1 : World} (h : Ptab w) (hb : Below w.heap.size w w1) : Ptab w1 := by
  unfold Ptab Lib.TabIs World.var? at *
  cases hg : Tryd.prog.globalNamed "internal/strconv.uint64pow10" with
  | none => simp [hg] at h
  | some g =>
    simp only [hg, Option.bind_some] at h ⊢
    have hlt : g < w.heap.size := by
      rcases Nat.lt_or_ge g w.heap.size with hl | hl
      · exact hl
      · rw [Array.getElem?_eq_none hl] at h; simp at h
    rw [hb.block g hlt]; exact h
theorem pbelow_grow (w : World) (q : Nat) (os : Array Obj) : Below w.heap.size w (Sort.grow (w.drewN q) os) :=
  ⟨rfl, rfl, rfl, by simp [Sort.grow], fun i hi => by
    show ((w.drewN q).heap ++ os)[i]? = _
    rw [Array.getElem?_append_left (by show i < w.heap.size; omega)]
    rfl⟩
theorem pitoa_nat (n : Nat) : Lib.itoa (n : Int) = Lib.decDigits n := by
  unfold Lib.itoa; rw [if_neg (by omega)]; simp
theorem pitoa_any (n : Nat) (hn : n ≤ 1000000000) (w : World) (hT : Ptab w) : Calls Tryd.prog 29 #[.int .i64 n] w (Ret (.string ⟨(Lib.decDigits n).toArray⟩) w) :=
  (Any.strconv_Itoa Tryd.laysItoa n (by omega) (by omega) w hT).mono fun _ _ ⟨he, k, os, hw⟩ => ⟨by rw [he, pitoa_nat], by rw [hw]; exact pbelow_grow _ _ _⟩
theorem pappend_any (B : Nat) (i : Nat) (hi : i ≤ 1000000000) (v : Value) (l : List UInt8) (w : World) (h : Dg.OwnRow w B 5 v (l.map Dg.vB)) (hB : B ≤ w.heap.size) (hl : l.length ≤ 1000) (hT : Lib.TabBelow Tryd.prog B w "internal/strconv.uint64pow10" .u64 Lib.pow10Tab) :
    Calls Tryd.prog 59 #[v, .int .i64 i, .int .i64 10] w fun e w' => ∃ v', e = .returned v' ∧ Dg.OwnRow w' B 5 v' ((l ++ Lib.decDigits i).map Dg.vB) ∧ Below B w w' := by
  refine (Any.strconv_AppendInt_10 Tryd.laysAppendInt B l.length i (by omega) (by omega) v (l.map Dg.vB) w ?_ hB (by omega) hT).mono ?_
  · unfold Dg.OwnRow at h; rw [List.length_map] at h; exact h
  · rintro e w' ⟨v', rfl, hown, hb, _⟩
    refine ⟨v', rfl, ?_, hb⟩
    unfold Dg.OwnRow
    rw [pitoa_nat] at hown
    rw [List.length_map, List.length_append, List.map_append]
    exact hown
theorem prow_own {w : World} {B : Nat} {xs : List Value} {cap : Nat} (h : Own w B xs) (hs : xs.length ≤ 1000) : Dg.Row w (.slice (some ⟨B, 0, none⟩) xs.length cap) xs := by
  refine ⟨⟨_, _, rfl⟩, fun ad n c e i hi => ?_, by omega, fun n cap e => by cases e⟩
  cases e
  exact ⟨_, rfl, h.lt, by rw [Dg.add_zero0]; exact h.cell i _ (List.getElem?_eq_getElem hi)⟩
theorem pdg {k : Nat} (h : k < 10) : (UInt8.ofNat (48 + k)).toNat = 48 + k := by simp; omega
theorem pamount_any (a : Nat) (ha : a ≤ 1000000000) (w : World) : Calls Tryd.prog 58 #[.int .i64 a] w (Same (.bool true) w) := by
  have h1 : decide ((-1000000000 : Int) ≤ (a : Int)) = true := decide_eq_true (by omega)
  have h2 : decide ((a : Int) ≤ 1000000000) = true := decide_eq_true (by omega)
  go_enter Tryd.func58, Tryd.ntmps58
  go_wp2_with fail
  go_ret
  exact ⟨rfl, rfl⟩
set_option maxHeartbeats 1000000 in
theorem ptext_any (a : Nat) (ha : a ≤ 1000000000) (w : World) (hT : Ptab w) : Calls Tryd.prog 45 #[.int .i64 a] w (Ret (.tuple #[.string ⟨(monT a).toArray⟩, .int .i64 0]) w) := by
  have hTB := Lib.tabBelow_of_tabIs hT
  have hdl := dec_size 8 (a / 100) (by omega)
  have hneg : decide ((a : Int) < 0) = false := by simp
  go_enter Tryd.func45, Tryd.ntmps45
  go_wp2_with fail
  refine (pamount_any a ha w).mono ?_
  rintro e w0 ⟨rfl, rfl⟩
  go_wp2_with fail
  refine (pappend_any w.heap.size (a / 100) (by omega) _ [] w (Dg.OwnRow.nil _ _ _) (Nat.le_refl _) (by simp) hTB).mono ?_
  rintro e w3 ⟨v3, rfl, hown3, hb3⟩
  have hlen3 : ((([] : List UInt8) ++ Lib.decDigits (a / 100)).map Dg.vB).length ≤ 9 := by simp; omega
  have hv1 : Hid (Value.int .u8 (48 + (a : Int) % 100 / 10) = Dg.vB (UInt8.ofNat (48 + a / 10 % 10))) := Lib.hid (by unfold Dg.vB; rw [pdg (by omega)]; congr 1 <;> omega)
  have hv2 : Hid (Value.int .u8 (48 + (a : Int) % 10) = Dg.vB (UInt8.ofNat (48 + a % 10))) := Lib.hid (by unfold Dg.vB; rw [pdg (by omega)]; congr 1 <;> omega)
  have hz := hb3.size
  clear hdl
  go_wp2_with (at_builtin; refine Dg.app_row _ rfl _ _ 49 rfl w.heap.size 5 (.int .u8 0) 1 Tryd.underlying49 Dg.Tryd.infoU8 rfl (by decide) _ ((([] : List UInt8) ++ Lib.decDigits (a / 100)).map Dg.vB) rfl (Dg.own_below hown3 ((Below.refl _ w3).alloc (Nat.le_refl _) _)) _ [.int .u8 46, .int .u8 (48 + (a : Int) % 100 / 10), .int .u8 (48 + (a : Int) % 10)] rfl (prow_own (Own.new w3 #[.int .u8 46, .int .u8 (48 + (a : Int) % 100 / 10), .int .u8 (48 + (a : Int) % 10)] _) (by simp)) (by intro u hu; simp at hu; rcases hu with rfl | rfl | rfl <;> rfl) (by simp only [List.length_cons, List.length_nil]; omega) (by simp; omega) ?_; intro v4 w4 hown4 hx4; refine Hid.out ?_)
  have hb4 : Below w.heap.size w w4 := hb3.trans ((((Below.refl _ w3).alloc (Nat.le_refl _) _).mono hb3.size).trans hx4)
  rw [hv1.out, hv2.out] at hown4
  have hown5 : Dg.OwnRow w4 w.heap.size 5 v4 ((monT a).map Dg.vB) := by
    have e : monT a = ([] : List UInt8) ++ Lib.decDigits (a / 100) ++ [46, UInt8.ofNat (48 + a / 10 % 10), UInt8.ofNat (48 + a % 10)] := rfl
    rw [e, List.map_append]; exact hown4
  have hconv := Dg.conv_bytes hown5 (by unfold monT; simp)
  clear hown4 hown5 hown3
  refine Lib.hid ?_
  go_wp2_with fail
  go_ret2
  exact Ret.mk rfl hb4
/-- the shape of an operator -/
def shpO (o : Nat) : List UInt8 :=
  if o = 4 then [53, 32, 43, 32, 54] else if o = 5 then [53, 32, 45, 32, 54] else if o = 6 then [54, 32, 42, 32, 55] else if o = 7 then [54, 32, 47, 32, 55]
  else if o = 8 then [109, 105, 110, 40, 48, 44, 32, 48, 41] else if o = 9 then [109, 97, 120, 40, 48, 44, 32, 48, 41]
  else if o = 10 then [105, 102, 32, 48, 32, 116, 104, 101, 110, 32, 48, 32, 101, 108, 115, 101, 32, 48]
  else if o = 11 then [53, 32, 60, 32, 53] else if o = 12 then [53, 32, 61, 32, 53] else if o = 13 then [50, 32, 97, 110, 100, 32, 51] else if o = 14 then [49, 32, 111, 114, 32, 50] else if o = 15 then [110, 111, 116, 32, 51] else []
/-- the printer's tables, and that of the library -/
structure PL (w : World) : Prop where
  tab : Ptab w
  rank : ∀ o : Nat, 1 ≤ o → o ≤ 15 → w.cell? ⟨1, o * 2, none⟩ = some (.int .i64 (rankO o : Nat))
  shape : ∀ o : Nat, 1 ≤ o → o ≤ 15 → w.cell? ⟨1, o * 2 + 1, none⟩ = some (.string ⟨(shpO o).toArray⟩)
  vars : ∀ n : Nat, 1 ≤ n → n ≤ 4 → w.cell? ⟨0, n, none⟩ = some (.string ⟨(varT n).toArray⟩)
theorem PL.below {w w1 : World} (h : PL w) (hb : Below w.heap.size w w1) : PL w1 := by
  have key : ∀ {a : Addr} {v : Value}, w.cell? a = some v → w1.cell? a = some v := fun {a v} h => (hb.cell (p := a) (World.block_lt_of_cell? _ _ h)).trans h
  exact ⟨h.tab.below hb, fun o h1 h2 => key (h.rank o h1 h2), fun o h1 h2 => key (h.shape o h1 h2), fun n h1 h2 => key (h.vars n h1 h2)⟩
end Go.Proofs.YtlkefcbkpohpgaaDoor
