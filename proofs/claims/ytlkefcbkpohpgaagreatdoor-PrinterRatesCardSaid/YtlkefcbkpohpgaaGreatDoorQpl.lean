/-
  What the printer leans on: strconv.Itoa and AppendInt, money.Text; the tables of its own.
-/
import Derived.Shelf.Strconv.AppendIntPublic10
import Derived.Shelf.Strconv.Itoa3
import Derived.Ground.NamesProg
import Derived.Test.YtlkefcbkpohpgaaGreatDoorQdc
import Derived.Test.YtlkefcbkpohpgaaGreatDoorQpp
import Derived.Laws.RangeString
import Derived.IntWalk
import Derived.Laws.Slices
namespace Go.Proofs
open Go.Shelf
def Tryz.laysItoa_ren : Go.Shelf.Ren := ⟨fun | 171 => 57 | 243 => 83 | 246 => 115 | 283 => 141 | 284 => 142 | 285 => 143 | 286 => 144 | 129 => 157 | 317 => 156 | 318 => 158 | 319 => 159 | 320 => 160 | 337 => 167 | 338 => 168 | n => n, fun | 3 => 3 | 9 => 9 | 2 => 2 | 4 => 4 | 171 => 169 | 0 => 0 | 53 => 170 | 37 => 88 | 5 => 5 | 173 => 173 | 212 => 181 | 51 => 40 | 20 => 20 | 213 => 182 | 46 => 183 | 232 => 196 | 233 => 197 | n => n, fun | 17 => 3 | 18 => 4 | 19 => 5 | n => n⟩
theorem Tryz.laysItoa : Go.Proofs.LaysM.n171 Tryz.prog Tryz.laysItoa_ren := {
  mixed := by kernel_rfl
  f129 := Tryz.func157.trans (congrArg some (by kernel_rfl))
  f171 := Tryz.func57.trans (congrArg some (by kernel_rfl))
  f243 := Tryz.func83.trans (congrArg some (by kernel_rfl))
  f246 := Tryz.func115.trans (congrArg some (by kernel_rfl))
  f283 := Tryz.func141.trans (congrArg some (by kernel_rfl))
  f284 := Tryz.func142.trans (congrArg some (by kernel_rfl))
  f285 := Tryz.func143.trans (congrArg some (by kernel_rfl))
  f286 := Tryz.func144.trans (congrArg some (by kernel_rfl))
  f317 := Tryz.func156.trans (congrArg some (by kernel_rfl))
  f318 := Tryz.func158.trans (congrArg some (by kernel_rfl))
  f319 := Tryz.func159.trans (congrArg some (by kernel_rfl))
  f320 := Tryz.func160.trans (congrArg some (by kernel_rfl))
  f337 := Tryz.func167.trans (congrArg some (by kernel_rfl))
  f338 := Tryz.func168.trans (congrArg some (by kernel_rfl))
  t0 := Tryz.underlying0
  a0 := Tryz.isAgg0
  z0 := Tryz.sizeOf0
  v0 := Tryz.zeroValue0
  t2 := Tryz.underlying2
  a2 := Tryz.isAgg2
  z2 := Tryz.sizeOf2
  v2 := Tryz.zeroValue2
  t3 := Tryz.underlying3
  a3 := Tryz.isAgg3
  z3 := Tryz.sizeOf3
  v3 := Tryz.zeroValue3
  t4 := Tryz.underlying4
  a4 := Tryz.isAgg4
  z4 := Tryz.sizeOf4
  v4 := Tryz.zeroValue4
  t5 := Tryz.underlying5
  a5 := Tryz.isAgg5
  z5 := Tryz.sizeOf5
  v5 := Tryz.zeroValue5
  t9 := Tryz.underlying9
  a9 := Tryz.isAgg9
  z9 := Tryz.sizeOf9
  v9 := Tryz.zeroValue9
  t20 := Tryz.underlying20
  a20 := Tryz.isAgg20
  z20 := Tryz.sizeOf20
  v20 := Tryz.zeroValue20
  t37 := Tryz.underlying88
  a37 := Tryz.isAgg88
  z37 := Tryz.sizeOf88
  v37 := Tryz.zeroValue88
  t46 := Tryz.underlying183
  a46 := Tryz.isAgg183
  z46 := Tryz.sizeOf183
  v46 := Tryz.zeroValue183
  t51 := Tryz.underlying40
  a51 := Tryz.isAgg40
  z51 := Tryz.sizeOf40
  v51 := Tryz.zeroValue40
  t53 := Tryz.underlying170
  a53 := Tryz.isAgg170
  z53 := Tryz.sizeOf170
  v53 := Tryz.zeroValue170
  t171 := Tryz.underlying169
  a171 := Tryz.isAgg169
  z171 := Tryz.sizeOf169
  v171 := Tryz.zeroValue169
  t173 := Tryz.underlying173
  a173 := Tryz.isAgg173
  z173 := Tryz.sizeOf173
  v173 := Tryz.zeroValue173
  t212 := Tryz.underlying181
  a212 := Tryz.isAgg181
  z212 := Tryz.sizeOf181
  v212 := Tryz.zeroValue181
  t213 := Tryz.underlying182
  a213 := Tryz.isAgg182
  z213 := Tryz.sizeOf182
  t232 := Tryz.underlying196
  a232 := Tryz.isAgg196
  z232 := Tryz.sizeOf196
  v232 := Tryz.zeroValue196
  t233 := Tryz.underlying197
  a233 := Tryz.isAgg197
  z233 := Tryz.sizeOf197
  v233 := Tryz.zeroValue197
  g17 := by kernel_rfl
  g18 := by kernel_rfl
  g19 := by kernel_rfl
  i0 := by kernel_rfl
  i2 := by kernel_rfl
  i3 := by kernel_rfl
  i4 := by kernel_rfl
  i5 := by kernel_rfl
  i9 := by kernel_rfl
  i20 := by kernel_rfl
  i37 := by kernel_rfl
  i46 := by kernel_rfl
  i51 := by kernel_rfl
  i53 := by kernel_rfl
  i171 := by kernel_rfl
  i173 := by kernel_rfl
  i212 := by kernel_rfl
  i232 := by kernel_rfl
  i233 := by kernel_rfl
  m17 := by kernel_rfl
  m18 := by kernel_rfl
  m19 := by kernel_rfl }
def Tryz.laysAppendInt_ren : Go.Shelf.Ren := ⟨fun | 176 => 110 | 249 => 137 | 288 => 153 | 283 => 141 | 284 => 142 | 285 => 143 | 286 => 144 | 129 => 157 | 317 => 156 | 318 => 158 | 319 => 159 | 320 => 160 | 337 => 167 | 338 => 168 | n => n, fun | 37 => 88 | 2 => 2 | 3 => 3 | 53 => 170 | 4 => 4 | 9 => 9 | 171 => 169 | 0 => 0 | 173 => 173 | 212 => 181 | 51 => 40 | 5 => 5 | 20 => 20 | 213 => 182 | 46 => 183 | 232 => 196 | 233 => 197 | n => n, fun | 17 => 3 | 18 => 4 | 19 => 5 | n => n⟩
theorem Tryz.laysAppendInt : Go.Proofs.LaysM.n176 Tryz.prog Tryz.laysAppendInt_ren := {
  mixed := by kernel_rfl
  f129 := Tryz.func157.trans (congrArg some (by kernel_rfl))
  f176 := Tryz.func110.trans (congrArg some (by kernel_rfl))
  f249 := Tryz.func137.trans (congrArg some (by kernel_rfl))
  f283 := Tryz.func141.trans (congrArg some (by kernel_rfl))
  f284 := Tryz.func142.trans (congrArg some (by kernel_rfl))
  f285 := Tryz.func143.trans (congrArg some (by kernel_rfl))
  f286 := Tryz.func144.trans (congrArg some (by kernel_rfl))
  f288 := Tryz.func153.trans (congrArg some (by kernel_rfl))
  f317 := Tryz.func156.trans (congrArg some (by kernel_rfl))
  f318 := Tryz.func158.trans (congrArg some (by kernel_rfl))
  f319 := Tryz.func159.trans (congrArg some (by kernel_rfl))
  f320 := Tryz.func160.trans (congrArg some (by kernel_rfl))
  f337 := Tryz.func167.trans (congrArg some (by kernel_rfl))
  f338 := Tryz.func168.trans (congrArg some (by kernel_rfl))
  t0 := Tryz.underlying0
  a0 := Tryz.isAgg0
  z0 := Tryz.sizeOf0
  v0 := Tryz.zeroValue0
  t2 := Tryz.underlying2
  a2 := Tryz.isAgg2
  z2 := Tryz.sizeOf2
  v2 := Tryz.zeroValue2
  t3 := Tryz.underlying3
  a3 := Tryz.isAgg3
  z3 := Tryz.sizeOf3
  v3 := Tryz.zeroValue3
  t4 := Tryz.underlying4
  a4 := Tryz.isAgg4
  z4 := Tryz.sizeOf4
  v4 := Tryz.zeroValue4
  t5 := Tryz.underlying5
  a5 := Tryz.isAgg5
  z5 := Tryz.sizeOf5
  v5 := Tryz.zeroValue5
  t9 := Tryz.underlying9
  a9 := Tryz.isAgg9
  z9 := Tryz.sizeOf9
  v9 := Tryz.zeroValue9
  t20 := Tryz.underlying20
  a20 := Tryz.isAgg20
  z20 := Tryz.sizeOf20
  v20 := Tryz.zeroValue20
  t37 := Tryz.underlying88
  a37 := Tryz.isAgg88
  z37 := Tryz.sizeOf88
  v37 := Tryz.zeroValue88
  t46 := Tryz.underlying183
  a46 := Tryz.isAgg183
  z46 := Tryz.sizeOf183
  v46 := Tryz.zeroValue183
  t51 := Tryz.underlying40
  a51 := Tryz.isAgg40
  z51 := Tryz.sizeOf40
  v51 := Tryz.zeroValue40
  t53 := Tryz.underlying170
  a53 := Tryz.isAgg170
  z53 := Tryz.sizeOf170
  v53 := Tryz.zeroValue170
  t171 := Tryz.underlying169
  a171 := Tryz.isAgg169
  z171 := Tryz.sizeOf169
  v171 := Tryz.zeroValue169
  t173 := Tryz.underlying173
  a173 := Tryz.isAgg173
  z173 := Tryz.sizeOf173
  v173 := Tryz.zeroValue173
  t212 := Tryz.underlying181
  a212 := Tryz.isAgg181
  z212 := Tryz.sizeOf181
  v212 := Tryz.zeroValue181
  t213 := Tryz.underlying182
  a213 := Tryz.isAgg182
  z213 := Tryz.sizeOf182
  t232 := Tryz.underlying196
  a232 := Tryz.isAgg196
  z232 := Tryz.sizeOf196
  v232 := Tryz.zeroValue196
  t233 := Tryz.underlying197
  a233 := Tryz.isAgg197
  z233 := Tryz.sizeOf197
  v233 := Tryz.zeroValue197
  g17 := by kernel_rfl
  g18 := by kernel_rfl
  g19 := by kernel_rfl
  i0 := by kernel_rfl
  i2 := by kernel_rfl
  i3 := by kernel_rfl
  i4 := by kernel_rfl
  i5 := by kernel_rfl
  i9 := by kernel_rfl
  i20 := by kernel_rfl
  i37 := by kernel_rfl
  i46 := by kernel_rfl
  i51 := by kernel_rfl
  i53 := by kernel_rfl
  i171 := by kernel_rfl
  i173 := by kernel_rfl
  i212 := by kernel_rfl
  i232 := by kernel_rfl
  i233 := by kernel_rfl
  m17 := by kernel_rfl
  m18 := by kernel_rfl
  m19 := by kernel_rfl }
end Go.Proofs
namespace Go.Proofs.YtlkefcbkpohpgaaGreatDoor
open Go.RowKit Go.Shelf
set_option maxRecDepth 100000

/-- the table of powers of ten reads as it was laid -/
def Ptab (w : World) : Prop := Lib.TabIs Tryz.prog w "internal/strconv.uint64pow10" .u64 Lib.pow10Tab
theorem Ptab.below {w w1 : World} (h : Ptab w) (hb : Below w.heap.size w w1) : Ptab w1 := by
  unfold Ptab Lib.TabIs World.var? at *
  cases hg : Tryz.prog.globalNamed "internal/strconv.uint64pow10" with
  | none => simp [hg] at h
  | some g =>
    simp only [hg, Option.bind_some] at h ⊢
    have hlt : g < w.heap.size := by
      rcases Nat.lt_or_ge g w.heap.size with hl | hl
      · exact hl
      · rw [Array.getElem?_eq_none hl] at h; simp at h
    rw [hb.block g hlt]; exact h
theorem pbelow_grow (w : World) (q : Nat) (os : Array Obj) : Below w.heap.size w (Sort.grow (w.drewN q) os) :=
  ⟨rfl, rfl, rfl, by simp [Sort.grow], fun i hi => by
    show ((w.drewN q).heap ++ os)[i]? = _
    rw [Array.getElem?_append_left (by show i < w.heap.size; omega)]
    rfl⟩
theorem pitoa_nat (n : Nat) : Lib.itoa (n : Int) = Lib.decDigits n := by
  unfold Lib.itoa; rw [if_neg (by omega)]; simp
theorem pitoa_any (n : Nat) (hn : n ≤ 1000000000) (w : World) (hT : Ptab w) : Calls Tryz.prog 57 #[.int .i64 n] w (Ret (.string ⟨(Lib.decDigits n).toArray⟩) w) :=
  (Any.strconv_Itoa Tryz.laysItoa n (by omega) (by omega) w hT).mono fun _ _ ⟨he, k, os, hw⟩ => ⟨by rw [he, pitoa_nat], by rw [hw]; exact pbelow_grow _ _ _⟩
theorem pappend_any (B : Nat) (i : Nat) (hi : i ≤ 1000000000) (v : Value) (l : List UInt8) (w : World) (h : Dg.OwnRow w B 5 v (l.map Dg.vB)) (hB : B ≤ w.heap.size) (hl : l.length ≤ 1000) (hT : Lib.TabBelow Tryz.prog B w "internal/strconv.uint64pow10" .u64 Lib.pow10Tab) :
    Calls Tryz.prog 110 #[v, .int .i64 i, .int .i64 10] w fun e w' => ∃ v', e = .returned v' ∧ Dg.OwnRow w' B 5 v' ((l ++ Lib.decDigits i).map Dg.vB) ∧ Below B w w' := by
  refine (Any.strconv_AppendInt_10 Tryz.laysAppendInt B l.length i (by omega) (by omega) v (l.map Dg.vB) w ?_ hB (by omega) hT).mono ?_
  · unfold Dg.OwnRow at h; rw [List.length_map] at h; exact h
  · rintro e w' ⟨v', rfl, hown, hb, _⟩
    refine ⟨v', rfl, ?_, hb⟩
    unfold Dg.OwnRow
    rw [pitoa_nat] at hown
    rw [List.length_map, List.length_append, List.map_append]
    exact hown
theorem prow_own {w : World} {B : Nat} {xs : List Value} {cap : Nat} (h : Own w B xs) (hs : xs.length ≤ 1000) : Dg.Row w (.slice (some ⟨B, 0, none⟩) xs.length cap) xs := by
  refine ⟨⟨_, _, rfl⟩, fun ad n c e i hi => ?_, by omega, fun n cap e => by cases e⟩
  cases e
  exact ⟨_, rfl, h.lt, by rw [Dg.add_zero0]; exact h.cell i _ (List.getElem?_eq_getElem hi)⟩
theorem pdg {k : Nat} (h : k < 10) : (UInt8.ofNat (48 + k)).toNat = 48 + k := by simp; omega
theorem pamount_any (a : Nat) (ha : a ≤ 1000000000) (w : World) : Calls Tryz.prog 109 #[.int .i64 a] w (Same (.bool true) w) := by
  have h1 : decide ((-1000000000 : Int) ≤ (a : Int)) = true := decide_eq_true (by omega)
  have h2 : decide ((a : Int) ≤ 1000000000) = true := decide_eq_true (by omega)
  go_enter Tryz.func109, Tryz.ntmps109
  go_wp2_with fail
  go_ret
  exact ⟨rfl, rfl⟩
set_option maxHeartbeats 1000000 in
theorem ptext_any (a : Nat) (ha : a ≤ 1000000000) (w : World) (hT : Ptab w) : Calls Tryz.prog 80 #[.int .i64 a] w (Ret (.tuple #[.string ⟨(monT a).toArray⟩, .int .i64 0]) w) := by
  have hTB := Lib.tabBelow_of_tabIs hT
  have hdl := dec_size 8 (a / 100) (by omega)
  have hneg : decide ((a : Int) < 0) = false := by simp
  go_enter Tryz.func80, Tryz.ntmps80
  go_wp2_with fail
  refine (pamount_any a ha w).mono ?_
  rintro e w0 ⟨rfl, rfl⟩
  go_wp2_with fail
  refine (pappend_any w.heap.size (a / 100) (by omega) _ [] w (Dg.OwnRow.nil _ _ _) (Nat.le_refl _) (by simp) hTB).mono ?_
  rintro e w3 ⟨v3, rfl, hown3, hb3⟩
  have hlen3 : ((([] : List UInt8) ++ Lib.decDigits (a / 100)).map Dg.vB).length ≤ 9 := by simp; omega
  have hv1 : Hid (Value.int .u8 (48 + (a : Int) % 100 / 10) = Dg.vB (UInt8.ofNat (48 + a / 10 % 10))) := Lib.hid (by unfold Dg.vB; rw [pdg (by omega)]; congr 1 <;> omega)
  have hv2 : Hid (Value.int .u8 (48 + (a : Int) % 10) = Dg.vB (UInt8.ofNat (48 + a % 10))) := Lib.hid (by unfold Dg.vB; rw [pdg (by omega)]; congr 1 <;> omega)
  have hz := hb3.size
  clear hdl
  go_wp2_with (at_builtin; refine Dg.app_row _ rfl _ _ 88 rfl w.heap.size 5 (.int .u8 0) 1 Tryz.underlying88 Dg.Tryz.infoU8 rfl (by decide) _ ((([] : List UInt8) ++ Lib.decDigits (a / 100)).map Dg.vB) rfl (Dg.own_below hown3 ((Below.refl _ w3).alloc (Nat.le_refl _) _)) _ [.int .u8 46, .int .u8 (48 + (a : Int) % 100 / 10), .int .u8 (48 + (a : Int) % 10)] rfl (prow_own (Own.new w3 #[.int .u8 46, .int .u8 (48 + (a : Int) % 100 / 10), .int .u8 (48 + (a : Int) % 10)] _) (by simp)) (by intro u hu; simp at hu; rcases hu with rfl | rfl | rfl <;> rfl) (by simp only [List.length_cons, List.length_nil]; omega) (by simp; omega) ?_; intro v4 w4 hown4 hx4; refine Hid.out ?_)
  have hb4 : Below w.heap.size w w4 := hb3.trans ((((Below.refl _ w3).alloc (Nat.le_refl _) _).mono hb3.size).trans hx4)
  rw [hv1.out, hv2.out] at hown4
  have hown5 : Dg.OwnRow w4 w.heap.size 5 v4 ((monT a).map Dg.vB) := by
    have e : monT a = ([] : List UInt8) ++ Lib.decDigits (a / 100) ++ [46, UInt8.ofNat (48 + a / 10 % 10), UInt8.ofNat (48 + a % 10)] := rfl
    rw [e, List.map_append]; exact hown4
  have hconv := Dg.conv_bytes hown5 (by unfold monT; simp)
  clear hown4 hown5 hown3
  refine Lib.hid ?_
  go_wp2_with fail
  go_ret2
  exact Ret.mk rfl hb4
/-- the shape of an operator -/
def shpO (o : Nat) : List UInt8 :=
  if o = 4 then [53, 32, 43, 32, 54] else if o = 5 then [53, 32, 45, 32, 54] else if o = 6 then [54, 32, 42, 32, 55] else if o = 7 then [54, 32, 47, 32, 55]
  else if o = 8 then [109, 105, 110, 40, 48, 44, 32, 48, 41] else if o = 9 then [109, 97, 120, 40, 48, 44, 32, 48, 41]
  else if o = 10 then [105, 102, 32, 48, 32, 116, 104, 101, 110, 32, 48, 32, 101, 108, 115, 101, 32, 48]
  else if o = 11 then [53, 32, 60, 32, 53] else if o = 12 then [53, 32, 61, 32, 53] else if o = 13 then [50, 32, 97, 110, 100, 32, 51] else if o = 14 then [49, 32, 111, 114, 32, 50] else if o = 15 then [110, 111, 116, 32, 51] else []
/-- the printer's tables, and that of the library -/
structure PL (w : World) : Prop where
  tab : Ptab w
  rank : ∀ o : Nat, 1 ≤ o → o ≤ 15 → w.cell? ⟨1, o * 2, none⟩ = some (.int .i64 (rankO o : Nat))
  shape : ∀ o : Nat, 1 ≤ o → o ≤ 15 → w.cell? ⟨1, o * 2 + 1, none⟩ = some (.string ⟨(shpO o).toArray⟩)
  vars : ∀ n : Nat, 1 ≤ n → n ≤ 4 → w.cell? ⟨0, n, none⟩ = some (.string ⟨(varT n).toArray⟩)
theorem PL.below {w w1 : World} (h : PL w) (hb : Below w.heap.size w w1) : PL w1 := by
  have key : ∀ {a : Addr} {v : Value}, w.cell? a = some v → w1.cell? a = some v := fun {a v} h => (hb.cell (p := a) (World.block_lt_of_cell? _ _ h)).trans h
  exact ⟨h.tab.below hb, fun o h1 h2 => key (h.rank o h1 h2), fun o h1 h2 => key (h.shape o h1 h2), fun n h1 h2 => key (h.vars n h1 h2)⟩
end Go.Proofs.YtlkefcbkpohpgaaGreatDoor
namespace Go.Proofs.YtlkefcbkpohpgaaGreatDoor
open Go.RowKit Go.Shelf
set_option maxRecDepth 100000

def kidT (least : Nat) (e : Xp) : List UInt8 := brkS (decide (rankE e < least)) (txtE e)
def fillS : List UInt8 → List Xp → List UInt8
  | [], _ => []
  | c :: r, l => if digB c = true then kidT (c.toNat - 48) (l.headD default) ++ fillS r l.tail else c :: fillS r l
theorem fill_no {c : UInt8} {r : List UInt8} {l : List Xp} (h : digB c = false) : fillS (c :: r) l = c :: fillS r l := by simp [fillS, h]
theorem fill_dig {c : UInt8} {r : List UInt8} {x : Xp} {l : List Xp} (h : digB c = true) : fillS (c :: r) (x :: l) = kidT (c.toNat - 48) x ++ fillS r l := by simp [fillS, h]
theorem fill_txt {o n : Int} {l : List Xp} (h : okE (.mk o n l) = true) (h1 : o ≠ 1) (h2 : o ≠ 2) (h3 : o ≠ 3) : ∃ k : Nat, o = k ∧ 4 ≤ k ∧ k ≤ 15 ∧ fillS (shpO k) l = txtE (.mk o n l) ∧ (shpO k).countP digB = l.length ∧ (∀ x ∈ shpO k, x.toNat < 128) ∧ (shpO k).length ≤ 30 := by
  rcases node_shape h with ⟨rfl, -⟩ | ⟨rfl, -⟩ | ⟨rfl, -⟩ | ⟨rfl, rfl, a, rfl, ha⟩ | ⟨rfl, rfl, a, b, c, rfl, ha, hb, hc⟩ | ⟨ho, rfl, a, b, rfl, ha, hb⟩
  · exact absurd rfl h1
  · exact absurd rfl h2
  · exact absurd rfl h3
  · exact ⟨15, rfl, by decide, by decide, by rw [txt_one]; simp [fillS, shpO, digB]; rfl, by simp [shpO, digB], by decide, by decide⟩
  · exact ⟨10, rfl, by decide, by decide, by rw [txt_three]; simp [fillS, shpO, digB]; rfl, by simp [shpO, digB], by decide, by decide⟩
  · rcases ho with rfl | rfl | rfl | rfl | rfl | rfl | rfl | rfl | rfl | rfl
    · exact ⟨8, rfl, by decide, by decide, by rw [txt_two]; simp [fillS, shpO, digB]; rfl, by simp [shpO, digB], by decide, by decide⟩
    · exact ⟨9, rfl, by decide, by decide, by rw [txt_two]; simp [fillS, shpO, digB]; rfl, by simp [shpO, digB], by decide, by decide⟩
    · exact ⟨4, rfl, by decide, by decide, by rw [txt_two]; simp [fillS, shpO, digB]; rfl, by simp [shpO, digB], by decide, by decide⟩
    · exact ⟨5, rfl, by decide, by decide, by rw [txt_two]; simp [fillS, shpO, digB]; rfl, by simp [shpO, digB], by decide, by decide⟩
    · exact ⟨6, rfl, by decide, by decide, by rw [txt_two]; simp [fillS, shpO, digB]; rfl, by simp [shpO, digB], by decide, by decide⟩
    · exact ⟨7, rfl, by decide, by decide, by rw [txt_two]; simp [fillS, shpO, digB]; rfl, by simp [shpO, digB], by decide, by decide⟩
    · exact ⟨11, rfl, by decide, by decide, by rw [txt_two]; simp [fillS, shpO, digB]; rfl, by simp [shpO, digB], by decide, by decide⟩
    · exact ⟨12, rfl, by decide, by decide, by rw [txt_two]; simp [fillS, shpO, digB]; rfl, by simp [shpO, digB], by decide, by decide⟩
    · exact ⟨13, rfl, by decide, by decide, by rw [txt_two]; simp [fillS, shpO, digB]; rfl, by simp [shpO, digB], by decide, by decide⟩
    · exact ⟨14, rfl, by decide, by decide, by rw [txt_two]; simp [fillS, shpO, digB]; rfl, by simp [shpO, digB], by decide, by decide⟩
theorem elemX : Tryz.prog.elem 22 = 24 := by kernel_rfl
theorem underX : Tryz.prog.underlying 22 = some (.slice (Tryz.prog.elem 22)) := by kernel_rfl
theorem sizeX (w : World) : (sizeOf 24).run Tryz.prog w = .ok 3 w := by
  obtain ⟨i, hi⟩ : ∃ i, Tryz.prog.info? 24 = some i := Option.isSome_iff_exists.1 (by kernel_rfl)
  rw [run_sizeOf w hi, show Tryz.prog.cellsOf 24 = 3 by kernel_rfl]
theorem run_fromX (ad : Option Addr) (n cap k : Nat) (hk : k ≤ n) (w : World) : (Instr.sliceAt 22 (.slice ad n cap) (some (.int .i64 (k : Int))) none none).run Tryz.prog w = .ok (sliced ad k n cap 3) w := by
  rw [run_sliceAt_slice _ _ _ _ _ _ underX, run_slice_l _ _ _ _ _ underX _ _ (by omega) (by omega), elemX, sizeX]
  rfl
theorem add_add (a : Addr) (m n : Nat) : (a.add m).add n = a.add (m + n) := by
  unfold Addr.add
  split
  · next h => subst h; simp
  · next h =>
    split
    · next h2 => subst h2; simp [h]
    · next h2 =>
      rw [if_neg (by omega)]
      simp [Nat.add_assoc]
theorem add_three (a : Addr) (m : Nat) : ({ block := (a.add m).block, off := (a.add m).off + 3 } : Addr) = a.add (m + 3) := by
  unfold Addr.add; split <;> split <;> simp_all <;> omega
theorem pbyt (s : List UInt8) (n : Nat) (h : n < (⟨s.toArray⟩ : ByteArray).size) : (⟨s.toArray⟩ : ByteArray)[n] = s[n]'(by simpa [ByteArray.size] using h) := rfl
/-- what a kid's writing gives -/
def KidC (W0 : World) (b : Nat) (x : Xp) : Prop := ∀ (least : Nat), least ≤ 9 → ∀ (ad : Option Addr) (cap : Nat) (l : List UInt8) (w : World), (∃ Q, Tree Q W0 x (.agg #[.int .i64 x.o, .int .i64 x.n, .slice ad x.ks.length cap])) → Wld W0.heap.size b l w → Below W0.heap.size W0 w → l.length + (kidT least x).length ≤ 1000000 →
  Calls Tryz.prog 112 #[.pointer (some ⟨b, 0, none⟩), .agg #[.int .i64 x.o, .int .i64 x.n, .slice ad x.ks.length cap], .int .i64 (least : Nat)] w (WEnd W0.heap.size b (l ++ kidT least x) (.tuple #[]) w)
set_option maxHeartbeats 2000000 in
theorem oper_any {Q : Nat → Prop} (W0 : World) (b : Nat) (kids : List Xp) (hK : ∀ x ∈ kids, KidC W0 b x) (sh : List UInt8) (hA : ∀ x ∈ sh, x.toNat < 128) (hn : sh.countP digB = kids.length) (_hsl : sh.length ≤ 1000) (ad : Option Addr) (cap : Nat) (hc : kids.length ≤ cap) (ht : Trees Q W0 kids ad 0)
    (l : List UInt8) (w : World) (hw : Wld W0.heap.size b l w) (hb : Below W0.heap.size W0 w) (hl : l.length + (fillS sh kids).length ≤ 1000000) :
    Calls Tryz.prog 81 #[.pointer (some ⟨b, 0, none⟩), .string ⟨sh.toArray⟩, .slice ad kids.length cap] w (WEnd W0.heap.size b (l ++ fillS sh kids) (.tuple #[]) w) := by
  obtain ⟨hB, hlt⟩ := wld_lt hw
  obtain ⟨S, hS⟩ : ∃ S, S = (⟨sh.toArray⟩ : ByteArray) := ⟨_, rfl⟩
  have hSz : S.size = sh.length := by rw [hS]; exact wsz sh
  have hby : ∀ (n : Nat) (h : n < S.size) (h2 : n < sh.length), S[n]'h = sh[n]'h2 := by subst hS; intro n h h2; rfl
  rw [← hS]
  clear hS
  have hbz := hb.size
  have k0 : (w.alloc (.stringIter S 0)).heap[w.heap.size]? = some (.stringIter S 0) := World.iter_heap w S 0
  have hw1 := wld_alloc hw (.stringIter S 0)
  have hb1 : Below W0.heap.size W0 (w.alloc (.stringIter S 0)) := hb.alloc hbz _
  have hb2 : Below W0.heap.size w (w.alloc (.stringIter S 0)) := (Below.refl _ w).alloc hbz _
  have hk1 : Lib.OthersKept 5 (some b) w (w.alloc (.stringIter S 0)) := (Lib.OthersKept.refl _ _ w).alloc _
  go_enter Tryz.func81, Tryz.ntmps81
  go_wp2_with fail
  go_loopw [2, 7] (fun z _ wr => ∃ (k j : Nat) (adv : Option Addr) (capv : Nat) (out : List UInt8), z = .slice adv (kids.length - j) capv ∧ j ≤ kids.length ∧ k ≤ sh.length ∧ kids.length - j ≤ capv ∧ (j < kids.length → ∃ a, ad = some a ∧ adv = some (a.add (j * 3))) ∧ (sh.drop k).countP digB = kids.length - j ∧
    out ++ fillS (sh.drop k) (kids.drop j) = fillS sh kids ∧ Wld W0.heap.size b (l ++ out) wr ∧ Below W0.heap.size W0 wr ∧ Below W0.heap.size w wr ∧ Lib.OthersKept 5 (some b) w wr ∧ wr.heap[w.heap.size]? = some (.stringIter S k) ∧ w.heap.size < wr.heap.size) (fun _ _ wr => sh.length - wr.iterPos w.heap.size)
  case atStart => exact ⟨0, 0, ad, cap, [], rfl, Nat.zero_le _, Nat.zero_le _, by omega, (fun h => by obtain ⟨a, _, _, h0, _⟩ := ht.reads 0 h; exact ⟨a, h0, by rw [h0]; simp [Addr.add]⟩), hn, rfl, by rw [List.append_nil]; exact hw1, hb1, hb2, hk1, k0, by simp [World.iter]⟩
  case round =>
    obtain ⟨k, j, adv, capv, out, rfl, hj, hk, hcv, hadv, hcnt, hout, hwd, hbr, hbw, hot, hit, hsz⟩ := hrel
    have hp := iterPos_of hit
    by_cases hks : k < sh.length
    · have hch : (S[k]'(by omega)).toNat = sh[k].toNat := by rw [hby k _ hks]
      have ha := hA sh[k] (List.getElem_mem hks)
      have hnx := fun ty => Lib.run_next_ascii_at (P := Tryz.prog) wr w.heap.size S k ty hit (by omega) (by rw [hch]; exact ha)
      rw [List.drop_eq_getElem_cons hks] at hcnt hout
      rw [hch] at hnx
      have hwi := wld_iter hwd hit (k + 1)
      have hbi := Lib.below_iterAt hbr (show W0.heap.size ≤ w.heap.size from hbz) S (k + 1)
      have hbi2 : Below W0.heap.size w (wr.iterAt w.heap.size S (k + 1)) := Lib.below_iterAt hbw hbz S (k + 1)
      have hoi := others_iter (S := S) (p := k + 1) hot (Nat.le_refl w.heap.size)
      have hii := Lib.iterAt_heap wr w.heap.size S k (k + 1) hit
      have hzi := Lib.iterAt_size wr w.heap.size S (k + 1)
      generalize sh[k] = c at ha hnx hcnt hout
      obtain ⟨wi, hwid⟩ : ∃ wi, wi = wr.iterAt w.heap.size S (k + 1) := ⟨_, rfl⟩
      rw [← hwid] at hnx hwi hbi hbi2 hoi hii hzi
      clear hwid hit hot hwd hbr hbw hch
      by_cases hd : digB c = true
      · have h48 : 48 ≤ c.toNat ∧ c.toNat ≤ 57 := by simpa [digB] using hd
        rw [List.countP_cons_of_pos hd] at hcnt
        have hjl : j < kids.length := by omega
        rw [List.drop_eq_getElem_cons hjl, fill_dig hd] at hout
        obtain ⟨a, rfl, rfl⟩ := hadv hjl
        obtain ⟨a', ad2, cap2, ha', m0, m1, m2, tk, hab⟩ := (ht.reads j hjl)
        cases ha'
        have hcall := hK kids[j] (List.getElem_mem hjl) (c.toNat - 48) (by omega) ad2 cap2 (l ++ out) wi ⟨_, tk⟩ hwi hbi (by have := congrArg List.length hout; simp only [List.length_append] at this ⊢; omega)
        have hcell : ∀ x : Addr, x.block < W0.heap.size → wi.cell? x = W0.cell? x := fun x hx => hbi.cell (p := x) hx
        have n0 := (hcell _ hab).trans m0
        have n1 := (hcell ⟨(a.add (j * 3)).block, (a.add (j * 3)).off + 1, none⟩ hab).trans m1
        have n2 := (hcell ⟨(a.add (j * 3)).block, (a.add (j * 3)).off + 2, none⟩ hab).trans m2
        clear hcell m0 m1 m2
        generalize kids[j] = x at hcall hout n0 n1 n2 tk
        have t5 : (((c.toNat - 48 : Nat) : Nat) : Int) = (c.toNat : Int) - 48 := by omega
        rw [t5] at hcall
        generalize hKT : kidT (c.toNat - 48) x = KT at hcall hout
        obtain ⟨C, hC⟩ : ∃ C : Int, (c.toNat : Int) = C := ⟨_, rfl⟩
        rw [hC] at hcall hnx
        have hC1 : 48 ≤ C ∧ C ≤ 57 := by omega
        have t1 : decide (C < 48) = false := decide_eq_false (by omega)
        have t2 : decide ((57 : Int) < C) = false := decide_eq_false (by omega)
        have t3 : IntKind.i32.wrap (C - 48) = C - 48 := IntWalk.i32_in _ (by omega)
        have t4 : IntKind.i64.wrap (C - 48) = C - 48 := IntWalk.i64_in _ (by omega)
        clear hC t5
        go_wp2_with fail
        refine hcall.mono ?_
        rintro e w2 ⟨rfl, h2, hb3, ho3⟩
        have q1 : Below W0.heap.size W0 w2 := hbi.trans (hb3.mono (Nat.le_refl _))
        have q2 : Below W0.heap.size w w2 := hbi2.trans hb3
        have q3 := hoi.trans ho3
        have q4 := ho3.iter hii (by omega)
        have q5 := hb3.size
        clear hcall hnx n0 n1 n2
        go_wp2_with fail
        go_roundw
        case rel => exact ⟨k + 1, j + 1, (if capv = 1 then some (a.add (j * 3)) else some (a.add ((j + 1) * 3))), capv - 1, out ++ KT, by rw [add_three, show j * 3 + 3 = (j + 1) * 3 by omega, show kids.length - j - 1 = kids.length - (j + 1) by omega], by omega, by omega, by omega, (fun h => ⟨a, rfl, by rw [if_neg (by omega)]⟩), by omega, by rw [List.append_assoc]; exact hout, by rw [← List.append_assoc]; exact h2, q1, q2, q3, q4, by omega⟩
        case measure => rw [hp, iterPos_of q4]; omega
      · have hd' : digB c = false := by simpa using hd
        rw [List.countP_cons_of_neg (by simp [hd'])] at hcnt
        rw [fill_no hd'] at hout
        have hcall := wrune_any W0.heap.size b (l ++ out) c ha wi hwi (by have := congrArg List.length hout; simp only [List.length_append] at this ⊢; omega) hbi.size
        have hC2 : ¬ (48 ≤ c.toNat ∧ c.toNat ≤ 57) := fun h => hd (by simpa [digB] using h)
        obtain ⟨C, hC⟩ : ∃ C : Int, (c.toNat : Int) = C := ⟨_, rfl⟩
        rw [hC] at hcall hnx
        have hC3 : ¬ (48 ≤ C ∧ C ≤ 57) := by omega
        clear hC hC2
        by_cases h4 : C < 48
        · have t1 : decide (C < 48) = true := decide_eq_true h4
          go_wp2_with fail
          refine hcall.mono ?_
          rintro e w2 ⟨rfl, h2, hb3, ho3⟩
          have q1 : Below W0.heap.size W0 w2 := hbi.trans (hb3.mono (Nat.le_refl _))
          have q2 : Below W0.heap.size w w2 := hbi2.trans hb3
          have q3 := hoi.trans ho3
          have q4 := ho3.iter hii (by omega)
          have q5 := hb3.size
          clear hcall hnx
          go_wp2_with fail
          go_roundw
          case rel => exact ⟨k + 1, j, adv, capv, out ++ [c], rfl, hj, by omega, hcv, hadv, hcnt, by rw [List.append_assoc]; exact hout, by rw [← List.append_assoc]; exact h2, q1, q2, q3, q4, by omega⟩
          case measure => rw [hp, iterPos_of q4]; omega
        · have t1 : decide (C < 48) = false := decide_eq_false h4
          have t2 : decide ((57 : Int) < C) = true := decide_eq_true (by omega)
          go_wp2_with fail
          refine hcall.mono ?_
          rintro e w2 ⟨rfl, h2, hb3, ho3⟩
          have q1 : Below W0.heap.size W0 w2 := hbi.trans (hb3.mono (Nat.le_refl _))
          have q2 : Below W0.heap.size w w2 := hbi2.trans hb3
          have q3 := hoi.trans ho3
          have q4 := ho3.iter hii (by omega)
          have q5 := hb3.size
          clear hcall hnx
          go_wp2_with fail
          go_roundw
          case rel => exact ⟨k + 1, j, adv, capv, out ++ [c], rfl, hj, by omega, hcv, hadv, hcnt, by rw [List.append_assoc]; exact hout, by rw [← List.append_assoc]; exact h2, q1, q2, q3, q4, by omega⟩
          case measure => rw [hp, iterPos_of q4]; omega
    · have hnx := fun ty => Lib.run_next_end_at (P := Tryz.prog) wr w.heap.size S k ty hit (by omega)
      have hke : k = sh.length := by omega
      subst hke
      rw [List.drop_length] at hcnt hout
      have HO := Lib.hid hout
      clear hout hadv
      go_wp2_with fail
      go_end0
      refine ⟨rfl, ?_, hbw, hot⟩
      have := HO.out
      rw [fillS, List.append_nil] at this
      rw [← this]; exact hwd
end Go.Proofs.YtlkefcbkpohpgaaGreatDoor
