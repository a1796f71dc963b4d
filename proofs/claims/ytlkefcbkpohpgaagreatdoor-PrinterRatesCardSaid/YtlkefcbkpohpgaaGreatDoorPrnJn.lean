/-
  The library's Join at a row of texts of the call's own; a slice of rates, place by place.
-/
import Derived.Test.YtlkefcbkpohpgaaGreatDoorPrnArgs
import Derived.Test.YtlkefcbkpohpgaaGreatDoorQdc
import Derived.Shelf.Strings.OnBuilder
import Derived.Shelf.LaysM
namespace Go.Proofs
open Go.Shelf
def Tryz.laysJoin_ren : Go.Shelf.Ren := ⟨fun | 156 => 28 | 165 => 59 | 166 => 60 | 169 => 52 | 240 => 86 | 241 => 87 | 276 => 116 | 277 => 117 | n => n, fun | 31 => 43 | 9 => 9 | 3 => 3 | 4 => 4 | 0 => 0 | 20 => 20 | 72 => 92 | 76 => 106 | 70 => 90 | 37 => 88 | 75 => 105 | 127 => 134 | 164 => 158 | 5 => 5 | 80 => 96 | n => n, fun | n => n⟩
theorem Tryz.laysJoin : Go.Proofs.LaysM.n156 Tryz.prog Tryz.laysJoin_ren := {
  mixed := by kernel_rfl
  f156 := Tryz.func28.trans (congrArg some (by kernel_rfl))
  f165 := Tryz.func59.trans (congrArg some (by kernel_rfl))
  f166 := Tryz.func60.trans (congrArg some (by kernel_rfl))
  f169 := Tryz.func52.trans (congrArg some (by kernel_rfl))
  f240 := Tryz.func86.trans (congrArg some (by kernel_rfl))
  f241 := Tryz.func87.trans (congrArg some (by kernel_rfl))
  f276 := Tryz.func116.trans (congrArg some (by kernel_rfl))
  f277 := Tryz.func117.trans (congrArg some (by kernel_rfl))
  t0 := Tryz.underlying0
  a0 := Tryz.isAgg0
  z0 := Tryz.sizeOf0
  v0 := Tryz.zeroValue0
  t3 := Tryz.underlying3
  a3 := Tryz.isAgg3
  z3 := Tryz.sizeOf3
  v3 := Tryz.zeroValue3
  t4 := Tryz.underlying4
  a4 := Tryz.isAgg4
  z4 := Tryz.sizeOf4
  v4 := Tryz.zeroValue4
  t9 := Tryz.underlying9
  a9 := Tryz.isAgg9
  z9 := Tryz.sizeOf9
  v9 := Tryz.zeroValue9
  t20 := Tryz.underlying20
  a20 := Tryz.isAgg20
  z20 := Tryz.sizeOf20
  v20 := Tryz.zeroValue20
  t31 := Tryz.underlying43
  a31 := Tryz.isAgg43
  z31 := Tryz.sizeOf43
  v31 := Tryz.zeroValue43
  t37 := Tryz.underlying88
  a37 := Tryz.isAgg88
  z37 := Tryz.sizeOf88
  v37 := Tryz.zeroValue88
  t70 := Tryz.underlying90
  a70 := Tryz.isAgg90
  z70 := Tryz.sizeOf90
  v70 := Tryz.zeroValue90
  t72 := Tryz.underlying92
  a72 := Tryz.isAgg92
  z72 := Tryz.sizeOf92
  v72 := Tryz.zeroValue92
  t75 := Tryz.underlying105
  a75 := Tryz.isAgg105
  z75 := Tryz.sizeOf105
  v75 := Tryz.zeroValue105
  t76 := Tryz.underlying106
  a76 := Tryz.isAgg106
  z76 := Tryz.sizeOf106
  v76 := Tryz.zeroValue106
  t127 := Tryz.underlying134
  a127 := Tryz.isAgg134
  z127 := Tryz.sizeOf134
  v127 := Tryz.zeroValue134
  t164 := Tryz.underlying158
  a164 := Tryz.isAgg158
  z164 := Tryz.sizeOf158
  v164 := Tryz.zeroValue158
  t5 := Tryz.underlying5
  a5 := Tryz.isAgg5
  z5 := Tryz.sizeOf5
  v5 := Tryz.zeroValue5
  t80 := Tryz.underlying96
  a80 := Tryz.isAgg96
  z80 := Tryz.sizeOf96
  v80 := Tryz.zeroValue96
  i0 := by kernel_rfl
  i3 := by kernel_rfl
  i4 := by kernel_rfl
  i5 := by kernel_rfl
  i9 := by kernel_rfl
  i20 := by kernel_rfl
  i31 := by kernel_rfl
  i37 := by kernel_rfl
  i70 := by kernel_rfl
  i72 := by kernel_rfl
  i75 := by kernel_rfl
  i76 := by kernel_rfl
  i80 := by kernel_rfl
  i127 := by kernel_rfl
  i164 := by kernel_rfl }
theorem Tryz.extraJoin : Builder.Extra Tryz.prog Tryz.laysJoin_ren := {
  sizeBuilder := by kernel_rfl
  liesBuilder := by kernel_rfl
  t5 := Tryz.laysJoin.t5
  a5 := Tryz.laysJoin.a5
  z5 := Tryz.laysJoin.z5
  v5 := Tryz.laysJoin.v5
  infoByte := by kernel_rfl
  cellsByte := by kernel_rfl
  sizeByte := by kernel_rfl
  neB5 := by decide }
end Go.Proofs
namespace Go.Proofs.YtlkefcbkpohpgaaGreatDoor
open Go.RowKit Go.Shelf
set_option maxRecDepth 100000
set_option linter.unusedVariables false
set_option linter.unusedSimpArgs false

def vSj (s : List UInt8) : Value := .string ⟨s.toArray⟩
theorem infoStrj : (Tryz.prog.info? 9).map (fun i => (i.zero, i.size, i.bytes)) = some (some (.string ⟨#[]⟩), 1, 16) := by kernel_rfl
theorem joinS_any {w : World} {base : Nat} {v : Value} {ss : List (List UInt8)} (h : Dg.OwnRow w base 9 v (ss.map vSj)) (hl : ss.length ≤ 200) (hj : (Lib.join ss [10]).length ≤ 100000000) :
    Calls Tryz.prog 28 #[v, .string ⟨#[10]⟩] w (Ret (.string ⟨(Lib.join ss [10]).toArray⟩) w) := by
  have hmap : (ss.map fun s : List UInt8 => (⟨s.toArray⟩ : ByteArray)).map (·.data.toList) = ss := by
    rw [List.map_map]
    have : ((fun b : ByteArray => b.data.toList) ∘ fun s : List UInt8 => (⟨s.toArray⟩ : ByteArray)) = id := by funext s; simp
    rw [this, List.map_id]
  have hr := Dg.Row.of_own h (by simp; omega)
  obtain ⟨_, ⟨rfl, h2⟩ | ⟨g, cap', cur, hv, hg, hh, hcap, -, -, -⟩⟩ := h
  · have : ss = [] := by cases ss with
      | nil => rfl
      | cons a b => simp at h2
    subst this
    exact (Any.strings_Join_none { Tryz.laysJoin with } Tryz.extraJoin none 0 ⟨#[10]⟩ w).mono fun e w' ⟨he, hw⟩ => ⟨he, hw ▸ Below.refl _ _⟩
  · rw [List.length_map] at hv hcap
    subst hv
    have := Any.strings_Join { Tryz.laysJoin with } Tryz.extraJoin g 0 cap' (ss.map fun s : List UInt8 => (⟨s.toArray⟩ : ByteArray)) ⟨#[10]⟩ w (fun j x hx => ?_) (Array.getElem?_eq_some_iff.1 hh).1 (by simp; omega) (by simpa using hcap) (by rw [hmap]; show (Lib.join ss [10]).length ≤ _; omega)
    · rw [hmap, List.length_map] at this
      exact this
    · obtain ⟨hj1, hj2⟩ := List.getElem?_eq_some_iff.1 hx
      obtain ⟨a, e, _, h3⟩ := hr.cells _ _ _ rfl j (by simpa using hj1)
      cases e
      rw [Dg.add_zero0] at h3
      rw [Nat.zero_add, h3, ← hj2]
      simp [vSj]
theorem RatesAt.at {W : World} {p : Option Addr} {n : Nat} (h : RatesAt W p n) (k : Nat) (hk : k < n) : ∃ b a0 a1 a2 a3 a4 a5 a6 a7 kn kd we pe ad1 cap1 ad2 cap2, p = some b ∧ b.block < W.heap.size ∧ Tree (fun _ => False) W we (.agg #[.int .i64 we.o, .int .i64 we.n, .slice ad1 we.ks.length cap1]) ∧ Tree (fun _ => False) W pe (.agg #[.int .i64 pe.o, .int .i64 pe.n, .slice ad2 pe.ks.length cap2]) ∧
    (∀ (j : Nat) (u : Value), ([.int .i64 a0, .int .i64 a1, .int .i64 a2, .int .i64 a3, .int .i64 a4, .int .i64 a5, .int .i64 a6, .int .i64 a7, .int .i64 kn, .int .i64 kd, .int .i64 we.o, .int .i64 we.n, .slice ad1 we.ks.length cap1, .int .i64 pe.o, .int .i64 pe.n, .slice ad2 pe.ks.length cap2] : List Value)[j]? = some u → W.cell? (b.add (k * 16 + j)) = some u) ∧
    ∀ w1, Below W.heap.size W w1 → w1.cell? (b.add (k * 16)) = some (.int .i64 a0) ∧ w1.cell? { block := (b.add (k * 16)).block, off := (b.add (k * 16)).off + 1 } = some (.int .i64 a1) ∧ w1.cell? { block := (b.add (k * 16)).block, off := (b.add (k * 16)).off + 2 } = some (.int .i64 a2) ∧ w1.cell? { block := (b.add (k * 16)).block, off := (b.add (k * 16)).off + 3 } = some (.int .i64 a3) ∧ w1.cell? { block := (b.add (k * 16)).block, off := (b.add (k * 16)).off + 4 } = some (.int .i64 a4) ∧ w1.cell? { block := (b.add (k * 16)).block, off := (b.add (k * 16)).off + 5 } = some (.int .i64 a5) ∧ w1.cell? { block := (b.add (k * 16)).block, off := (b.add (k * 16)).off + 6 } = some (.int .i64 a6) ∧ w1.cell? { block := (b.add (k * 16)).block, off := (b.add (k * 16)).off + 7 } = some (.int .i64 a7) ∧ w1.cell? { block := (b.add (k * 16)).block, off := (b.add (k * 16)).off + 8 } = some (.int .i64 kn) ∧ w1.cell? { block := (b.add (k * 16)).block, off := (b.add (k * 16)).off + 9 } = some (.int .i64 kd) ∧ w1.cell? { block := (b.add (k * 16)).block, off := (b.add (k * 16)).off + 10 } = some (.int .i64 we.o) ∧ w1.cell? { block := (b.add (k * 16)).block, off := (b.add (k * 16)).off + 11 } = some (.int .i64 we.n) ∧ w1.cell? { block := (b.add (k * 16)).block, off := (b.add (k * 16)).off + 12 } = some (.slice ad1 we.ks.length cap1) ∧ w1.cell? { block := (b.add (k * 16)).block, off := (b.add (k * 16)).off + 13 } = some (.int .i64 pe.o) ∧ w1.cell? { block := (b.add (k * 16)).block, off := (b.add (k * 16)).off + 14 } = some (.int .i64 pe.n) ∧ w1.cell? { block := (b.add (k * 16)).block, off := (b.add (k * 16)).off + 15 } = some (.slice ad2 pe.ks.length cap2) := by
  obtain ⟨b, cs, a0, a1, a2, a3, a4, a5, a6, a7, kn, kd, we, pe, ad1, cap1, ad2, cap2, rfl, ⟨he, t1, t2⟩, hblk, hc⟩ := h.2 k hk
  have hcs : cs = [.int .i64 a0, .int .i64 a1, .int .i64 a2, .int .i64 a3, .int .i64 a4, .int .i64 a5, .int .i64 a6, .int .i64 a7, .int .i64 kn, .int .i64 kd, .int .i64 we.o, .int .i64 we.n, .slice ad1 we.ks.length cap1, .int .i64 pe.o, .int .i64 pe.n, .slice ad2 pe.ks.length cap2] := by
    have h1 := congrArg (fun v : Value => match v with | .agg a => a.toList | _ => []) he
    simpa using h1
  subst hcs
  refine ⟨b, a0, a1, a2, a3, a4, a5, a6, a7, kn, kd, we, pe, ad1, cap1, ad2, cap2, rfl, by rw [tblk_add] at hblk; exact hblk, t1, t2, hc, fun w1 hb => ?_⟩
  have key : ∀ j u, 0 < j → ([.int .i64 a0, .int .i64 a1, .int .i64 a2, .int .i64 a3, .int .i64 a4, .int .i64 a5, .int .i64 a6, .int .i64 a7, .int .i64 kn, .int .i64 kd, .int .i64 we.o, .int .i64 we.n, .slice ad1 we.ks.length cap1, .int .i64 pe.o, .int .i64 pe.n, .slice ad2 pe.ks.length cap2] : List Value)[j]? = some u → w1.cell? { block := (b.add (k * 16)).block, off := (b.add (k * 16)).off + j } = some u := fun j u hj hu => by
    rw [← add_more b (k * 16) j hj]
    exact (hb.cell (p := b.add (k * 16 + j)) (by rw [tblk_add] at hblk ⊢; exact hblk)).trans (hc j u hu)
  exact ⟨(hb.cell (p := b.add (k * 16)) hblk).trans (by have := hc 0 _ rfl; exact this), key 1 _ (by decide) rfl, key 2 _ (by decide) rfl, key 3 _ (by decide) rfl, key 4 _ (by decide) rfl, key 5 _ (by decide) rfl, key 6 _ (by decide) rfl, key 7 _ (by decide) rfl, key 8 _ (by decide) rfl, key 9 _ (by decide) rfl, key 10 _ (by decide) rfl, key 11 _ (by decide) rfl, key 12 _ (by decide) rfl, key 13 _ (by decide) rfl, key 14 _ (by decide) rfl, key 15 _ (by decide) rfl⟩
end Go.Proofs.YtlkefcbkpohpgaaGreatDoor
