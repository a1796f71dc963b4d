/-
  The library's HasSuffix and TrimSuffix at a text that ends so.
-/
import Derived.Test.YtlkefcbkpohpgaaDoorPrnLib
import Derived.Shelf.Strings.Prefix
import Derived.Test.YtlkefcbkpohpgaaDoorQdB
import Derived.Test.YtlkefcbkpohpgaaDoorQdC
import Derived.Deep.Cut
import Derived.Test.YtlkefcbkpohpgaaDoorPrnLayD
import Derived.Lib.SmallJoins
import Derived.ChangeMaps5
namespace Go.Proofs.YtlkefcbkpohpgaaDoor
open Go.RowKit Go.Shelf
set_option maxRecDepth 100000

def Tryd.laysHasSuffix_ren : Go.Shelf.Ren := ⟨fun | 100 => 18 | 207 => 40 | n => n, fun | 9 => 9 | 4 => 4 | 3 => 3 | n => n, fun | n => n⟩
theorem Tryd.laysHasSuffix : Go.Proofs.Lays.n100 Tryd.prog Tryd.laysHasSuffix_ren := {
  mixed := by kernel_rfl
  f100 := Tryd.func18.trans (congrArg some (by kernel_rfl))
  f207 := Tryd.func40.trans (congrArg some (by kernel_rfl))
  t3 := Tryd.underlying3
  a3 := Tryd.isAgg3
  z3 := Tryd.sizeOf3
  v3 := Tryd.zeroValue3
  t4 := Tryd.underlying4
  a4 := Tryd.isAgg4
  z4 := Tryd.sizeOf4
  v4 := Tryd.zeroValue4
  t9 := Tryd.underlying9
  a9 := Tryd.isAgg9
  z9 := Tryd.sizeOf9
  v9 := Tryd.zeroValue9 }
def Tryd.laysTrimSuffix_ren : Go.Shelf.Ren := ⟨fun | 102 => 19 | 209 => 41 | 207 => 40 | n => n, fun | 9 => 9 | 4 => 4 | 3 => 3 | n => n, fun | n => n⟩
theorem Tryd.laysTrimSuffix : Go.Proofs.Lays.n102 Tryd.prog Tryd.laysTrimSuffix_ren := {
  mixed := by kernel_rfl
  f102 := Tryd.func19.trans (congrArg some (by kernel_rfl))
  f207 := Tryd.func40.trans (congrArg some (by kernel_rfl))
  f209 := Tryd.func41.trans (congrArg some (by kernel_rfl))
  t3 := Tryd.underlying3
  a3 := Tryd.isAgg3
  z3 := Tryd.sizeOf3
  v3 := Tryd.zeroValue3
  t4 := Tryd.underlying4
  a4 := Tryd.isAgg4
  z4 := Tryd.sizeOf4
  v4 := Tryd.zeroValue4
  t9 := Tryd.underlying9
  a9 := Tryd.isAgg9
  z9 := Tryd.sizeOf9
  v9 := Tryd.zeroValue9 }
theorem suf_is (a b : List UInt8) : Lib.hasSuffix (a ++ b) b = true := by
  unfold Lib.hasSuffix
  rw [List.isSuffixOf_iff_suffix]
  exact List.suffix_append a b
theorem suf_any (a b : List UInt8) (h : (a ++ b).length ≤ 1000000) (w : World) : Calls Tryd.prog 18 #[.string ⟨(a ++ b).toArray⟩, .string ⟨b.toArray⟩] w (Same (.bool true) w) := by
  refine (Any.strings_HasSuffix Tryd.laysHasSuffix ⟨(a ++ b).toArray⟩ ⟨b.toArray⟩ w (by simp only [ByteArray.size, List.size_toArray]; omega)).mono ?_
  rintro e w' ⟨rfl, rfl⟩
  exact ⟨congrArg (fun b => Ending.returned (.bool b)) (suf_is a b), rfl⟩
theorem trim_any (a b : List UInt8) (h : (a ++ b).length ≤ 1000000) (w : World) : Calls Tryd.prog 19 #[.string ⟨(a ++ b).toArray⟩, .string ⟨b.toArray⟩] w (Same (.string ⟨a.toArray⟩) w) := by
  refine (Any.strings_TrimSuffix Tryd.laysTrimSuffix ⟨(a ++ b).toArray⟩ ⟨b.toArray⟩ w (by simp only [ByteArray.size, List.size_toArray]; omega)).mono ?_
  rintro e w' ⟨rfl, rfl⟩
  refine ⟨?_, rfl⟩
  have h1 : Lib.trimSuffix (a ++ b) b = a := by unfold Lib.trimSuffix; rw [if_pos (suf_is a b)]; simp
  exact congrArg (fun s : List UInt8 => Ending.returned (.string ⟨s.toArray⟩)) h1
end Go.Proofs.YtlkefcbkpohpgaaDoor
namespace Go.Proofs.YtlkefcbkpohpgaaDoor
open Go.RowKit Go.Shelf
set_option maxRecDepth 100000
set_option linter.unusedVariables false
set_option linter.unusedSimpArgs false

/-- a rate's text before its expressions -/
def rateH (a0 a1 a2 a3 a4 a5 a6 a7 c : Nat) : List UInt8 :=
  wRate ++ 32 :: (Lib.decDigits a0 ++ 32 :: (wLevel ++ 32 :: (Lib.decDigits a1 ++ 32 :: (wKind ++ 32 :: (Lib.decDigits a2 ++ 32 :: (wNights ++ 32 :: (Lib.decDigits a3 ++ 32 :: (wTo ++ 32 :: (Lib.decDigits a4 ++ 32 :: (wStay ++ 32 :: (Lib.decDigits a5 ++ 32 :: (wTo ++ 32 :: (Lib.decDigits a6 ++ 32 :: (wArrive ++ 32 :: (Lib.decDigits a7 ++ 32 :: (wKeep ++ 32 :: (Lib.decDigits c ++ [37])))))))))))))))))
def rateL (w p : List UInt8) : List UInt8 := 32 :: (wWhen ++ 32 :: (w ++ 32 :: (wPrice ++ 32 :: (p ++ [59]))))
theorem rate_split (a0 a1 a2 a3 a4 a5 a6 a7 c : Nat) (w p : List UInt8) : rateX a0 a1 a2 a3 a4 a5 a6 a7 c w p = rateH a0 a1 a2 a3 a4 a5 a6 a7 c ++ rateL w p := by
  simp [rateX, rateH, rateL]
theorem rateL_bytes (w p : List UInt8) : (⟨#[32, 119, 104, 101, 110, 32]⟩ : ByteArray) ++ ⟨w.toArray⟩ ++ ⟨#[32, 112, 114, 105, 99, 101, 32]⟩ ++ ⟨p.toArray⟩ ++ ⟨#[59]⟩ = ⟨(rateL w p).toArray⟩ := by
  apply ByteArray.ext; simp [ByteArray.data_append, rateL, wWhen, wPrice]
theorem rateH_len (a0 a1 a2 a3 a4 a5 a6 a7 c : Nat) (h0 : a0 ≤ 999999999) (h1 : a1 ≤ 999999999) (h2 : a2 ≤ 999999999) (h3 : a3 ≤ 999999999) (h4 : a4 ≤ 999999999) (h5 : a5 ≤ 999999999) (h6 : a6 ≤ 999999999) (h7 : a7 ≤ 999999999) (h8 : c ≤ 999999999) : (rateH a0 a1 a2 a3 a4 a5 a6 a7 c).length ≤ 400 := by
  have d0 := dec_le9 _ h0; have d1 := dec_le9 _ h1; have d2 := dec_le9 _ h2; have d3 := dec_le9 _ h3; have d4 := dec_le9 _ h4; have d5 := dec_le9 _ h5; have d6 := dec_le9 _ h6; have d7 := dec_le9 _ h7; have d8 := dec_le9 _ h8
  unfold rateH
  simp only [List.length_append, List.length_cons, List.length_nil, wRate, wLevel, wKind, wNights, wTo, wStay, wArrive, wKeep]
  omega
theorem rateL_len (w p : List UInt8) (hw : w.length ≤ 4400) (hp : p.length ≤ 4400) : (rateL w p).length ≤ 8900 := by
  unfold rateL
  simp only [List.length_append, List.length_cons, List.length_nil, wWhen, wPrice]
  omega
theorem canR_of {a0 a1 a2 a3 a4 a5 a6 a7 kn kd : Int} {we pe x y : Xp} (h : canR a0 a1 a2 a3 a4 a5 a6 a7 kn kd we pe = true) (v1 : validF x = true) (v2 : validF y = true) : canR a0 a1 a2 a3 a4 a5 a6 a7 kn kd x y = true := by
  unfold canR at h ⊢
  simp only [Bool.and_eq_true] at h ⊢
  exact ⟨⟨h.1.1, v1⟩, v2⟩
theorem canR_parts {a0 a1 a2 a3 a4 a5 a6 a7 kn kd : Int} {we pe : Xp} (h : canR a0 a1 a2 a3 a4 a5 a6 a7 kn kd we pe = true) : validF we = true ∧ validF pe = true := by
  unfold canR at h
  simp only [Bool.and_eq_true] at h
  exact ⟨h.1.2, h.2⟩
theorem canR_head {a0 a1 a2 a3 a4 a5 a6 a7 kn kd : Int} {we pe : Xp} (h : canR a0 a1 a2 a3 a4 a5 a6 a7 kn kd we pe = true) : (rateH a0.toNat a1.toNat a2.toNat a3.toNat a4.toNat a5.toNat a6.toNat a7.toNat (kn * (100 / kd)).toNat).length ≤ 400 := by
  unfold canR keepB at h
  simp only [Bool.and_eq_true] at h
  obtain ⟨⟨⟨⟨⟨⟨⟨⟨⟨⟨h0, h1⟩, h2⟩, h3⟩, h4⟩, h5⟩, h6⟩, h7⟩, ⟨-, h8⟩⟩, -⟩, -⟩ := h
  have n : ∀ {z : Int}, nineB z = true → z.toNat ≤ 999999999 := fun {z} h => by simp [nineB] at h; omega
  exact rateH_len _ _ _ _ _ _ _ _ _ (n h0) (n h1) (n h2) (n h3) (n h4) (n h5) (n h6) (n h7) (n h8)
set_option maxHeartbeats 1600000 in
theorem lawP_can {Q R : Nat → Prop} (a0 a1 a2 a3 a4 a5 a6 a7 kn kd : Int) (we pe : Xp) (bd1 : Option Addr) (bap1 : Nat) (bd2 : Option Addr) (bap2 : Nat) (x y : Xp) (ad1 ad2 : Option Addr) (cap1 cap2 : Nat) (w : World) (hP : PL w) (t1 : Tree (fun _ => False) w we (.agg #[.int .i64 we.o, .int .i64 we.n, .slice bd1 we.ks.length bap1])) (t2 : Tree (fun _ => False) w pe (.agg #[.int .i64 pe.o, .int .i64 pe.n, .slice bd2 pe.ks.length bap2])) (h1 : Tree Q w x (.agg #[.int .i64 x.o, .int .i64 x.n, .slice ad1 x.ks.length cap1])) (h2 : Tree R w y (.agg #[.int .i64 y.o, .int .i64 y.n, .slice ad2 y.ks.length cap2])) (hc : canR a0 a1 a2 a3 a4 a5 a6 a7 kn kd we pe = false) : Calls Tryd.prog 6 #[.agg #[.int .i64 a0, .int .i64 a1, .int .i64 a2, .int .i64 a3, .int .i64 a4, .int .i64 a5, .int .i64 a6, .int .i64 a7, .int .i64 kn, .int .i64 kd, .int .i64 we.o, .int .i64 we.n, .slice bd1 we.ks.length bap1, .int .i64 pe.o, .int .i64 pe.n, .slice bd2 pe.ks.length bap2], .agg #[.int .i64 x.o, .int .i64 x.n, .slice ad1 x.ks.length cap1], .agg #[.int .i64 y.o, .int .i64 y.n, .slice ad2 y.ks.length cap2]] w (Ret (.bool true) w) := by
  obtain ⟨W, hW⟩ : ∃ W, W = ((w.alloc (.cells #[.int .i64 a0, .int .i64 a1, .int .i64 a2, .int .i64 a3, .int .i64 a4, .int .i64 a5, .int .i64 a6, .int .i64 a7, .int .i64 kn, .int .i64 kd, .int .i64 we.o, .int .i64 we.n, .slice bd1 we.ks.length bap1, .int .i64 pe.o, .int .i64 pe.n, .slice bd2 pe.ks.length bap2] 30)).alloc (.cells #[.int .i64 x.o, .int .i64 x.n, .slice ad1 x.ks.length cap1] 24)).alloc (.cells #[.int .i64 y.o, .int .i64 y.n, .slice ad2 y.ks.length cap2] 24) := ⟨_, rfl⟩
  have o1 : Own W w.heap.size [.int .i64 a0, .int .i64 a1, .int .i64 a2, .int .i64 a3, .int .i64 a4, .int .i64 a5, .int .i64 a6, .int .i64 a7, .int .i64 kn, .int .i64 kd, .int .i64 we.o, .int .i64 we.n, .slice bd1 we.ks.length bap1, .int .i64 pe.o, .int .i64 pe.n, .slice bd2 pe.ks.length bap2] := by rw [hW]; exact ((Own.new w #[.int .i64 a0, .int .i64 a1, .int .i64 a2, .int .i64 a3, .int .i64 a4, .int .i64 a5, .int .i64 a6, .int .i64 a7, .int .i64 kn, .int .i64 kd, .int .i64 we.o, .int .i64 we.n, .slice bd1 we.ks.length bap1, .int .i64 pe.o, .int .i64 pe.n, .slice bd2 pe.ks.length bap2] 30).alloc _).alloc _
  have o2 : Own W (w.heap.size + 1) [.int .i64 x.o, .int .i64 x.n, .slice ad1 x.ks.length cap1] := by
    rw [hW]
    have := (Own.new (w.alloc (.cells #[.int .i64 a0, .int .i64 a1, .int .i64 a2, .int .i64 a3, .int .i64 a4, .int .i64 a5, .int .i64 a6, .int .i64 a7, .int .i64 kn, .int .i64 kd, .int .i64 we.o, .int .i64 we.n, .slice bd1 we.ks.length bap1, .int .i64 pe.o, .int .i64 pe.n, .slice bd2 pe.ks.length bap2] 30)) #[.int .i64 x.o, .int .i64 x.n, .slice ad1 x.ks.length cap1] 24).alloc (.cells #[.int .i64 y.o, .int .i64 y.n, .slice ad2 y.ks.length cap2] 24)
    simpa using this
  have o3 : Own W (w.heap.size + 2) [.int .i64 y.o, .int .i64 y.n, .slice ad2 y.ks.length cap2] := by
    rw [hW]
    have := Own.new ((w.alloc (.cells #[.int .i64 a0, .int .i64 a1, .int .i64 a2, .int .i64 a3, .int .i64 a4, .int .i64 a5, .int .i64 a6, .int .i64 a7, .int .i64 kn, .int .i64 kd, .int .i64 we.o, .int .i64 we.n, .slice bd1 we.ks.length bap1, .int .i64 pe.o, .int .i64 pe.n, .slice bd2 pe.ks.length bap2] 30)).alloc (.cells #[.int .i64 x.o, .int .i64 x.n, .slice ad1 x.ks.length cap1] 24)) #[.int .i64 y.o, .int .i64 y.n, .slice ad2 y.ks.length cap2] 24
    simpa using this
  have hb : Below w.heap.size w W := by rw [hW]; exact balloc (balloc (balloc (Below.refl _ _) _) _) _
  have hd := head_any W (hP.below hb)
  have hca := fun w1 (h : Below w.heap.size w w1) => can_any a0 a1 a2 a3 a4 a5 a6 a7 kn kd we pe bd1 bd2 bap1 bap2 w1 (t1.below h) (t2.below h)
  rw [hc] at hca
  obtain ⟨c0, c1, c2, c3, c4, c5, c6, c7, c8, c9, c10, c11, c12, c13, c14, c15, zc⟩ := own_16 o1
  obtain ⟨d0, d1, d2, -, -, -, zd⟩ := o2.three
  obtain ⟨f0, f1, f2, -, -, -, zf⟩ := o3.three
  go_enter Tryd.func6, Tryd.ntmps6
  go_wp2_with fail
  rw [← hW]
  clear hW
  refine hd.mono ?_
  rintro e w0 ⟨rfl, hx⟩
  clear c0 c1 c2 c3 c4 c5 c6 c7 c8 c9 c10 c11 c12 c13 c14 c15 zc d0 d1 d2 zd f0 f1 f2 zf
  replace o1 := o1.below hx
  replace o2 := o2.below hx
  replace o3 := o3.below hx
  replace hb := hb.trans (hx.mono hb.size)
  obtain ⟨c0, c1, c2, c3, c4, c5, c6, c7, c8, c9, c10, c11, c12, c13, c14, c15, zc⟩ := own_16 o1
  obtain ⟨d0, d1, d2, -, -, -, zd⟩ := o2.three
  obtain ⟨f0, f1, f2, -, -, -, zf⟩ := o3.three
  clear hx
  go_wp2_with fail
  refine (hca _ hb).mono ?_
  rintro e w1 ⟨rfl, hx⟩
  go_wp2_with fail
  go_ret
  exact Ret.mk (by first | rfl | simp) (hb.trans (hx.mono hb.size))
set_option maxHeartbeats 1600000 in
theorem lawP_x {Q R : Nat → Prop} (a0 a1 a2 a3 a4 a5 a6 a7 kn kd : Int) (we pe : Xp) (bd1 : Option Addr) (bap1 : Nat) (bd2 : Option Addr) (bap2 : Nat) (x y : Xp) (ad1 ad2 : Option Addr) (cap1 cap2 : Nat) (w : World) (hP : PL w) (t1 : Tree (fun _ => False) w we (.agg #[.int .i64 we.o, .int .i64 we.n, .slice bd1 we.ks.length bap1])) (t2 : Tree (fun _ => False) w pe (.agg #[.int .i64 pe.o, .int .i64 pe.n, .slice bd2 pe.ks.length bap2])) (h1 : Tree Q w x (.agg #[.int .i64 x.o, .int .i64 x.n, .slice ad1 x.ks.length cap1])) (h2 : Tree R w y (.agg #[.int .i64 y.o, .int .i64 y.n, .slice ad2 y.ks.length cap2])) (hc : canR a0 a1 a2 a3 a4 a5 a6 a7 kn kd we pe = true) (hv : validF x = false) : Calls Tryd.prog 6 #[.agg #[.int .i64 a0, .int .i64 a1, .int .i64 a2, .int .i64 a3, .int .i64 a4, .int .i64 a5, .int .i64 a6, .int .i64 a7, .int .i64 kn, .int .i64 kd, .int .i64 we.o, .int .i64 we.n, .slice bd1 we.ks.length bap1, .int .i64 pe.o, .int .i64 pe.n, .slice bd2 pe.ks.length bap2], .agg #[.int .i64 x.o, .int .i64 x.n, .slice ad1 x.ks.length cap1], .agg #[.int .i64 y.o, .int .i64 y.n, .slice ad2 y.ks.length cap2]] w (Ret (.bool true) w) := by
  obtain ⟨W, hW⟩ : ∃ W, W = ((w.alloc (.cells #[.int .i64 a0, .int .i64 a1, .int .i64 a2, .int .i64 a3, .int .i64 a4, .int .i64 a5, .int .i64 a6, .int .i64 a7, .int .i64 kn, .int .i64 kd, .int .i64 we.o, .int .i64 we.n, .slice bd1 we.ks.length bap1, .int .i64 pe.o, .int .i64 pe.n, .slice bd2 pe.ks.length bap2] 30)).alloc (.cells #[.int .i64 x.o, .int .i64 x.n, .slice ad1 x.ks.length cap1] 24)).alloc (.cells #[.int .i64 y.o, .int .i64 y.n, .slice ad2 y.ks.length cap2] 24) := ⟨_, rfl⟩
  have o1 : Own W w.heap.size [.int .i64 a0, .int .i64 a1, .int .i64 a2, .int .i64 a3, .int .i64 a4, .int .i64 a5, .int .i64 a6, .int .i64 a7, .int .i64 kn, .int .i64 kd, .int .i64 we.o, .int .i64 we.n, .slice bd1 we.ks.length bap1, .int .i64 pe.o, .int .i64 pe.n, .slice bd2 pe.ks.length bap2] := by rw [hW]; exact ((Own.new w #[.int .i64 a0, .int .i64 a1, .int .i64 a2, .int .i64 a3, .int .i64 a4, .int .i64 a5, .int .i64 a6, .int .i64 a7, .int .i64 kn, .int .i64 kd, .int .i64 we.o, .int .i64 we.n, .slice bd1 we.ks.length bap1, .int .i64 pe.o, .int .i64 pe.n, .slice bd2 pe.ks.length bap2] 30).alloc _).alloc _
  have o2 : Own W (w.heap.size + 1) [.int .i64 x.o, .int .i64 x.n, .slice ad1 x.ks.length cap1] := by
    rw [hW]
    have := (Own.new (w.alloc (.cells #[.int .i64 a0, .int .i64 a1, .int .i64 a2, .int .i64 a3, .int .i64 a4, .int .i64 a5, .int .i64 a6, .int .i64 a7, .int .i64 kn, .int .i64 kd, .int .i64 we.o, .int .i64 we.n, .slice bd1 we.ks.length bap1, .int .i64 pe.o, .int .i64 pe.n, .slice bd2 pe.ks.length bap2] 30)) #[.int .i64 x.o, .int .i64 x.n, .slice ad1 x.ks.length cap1] 24).alloc (.cells #[.int .i64 y.o, .int .i64 y.n, .slice ad2 y.ks.length cap2] 24)
    simpa using this
  have o3 : Own W (w.heap.size + 2) [.int .i64 y.o, .int .i64 y.n, .slice ad2 y.ks.length cap2] := by
    rw [hW]
    have := Own.new ((w.alloc (.cells #[.int .i64 a0, .int .i64 a1, .int .i64 a2, .int .i64 a3, .int .i64 a4, .int .i64 a5, .int .i64 a6, .int .i64 a7, .int .i64 kn, .int .i64 kd, .int .i64 we.o, .int .i64 we.n, .slice bd1 we.ks.length bap1, .int .i64 pe.o, .int .i64 pe.n, .slice bd2 pe.ks.length bap2] 30)).alloc (.cells #[.int .i64 x.o, .int .i64 x.n, .slice ad1 x.ks.length cap1] 24)) #[.int .i64 y.o, .int .i64 y.n, .slice ad2 y.ks.length cap2] 24
    simpa using this
  have hb : Below w.heap.size w W := by rw [hW]; exact balloc (balloc (balloc (Below.refl _ _) _) _) _
  have hd := head_any W (hP.below hb)
  have hca := fun w1 (h : Below w.heap.size w w1) => can_any a0 a1 a2 a3 a4 a5 a6 a7 kn kd we pe bd1 bd2 bap1 bap2 w1 (t1.below h) (t2.below h)
  rw [hc] at hca
  have hv1 := fun w1 (h : Below w.heap.size w w1) => rvalid8_any x _ w1 (h1.below h)
  rw [hv] at hv1
  obtain ⟨c0, c1, c2, c3, c4, c5, c6, c7, c8, c9, c10, c11, c12, c13, c14, c15, zc⟩ := own_16 o1
  obtain ⟨d0, d1, d2, -, -, -, zd⟩ := o2.three
  obtain ⟨f0, f1, f2, -, -, -, zf⟩ := o3.three
  go_enter Tryd.func6, Tryd.ntmps6
  go_wp2_with fail
  rw [← hW]
  clear hW
  refine hd.mono ?_
  rintro e w0 ⟨rfl, hx⟩
  clear c0 c1 c2 c3 c4 c5 c6 c7 c8 c9 c10 c11 c12 c13 c14 c15 zc d0 d1 d2 zd f0 f1 f2 zf
  replace o1 := o1.below hx
  replace o2 := o2.below hx
  replace o3 := o3.below hx
  replace hb := hb.trans (hx.mono hb.size)
  obtain ⟨c0, c1, c2, c3, c4, c5, c6, c7, c8, c9, c10, c11, c12, c13, c14, c15, zc⟩ := own_16 o1
  obtain ⟨d0, d1, d2, -, -, -, zd⟩ := o2.three
  obtain ⟨f0, f1, f2, -, -, -, zf⟩ := o3.three
  clear hx
  go_wp2_with fail
  refine (hca _ hb).mono ?_
  rintro e w1 ⟨rfl, hx⟩
  clear c0 c1 c2 c3 c4 c5 c6 c7 c8 c9 c10 c11 c12 c13 c14 c15 zc d0 d1 d2 zd f0 f1 f2 zf
  replace o1 := o1.below hx
  replace o2 := o2.below hx
  replace o3 := o3.below hx
  replace hb := hb.trans (hx.mono hb.size)
  obtain ⟨c0, c1, c2, c3, c4, c5, c6, c7, c8, c9, c10, c11, c12, c13, c14, c15, zc⟩ := own_16 o1
  obtain ⟨d0, d1, d2, -, -, -, zd⟩ := o2.three
  obtain ⟨f0, f1, f2, -, -, -, zf⟩ := o3.three
  clear hx
  go_wp2_with fail
  refine (hv1 _ hb).mono ?_
  rintro e w2 ⟨rfl, hx⟩
  go_wp2_with fail
  go_ret
  exact Ret.mk (by first | rfl | simp) (hb.trans (hx.mono hb.size))
set_option maxHeartbeats 1600000 in
theorem lawP_y {Q R : Nat → Prop} (a0 a1 a2 a3 a4 a5 a6 a7 kn kd : Int) (we pe : Xp) (bd1 : Option Addr) (bap1 : Nat) (bd2 : Option Addr) (bap2 : Nat) (x y : Xp) (ad1 ad2 : Option Addr) (cap1 cap2 : Nat) (w : World) (hP : PL w) (t1 : Tree (fun _ => False) w we (.agg #[.int .i64 we.o, .int .i64 we.n, .slice bd1 we.ks.length bap1])) (t2 : Tree (fun _ => False) w pe (.agg #[.int .i64 pe.o, .int .i64 pe.n, .slice bd2 pe.ks.length bap2])) (h1 : Tree Q w x (.agg #[.int .i64 x.o, .int .i64 x.n, .slice ad1 x.ks.length cap1])) (h2 : Tree R w y (.agg #[.int .i64 y.o, .int .i64 y.n, .slice ad2 y.ks.length cap2])) (hc : canR a0 a1 a2 a3 a4 a5 a6 a7 kn kd we pe = true) (hv : validF x = true) (hw : validF y = false) : Calls Tryd.prog 6 #[.agg #[.int .i64 a0, .int .i64 a1, .int .i64 a2, .int .i64 a3, .int .i64 a4, .int .i64 a5, .int .i64 a6, .int .i64 a7, .int .i64 kn, .int .i64 kd, .int .i64 we.o, .int .i64 we.n, .slice bd1 we.ks.length bap1, .int .i64 pe.o, .int .i64 pe.n, .slice bd2 pe.ks.length bap2], .agg #[.int .i64 x.o, .int .i64 x.n, .slice ad1 x.ks.length cap1], .agg #[.int .i64 y.o, .int .i64 y.n, .slice ad2 y.ks.length cap2]] w (Ret (.bool true) w) := by
  obtain ⟨W, hW⟩ : ∃ W, W = ((w.alloc (.cells #[.int .i64 a0, .int .i64 a1, .int .i64 a2, .int .i64 a3, .int .i64 a4, .int .i64 a5, .int .i64 a6, .int .i64 a7, .int .i64 kn, .int .i64 kd, .int .i64 we.o, .int .i64 we.n, .slice bd1 we.ks.length bap1, .int .i64 pe.o, .int .i64 pe.n, .slice bd2 pe.ks.length bap2] 30)).alloc (.cells #[.int .i64 x.o, .int .i64 x.n, .slice ad1 x.ks.length cap1] 24)).alloc (.cells #[.int .i64 y.o, .int .i64 y.n, .slice ad2 y.ks.length cap2] 24) := ⟨_, rfl⟩
  have o1 : Own W w.heap.size [.int .i64 a0, .int .i64 a1, .int .i64 a2, .int .i64 a3, .int .i64 a4, .int .i64 a5, .int .i64 a6, .int .i64 a7, .int .i64 kn, .int .i64 kd, .int .i64 we.o, .int .i64 we.n, .slice bd1 we.ks.length bap1, .int .i64 pe.o, .int .i64 pe.n, .slice bd2 pe.ks.length bap2] := by rw [hW]; exact ((Own.new w #[.int .i64 a0, .int .i64 a1, .int .i64 a2, .int .i64 a3, .int .i64 a4, .int .i64 a5, .int .i64 a6, .int .i64 a7, .int .i64 kn, .int .i64 kd, .int .i64 we.o, .int .i64 we.n, .slice bd1 we.ks.length bap1, .int .i64 pe.o, .int .i64 pe.n, .slice bd2 pe.ks.length bap2] 30).alloc _).alloc _
  have o2 : Own W (w.heap.size + 1) [.int .i64 x.o, .int .i64 x.n, .slice ad1 x.ks.length cap1] := by
    rw [hW]
    have := (Own.new (w.alloc (.cells #[.int .i64 a0, .int .i64 a1, .int .i64 a2, .int .i64 a3, .int .i64 a4, .int .i64 a5, .int .i64 a6, .int .i64 a7, .int .i64 kn, .int .i64 kd, .int .i64 we.o, .int .i64 we.n, .slice bd1 we.ks.length bap1, .int .i64 pe.o, .int .i64 pe.n, .slice bd2 pe.ks.length bap2] 30)) #[.int .i64 x.o, .int .i64 x.n, .slice ad1 x.ks.length cap1] 24).alloc (.cells #[.int .i64 y.o, .int .i64 y.n, .slice ad2 y.ks.length cap2] 24)
    simpa using this
  have o3 : Own W (w.heap.size + 2) [.int .i64 y.o, .int .i64 y.n, .slice ad2 y.ks.length cap2] := by
    rw [hW]
    have := Own.new ((w.alloc (.cells #[.int .i64 a0, .int .i64 a1, .int .i64 a2, .int .i64 a3, .int .i64 a4, .int .i64 a5, .int .i64 a6, .int .i64 a7, .int .i64 kn, .int .i64 kd, .int .i64 we.o, .int .i64 we.n, .slice bd1 we.ks.length bap1, .int .i64 pe.o, .int .i64 pe.n, .slice bd2 pe.ks.length bap2] 30)).alloc (.cells #[.int .i64 x.o, .int .i64 x.n, .slice ad1 x.ks.length cap1] 24)) #[.int .i64 y.o, .int .i64 y.n, .slice ad2 y.ks.length cap2] 24
    simpa using this
  have hb : Below w.heap.size w W := by rw [hW]; exact balloc (balloc (balloc (Below.refl _ _) _) _) _
  have hd := head_any W (hP.below hb)
  have hca := fun w1 (h : Below w.heap.size w w1) => can_any a0 a1 a2 a3 a4 a5 a6 a7 kn kd we pe bd1 bd2 bap1 bap2 w1 (t1.below h) (t2.below h)
  rw [hc] at hca
  have hv1 := fun w1 (h : Below w.heap.size w w1) => rvalid8_any x _ w1 (h1.below h)
  rw [hv] at hv1
  have hv2 := fun w1 (h : Below w.heap.size w w1) => rvalid8_any y _ w1 (h2.below h)
  rw [hw] at hv2
  obtain ⟨c0, c1, c2, c3, c4, c5, c6, c7, c8, c9, c10, c11, c12, c13, c14, c15, zc⟩ := own_16 o1
  obtain ⟨d0, d1, d2, -, -, -, zd⟩ := o2.three
  obtain ⟨f0, f1, f2, -, -, -, zf⟩ := o3.three
  go_enter Tryd.func6, Tryd.ntmps6
  go_wp2_with fail
  rw [← hW]
  clear hW
  refine hd.mono ?_
  rintro e w0 ⟨rfl, hx⟩
  clear c0 c1 c2 c3 c4 c5 c6 c7 c8 c9 c10 c11 c12 c13 c14 c15 zc d0 d1 d2 zd f0 f1 f2 zf
  replace o1 := o1.below hx
  replace o2 := o2.below hx
  replace o3 := o3.below hx
  replace hb := hb.trans (hx.mono hb.size)
  obtain ⟨c0, c1, c2, c3, c4, c5, c6, c7, c8, c9, c10, c11, c12, c13, c14, c15, zc⟩ := own_16 o1
  obtain ⟨d0, d1, d2, -, -, -, zd⟩ := o2.three
  obtain ⟨f0, f1, f2, -, -, -, zf⟩ := o3.three
  clear hx
  go_wp2_with fail
  refine (hca _ hb).mono ?_
  rintro e w1 ⟨rfl, hx⟩
  clear c0 c1 c2 c3 c4 c5 c6 c7 c8 c9 c10 c11 c12 c13 c14 c15 zc d0 d1 d2 zd f0 f1 f2 zf
  replace o1 := o1.below hx
  replace o2 := o2.below hx
  replace o3 := o3.below hx
  replace hb := hb.trans (hx.mono hb.size)
  obtain ⟨c0, c1, c2, c3, c4, c5, c6, c7, c8, c9, c10, c11, c12, c13, c14, c15, zc⟩ := own_16 o1
  obtain ⟨d0, d1, d2, -, -, -, zd⟩ := o2.three
  obtain ⟨f0, f1, f2, -, -, -, zf⟩ := o3.three
  clear hx
  go_wp2_with fail
  refine (hv1 _ hb).mono ?_
  rintro e w2 ⟨rfl, hx⟩
  clear c0 c1 c2 c3 c4 c5 c6 c7 c8 c9 c10 c11 c12 c13 c14 c15 zc d0 d1 d2 zd f0 f1 f2 zf
  replace o1 := o1.below hx
  replace o2 := o2.below hx
  replace o3 := o3.below hx
  replace hb := hb.trans (hx.mono hb.size)
  obtain ⟨c0, c1, c2, c3, c4, c5, c6, c7, c8, c9, c10, c11, c12, c13, c14, c15, zc⟩ := own_16 o1
  obtain ⟨d0, d1, d2, -, -, -, zd⟩ := o2.three
  obtain ⟨f0, f1, f2, -, -, -, zf⟩ := o3.three
  clear hx
  go_wp2_with fail
  refine (hv2 _ hb).mono ?_
  rintro e w3 ⟨rfl, hx⟩
  go_wp2_with fail
  go_ret
  exact Ret.mk (by first | rfl | simp) (hb.trans (hx.mono hb.size))
set_option maxHeartbeats 6400000 in
theorem lawP_rest {Q R : Nat → Prop} (a0 a1 a2 a3 a4 a5 a6 a7 kn kd : Int) (we pe : Xp) (bd1 : Option Addr) (bap1 : Nat) (bd2 : Option Addr) (bap2 : Nat) (x y : Xp) (ad1 ad2 : Option Addr) (cap1 cap2 : Nat) (w : World) (hP : PL w) (t1 : Tree (fun _ => False) w we (.agg #[.int .i64 we.o, .int .i64 we.n, .slice bd1 we.ks.length bap1])) (t2 : Tree (fun _ => False) w pe (.agg #[.int .i64 pe.o, .int .i64 pe.n, .slice bd2 pe.ks.length bap2])) (h1 : Tree Q w x (.agg #[.int .i64 x.o, .int .i64 x.n, .slice ad1 x.ks.length cap1])) (h2 : Tree R w y (.agg #[.int .i64 y.o, .int .i64 y.n, .slice ad2 y.ks.length cap2])) (hc : canR a0 a1 a2 a3 a4 a5 a6 a7 kn kd we pe = true) (hv : validF x = true) (hw : validF y = true) : Calls Tryd.prog 6 #[.agg #[.int .i64 a0, .int .i64 a1, .int .i64 a2, .int .i64 a3, .int .i64 a4, .int .i64 a5, .int .i64 a6, .int .i64 a7, .int .i64 kn, .int .i64 kd, .int .i64 we.o, .int .i64 we.n, .slice bd1 we.ks.length bap1, .int .i64 pe.o, .int .i64 pe.n, .slice bd2 pe.ks.length bap2], .agg #[.int .i64 x.o, .int .i64 x.n, .slice ad1 x.ks.length cap1], .agg #[.int .i64 y.o, .int .i64 y.n, .slice ad2 y.ks.length cap2]] w (Ret (.bool true) w) := by
  obtain ⟨W, hW⟩ : ∃ W, W = ((w.alloc (.cells #[.int .i64 a0, .int .i64 a1, .int .i64 a2, .int .i64 a3, .int .i64 a4, .int .i64 a5, .int .i64 a6, .int .i64 a7, .int .i64 kn, .int .i64 kd, .int .i64 we.o, .int .i64 we.n, .slice bd1 we.ks.length bap1, .int .i64 pe.o, .int .i64 pe.n, .slice bd2 pe.ks.length bap2] 30)).alloc (.cells #[.int .i64 x.o, .int .i64 x.n, .slice ad1 x.ks.length cap1] 24)).alloc (.cells #[.int .i64 y.o, .int .i64 y.n, .slice ad2 y.ks.length cap2] 24) := ⟨_, rfl⟩
  have o1 : Own W w.heap.size [.int .i64 a0, .int .i64 a1, .int .i64 a2, .int .i64 a3, .int .i64 a4, .int .i64 a5, .int .i64 a6, .int .i64 a7, .int .i64 kn, .int .i64 kd, .int .i64 we.o, .int .i64 we.n, .slice bd1 we.ks.length bap1, .int .i64 pe.o, .int .i64 pe.n, .slice bd2 pe.ks.length bap2] := by rw [hW]; exact ((Own.new w #[.int .i64 a0, .int .i64 a1, .int .i64 a2, .int .i64 a3, .int .i64 a4, .int .i64 a5, .int .i64 a6, .int .i64 a7, .int .i64 kn, .int .i64 kd, .int .i64 we.o, .int .i64 we.n, .slice bd1 we.ks.length bap1, .int .i64 pe.o, .int .i64 pe.n, .slice bd2 pe.ks.length bap2] 30).alloc _).alloc _
  have o2 : Own W (w.heap.size + 1) [.int .i64 x.o, .int .i64 x.n, .slice ad1 x.ks.length cap1] := by
    rw [hW]
    have := (Own.new (w.alloc (.cells #[.int .i64 a0, .int .i64 a1, .int .i64 a2, .int .i64 a3, .int .i64 a4, .int .i64 a5, .int .i64 a6, .int .i64 a7, .int .i64 kn, .int .i64 kd, .int .i64 we.o, .int .i64 we.n, .slice bd1 we.ks.length bap1, .int .i64 pe.o, .int .i64 pe.n, .slice bd2 pe.ks.length bap2] 30)) #[.int .i64 x.o, .int .i64 x.n, .slice ad1 x.ks.length cap1] 24).alloc (.cells #[.int .i64 y.o, .int .i64 y.n, .slice ad2 y.ks.length cap2] 24)
    simpa using this
  have o3 : Own W (w.heap.size + 2) [.int .i64 y.o, .int .i64 y.n, .slice ad2 y.ks.length cap2] := by
    rw [hW]
    have := Own.new ((w.alloc (.cells #[.int .i64 a0, .int .i64 a1, .int .i64 a2, .int .i64 a3, .int .i64 a4, .int .i64 a5, .int .i64 a6, .int .i64 a7, .int .i64 kn, .int .i64 kd, .int .i64 we.o, .int .i64 we.n, .slice bd1 we.ks.length bap1, .int .i64 pe.o, .int .i64 pe.n, .slice bd2 pe.ks.length bap2] 30)).alloc (.cells #[.int .i64 x.o, .int .i64 x.n, .slice ad1 x.ks.length cap1] 24)) #[.int .i64 y.o, .int .i64 y.n, .slice ad2 y.ks.length cap2] 24
    simpa using this
  have hb : Below w.heap.size w W := by rw [hW]; exact balloc (balloc (balloc (Below.refl _ _) _) _) _
  have hd := head_any W (hP.below hb)
  have hca := fun w1 (h : Below w.heap.size w w1) => can_any a0 a1 a2 a3 a4 a5 a6 a7 kn kd we pe bd1 bd2 bap1 bap2 w1 (t1.below h) (t2.below h)
  rw [hc] at hca
  have hv1 := fun w1 (h : Below w.heap.size w w1) => rvalid8_any x _ w1 (h1.below h)
  rw [hv] at hv1
  have hv2 := fun w1 (h : Below w.heap.size w w1) => rvalid8_any y _ w1 (h2.below h)
  rw [hw] at hv2
  obtain ⟨u1, u2⟩ := canR_parts hc
  have hH := canR_head hc
  have hpr := fun w1 (h : Below w.heap.size w w1) => prate_any a0 a1 a2 a3 a4 a5 a6 a7 kn kd we pe bd1 bd2 bap1 bap2 w1 (hP.below h) (t1.below h) (t2.below h)
  have hpo := fun w1 (h : Below w.heap.size w w1) => prate_any a0 a1 a2 a3 a4 a5 a6 a7 kn kd x y ad1 ad2 cap1 cap2 w1 (hP.below h) (h1.below h) (h2.below h)
  rw [rateP_can, if_pos hc, rate_split] at hpr
  rw [rateP_can, if_pos (canR_of hc hv hw), rate_split] at hpo
  have e1 := fun w1 (h : Below w.heap.size w w1) => pprint_any we _ w1 (hP.below h) (t1.below h)
  have e2 := fun w1 (h : Below w.heap.size w w1) => pprint_any pe _ w1 (hP.below h) (t2.below h)
  have e3 := fun w1 (h : Below w.heap.size w w1) => pprint_any x _ w1 (hP.below h) (h1.below h)
  have e4 := fun w1 (h : Below w.heap.size w w1) => pprint_any y _ w1 (hP.below h) (h2.below h)
  unfold exprP at e1 e2 e3 e4
  rw [if_pos u1] at e1
  rw [if_pos u2] at e2
  rw [if_pos hv] at e3
  rw [if_pos hw] at e4
  simp only at hpr hpo e1 e2 e3 e4
  have l1 := txt_len u1; have l2 := txt_len u2; have l3 := txt_len hv; have l4 := txt_len hw
  generalize txtE we = s1 at hpr e1 l1
  generalize txtE pe = s2 at hpr e2 l2
  generalize txtE x = s3 at hpo e3 l3
  generalize txtE y = s4 at hpo e4 l4
  generalize rateH a0.toNat a1.toNat a2.toNat a3.toNat a4.toNat a5.toNat a6.toNat a7.toNat (kn * (100 / kd)).toNat = H at hpr hpo hH
  have hq1 := fun w1 => suf_any H (rateL s1 s2) (by have := rateL_len s1 s2 l1 l2; rw [List.length_append]; omega) w1
  have hq2 := fun w1 => suf_any H (rateL s3 s4) (by have := rateL_len s3 s4 l3 l4; rw [List.length_append]; omega) w1
  have hq3 := fun w1 => trim_any H (rateL s1 s2) (by have := rateL_len s1 s2 l1 l2; rw [List.length_append]; omega) w1
  have hq4 := fun w1 => trim_any H (rateL s3 s4) (by have := rateL_len s3 s4 l3 l4; rw [List.length_append]; omega) w1
  have b1 := rateL_bytes s1 s2
  have b2 := rateL_bytes s3 s4
  have z1 : (⟨s1.toArray⟩ : ByteArray).size ≤ 4400 := by simpa [ByteArray.size] using l1
  have z2 : (⟨s2.toArray⟩ : ByteArray).size ≤ 4400 := by simpa [ByteArray.size] using l2
  have z3 : (⟨s3.toArray⟩ : ByteArray).size ≤ 4400 := by simpa [ByteArray.size] using l3
  have z4 : (⟨s4.toArray⟩ : ByteArray).size ≤ 4400 := by simpa [ByteArray.size] using l4
  generalize (⟨(rateL s1 s2).toArray⟩ : ByteArray) = ONE at hq1 hq3 b1
  generalize (⟨(rateL s3 s4).toArray⟩ : ByteArray) = TWO at hq2 hq4 b2
  generalize (⟨(H ++ rateL s1 s2).toArray⟩ : ByteArray) = SS at hq1 hq3 hpr
  generalize (⟨(H ++ rateL s3 s4).toArray⟩ : ByteArray) = TT at hq2 hq4 hpo
  generalize (⟨H.toArray⟩ : ByteArray) = HH at hq3 hq4
  generalize (⟨s1.toArray⟩ : ByteArray) = S1 at e1 b1 z1
  generalize (⟨s2.toArray⟩ : ByteArray) = S2 at e2 b1 z2
  generalize (⟨s3.toArray⟩ : ByteArray) = S3 at e3 b2 z3
  generalize (⟨s4.toArray⟩ : ByteArray) = S4 at e4 b2 z4
  have y0 : ¬ (9223372036854775807 < 6 + S1.size) := by omega
  have x0 : ¬ (9223372036854775807 < (6 : Int) + (S1.size : Int)) := by omega
  have y1 : ¬ (9223372036854775807 < 6 + S1.size + 7) := by omega
  have x1 : ¬ (9223372036854775807 < (6 : Int) + (S1.size : Int) + 7) := by omega
  have y2 : ¬ (9223372036854775807 < 6 + S1.size + 7 + S2.size) := by omega
  have x2 : ¬ (9223372036854775807 < (6 : Int) + (S1.size : Int) + 7 + (S2.size : Int)) := by omega
  have y3 : ¬ (9223372036854775807 < 6 + S1.size + 7 + S2.size + 1) := by omega
  have x3 : ¬ (9223372036854775807 < (6 : Int) + (S1.size : Int) + 7 + (S2.size : Int) + 1) := by omega
  have y4 : ¬ (9223372036854775807 < 6 + S3.size) := by omega
  have x4 : ¬ (9223372036854775807 < (6 : Int) + (S3.size : Int)) := by omega
  have y5 : ¬ (9223372036854775807 < 6 + S3.size + 7) := by omega
  have x5 : ¬ (9223372036854775807 < (6 : Int) + (S3.size : Int) + 7) := by omega
  have y6 : ¬ (9223372036854775807 < 6 + S3.size + 7 + S4.size) := by omega
  have x6 : ¬ (9223372036854775807 < (6 : Int) + (S3.size : Int) + 7 + (S4.size : Int)) := by omega
  have y7 : ¬ (9223372036854775807 < 6 + S3.size + 7 + S4.size + 1) := by omega
  have x7 : ¬ (9223372036854775807 < (6 : Int) + (S3.size : Int) + 7 + (S4.size : Int) + 1) := by omega
  clear l1 l2 l3 l4 z1 z2 z3 z4 hH
  have B1 := Lib.hid b1
  have B2 := Lib.hid b2
  clear b1 b2 hc hv hw u1 u2
  obtain ⟨c0, c1, c2, c3, c4, c5, c6, c7, c8, c9, c10, c11, c12, c13, c14, c15, zc⟩ := own_16 o1
  obtain ⟨d0, d1, d2, -, -, -, zd⟩ := o2.three
  obtain ⟨f0, f1, f2, -, -, -, zf⟩ := o3.three
  go_enter Tryd.func6, Tryd.ntmps6
  go_wp2_with fail
  rw [← hW]
  clear hW
  refine hd.mono ?_
  rintro e w0 ⟨rfl, hx⟩
  clear c0 c1 c2 c3 c4 c5 c6 c7 c8 c9 c10 c11 c12 c13 c14 c15 zc d0 d1 d2 zd f0 f1 f2 zf
  replace o1 := o1.below hx
  replace o2 := o2.below hx
  replace o3 := o3.below hx
  replace hb := hb.trans (hx.mono hb.size)
  obtain ⟨c0, c1, c2, c3, c4, c5, c6, c7, c8, c9, c10, c11, c12, c13, c14, c15, zc⟩ := own_16 o1
  obtain ⟨d0, d1, d2, -, -, -, zd⟩ := o2.three
  obtain ⟨f0, f1, f2, -, -, -, zf⟩ := o3.three
  clear hx
  go_wp2_with fail
  refine (hca _ hb).mono ?_
  rintro e w1 ⟨rfl, hx⟩
  clear c0 c1 c2 c3 c4 c5 c6 c7 c8 c9 c10 c11 c12 c13 c14 c15 zc d0 d1 d2 zd f0 f1 f2 zf
  replace o1 := o1.below hx
  replace o2 := o2.below hx
  replace o3 := o3.below hx
  replace hb := hb.trans (hx.mono hb.size)
  obtain ⟨c0, c1, c2, c3, c4, c5, c6, c7, c8, c9, c10, c11, c12, c13, c14, c15, zc⟩ := own_16 o1
  obtain ⟨d0, d1, d2, -, -, -, zd⟩ := o2.three
  obtain ⟨f0, f1, f2, -, -, -, zf⟩ := o3.three
  clear hx
  go_wp2_with fail
  refine (hv1 _ hb).mono ?_
  rintro e w2 ⟨rfl, hx⟩
  clear c0 c1 c2 c3 c4 c5 c6 c7 c8 c9 c10 c11 c12 c13 c14 c15 zc d0 d1 d2 zd f0 f1 f2 zf
  replace o1 := o1.below hx
  replace o2 := o2.below hx
  replace o3 := o3.below hx
  replace hb := hb.trans (hx.mono hb.size)
  obtain ⟨c0, c1, c2, c3, c4, c5, c6, c7, c8, c9, c10, c11, c12, c13, c14, c15, zc⟩ := own_16 o1
  obtain ⟨d0, d1, d2, -, -, -, zd⟩ := o2.three
  obtain ⟨f0, f1, f2, -, -, -, zf⟩ := o3.three
  clear hx
  go_wp2_with fail
  refine (hv2 _ hb).mono ?_
  rintro e w3 ⟨rfl, hx⟩
  clear c0 c1 c2 c3 c4 c5 c6 c7 c8 c9 c10 c11 c12 c13 c14 c15 zc d0 d1 d2 zd f0 f1 f2 zf
  replace o1 := o1.below hx
  replace o2 := o2.below hx
  replace o3 := o3.below hx
  replace hb := hb.trans (hx.mono hb.size)
  obtain ⟨c0, c1, c2, c3, c4, c5, c6, c7, c8, c9, c10, c11, c12, c13, c14, c15, zc⟩ := own_16 o1
  obtain ⟨d0, d1, d2, -, -, -, zd⟩ := o2.three
  obtain ⟨f0, f1, f2, -, -, -, zf⟩ := o3.three
  clear hx
  clear hca hv1 hv2
  have o8 := Own.new w3 #[.int .i64 a0, .int .i64 a1, .int .i64 a2, .int .i64 a3, .int .i64 a4, .int .i64 a5, .int .i64 a6, .int .i64 a7, .int .i64 kn, .int .i64 kd, .int .i64 we.o, .int .i64 we.n, .slice bd1 we.ks.length bap1, .int .i64 pe.o, .int .i64 pe.n, .slice bd2 pe.ks.length bap2] 30
  go_upto_region 5 with (fail)
  go_cut [8] from 39 (fun s8 wx => s8 = .pointer (some ⟨w3.heap.size, 0, none⟩) ∧ Own wx w3.heap.size [.int .i64 a0, .int .i64 a1, .int .i64 a2, .int .i64 a3, .int .i64 a4, .int .i64 a5, .int .i64 a6, .int .i64 a7, .int .i64 kn, .int .i64 kd, .int .i64 x.o, .int .i64 x.n, .slice ad1 x.ks.length cap1, .int .i64 y.o, .int .i64 y.n, .slice ad2 y.ks.length cap2] ∧ Below w3.heap.size w3 wx)
  case first =>
    as_aux_lemma =>
      obtain ⟨g0, g1, g2, g3, g4, g5, g6, g7, g8, g9, g10, g11, g12, g13, g14, g15, zg⟩ := own_16 o8
      have fg := fun i v h => o8.fro i v h
      have q10 := o8.fro 10 _ rfl
      have q11 := o8.fro 11 _ rfl
      have q12 := o8.fro 12 _ rfl
      have q13 := o8.fro 13 _ rfl
      have q14 := o8.fro 14 _ rfl
      have q15 := o8.fro 15 _ rfl
      clear fg
      go_region_with (fail)
      all_goals (
        go_wp2_with fail
        go_meet
        exact ⟨rfl, (Own.new w3 #[.int .i64 a0, .int .i64 a1, .int .i64 a2, .int .i64 a3, .int .i64 a4, .int .i64 a5, .int .i64 a6, .int .i64 a7, .int .i64 kn, .int .i64 kd, .int .i64 x.o, .int .i64 x.n, .slice ad1 x.ks.length cap1, .int .i64 y.o, .int .i64 y.n, .slice ad2 y.ks.length cap2] 30).drew, (alB w3 (.cells #[.int .i64 a0, .int .i64 a1, .int .i64 a2, .int .i64 a3, .int .i64 a4, .int .i64 a5, .int .i64 a6, .int .i64 a7, .int .i64 kn, .int .i64 kd, .int .i64 x.o, .int .i64 x.n, .slice ad1 x.ks.length cap1, .int .i64 y.o, .int .i64 y.n, .slice ad2 y.ks.length cap2] 30)).drew⟩)
  case rest =>
    as_aux_lemma =>
      obtain ⟨rfl, o8, hx⟩ := hcut
      rename_i wx
      clear c0 c1 c2 c3 c4 c5 c6 c7 c8 c9 c10 c11 c12 c13 c14 c15 zc d0 d1 d2 zd f0 f1 f2 zf
      replace o1 := o1.below hx
      replace o2 := o2.below hx
      replace o3 := o3.below hx
      replace hb := hb.trans (hx.mono hb.size)
      obtain ⟨c0, c1, c2, c3, c4, c5, c6, c7, c8, c9, c10, c11, c12, c13, c14, c15, zc⟩ := own_16 o1
      obtain ⟨d0, d1, d2, -, -, -, zd⟩ := o2.three
      obtain ⟨f0, f1, f2, -, -, -, zf⟩ := o3.three
      obtain ⟨g0, g1, g2, g3, g4, g5, g6, g7, g8, g9, g10, g11, g12, g13, g14, g15, zg⟩ := own_16 o8
      clear hx
      go_wp2_with fail
      refine (hpr _ hb).mono ?_
      rintro e w4 ⟨rfl, hx⟩
      clear c0 c1 c2 c3 c4 c5 c6 c7 c8 c9 c10 c11 c12 c13 c14 c15 zc d0 d1 d2 zd f0 f1 f2 zf g0 g1 g2 g3 g4 g5 g6 g7 g8 g9 g10 g11 g12 g13 g14 g15 zg
      replace o1 := o1.below hx
      replace o2 := o2.below hx
      replace o3 := o3.below hx
      replace o8 := o8.below hx
      replace hb := hb.trans (hx.mono hb.size)
      obtain ⟨c0, c1, c2, c3, c4, c5, c6, c7, c8, c9, c10, c11, c12, c13, c14, c15, zc⟩ := own_16 o1
      obtain ⟨d0, d1, d2, -, -, -, zd⟩ := o2.three
      obtain ⟨f0, f1, f2, -, -, -, zf⟩ := o3.three
      obtain ⟨g0, g1, g2, g3, g4, g5, g6, g7, g8, g9, g10, g11, g12, g13, g14, g15, zg⟩ := own_16 o8
      clear hx
      go_wp2_with fail
      refine (hpo _ hb).mono ?_
      rintro e w5 ⟨rfl, hx⟩
      clear c0 c1 c2 c3 c4 c5 c6 c7 c8 c9 c10 c11 c12 c13 c14 c15 zc d0 d1 d2 zd f0 f1 f2 zf g0 g1 g2 g3 g4 g5 g6 g7 g8 g9 g10 g11 g12 g13 g14 g15 zg
      replace o1 := o1.below hx
      replace o2 := o2.below hx
      replace o3 := o3.below hx
      replace o8 := o8.below hx
      replace hb := hb.trans (hx.mono hb.size)
      obtain ⟨c0, c1, c2, c3, c4, c5, c6, c7, c8, c9, c10, c11, c12, c13, c14, c15, zc⟩ := own_16 o1
      obtain ⟨d0, d1, d2, -, -, -, zd⟩ := o2.three
      obtain ⟨f0, f1, f2, -, -, -, zf⟩ := o3.three
      obtain ⟨g0, g1, g2, g3, g4, g5, g6, g7, g8, g9, g10, g11, g12, g13, g14, g15, zg⟩ := own_16 o8
      clear hx
      go_wp2_with fail
      refine (e1 _ hb).mono ?_
      rintro e w6 ⟨rfl, hx⟩
      clear c0 c1 c2 c3 c4 c5 c6 c7 c8 c9 c10 c11 c12 c13 c14 c15 zc d0 d1 d2 zd f0 f1 f2 zf g0 g1 g2 g3 g4 g5 g6 g7 g8 g9 g10 g11 g12 g13 g14 g15 zg
      replace o1 := o1.below hx
      replace o2 := o2.below hx
      replace o3 := o3.below hx
      replace o8 := o8.below hx
      replace hb := hb.trans (hx.mono hb.size)
      obtain ⟨c0, c1, c2, c3, c4, c5, c6, c7, c8, c9, c10, c11, c12, c13, c14, c15, zc⟩ := own_16 o1
      obtain ⟨d0, d1, d2, -, -, -, zd⟩ := o2.three
      obtain ⟨f0, f1, f2, -, -, -, zf⟩ := o3.three
      obtain ⟨g0, g1, g2, g3, g4, g5, g6, g7, g8, g9, g10, g11, g12, g13, g14, g15, zg⟩ := own_16 o8
      clear hx
      go_wp2_with fail
      refine (e2 _ hb).mono ?_
      rintro e w7 ⟨rfl, hx⟩
      clear c0 c1 c2 c3 c4 c5 c6 c7 c8 c9 c10 c11 c12 c13 c14 c15 zc d0 d1 d2 zd f0 f1 f2 zf g0 g1 g2 g3 g4 g5 g6 g7 g8 g9 g10 g11 g12 g13 g14 g15 zg
      replace o1 := o1.below hx
      replace o2 := o2.below hx
      replace o3 := o3.below hx
      replace o8 := o8.below hx
      replace hb := hb.trans (hx.mono hb.size)
      obtain ⟨c0, c1, c2, c3, c4, c5, c6, c7, c8, c9, c10, c11, c12, c13, c14, c15, zc⟩ := own_16 o1
      obtain ⟨d0, d1, d2, -, -, -, zd⟩ := o2.three
      obtain ⟨f0, f1, f2, -, -, -, zf⟩ := o3.three
      obtain ⟨g0, g1, g2, g3, g4, g5, g6, g7, g8, g9, g10, g11, g12, g13, g14, g15, zg⟩ := own_16 o8
      clear hx
      go_wp2_with fail
      refine (e3 _ hb).mono ?_
      rintro e w8 ⟨rfl, hx⟩
      clear c0 c1 c2 c3 c4 c5 c6 c7 c8 c9 c10 c11 c12 c13 c14 c15 zc d0 d1 d2 zd f0 f1 f2 zf g0 g1 g2 g3 g4 g5 g6 g7 g8 g9 g10 g11 g12 g13 g14 g15 zg
      replace o1 := o1.below hx
      replace o2 := o2.below hx
      replace o3 := o3.below hx
      replace o8 := o8.below hx
      replace hb := hb.trans (hx.mono hb.size)
      obtain ⟨c0, c1, c2, c3, c4, c5, c6, c7, c8, c9, c10, c11, c12, c13, c14, c15, zc⟩ := own_16 o1
      obtain ⟨d0, d1, d2, -, -, -, zd⟩ := o2.three
      obtain ⟨f0, f1, f2, -, -, -, zf⟩ := o3.three
      obtain ⟨g0, g1, g2, g3, g4, g5, g6, g7, g8, g9, g10, g11, g12, g13, g14, g15, zg⟩ := own_16 o8
      clear hx
      go_wp2_with fail
      refine (e4 _ hb).mono ?_
      rintro e w9 ⟨rfl, hx⟩
      clear c0 c1 c2 c3 c4 c5 c6 c7 c8 c9 c10 c11 c12 c13 c14 c15 zc d0 d1 d2 zd f0 f1 f2 zf g0 g1 g2 g3 g4 g5 g6 g7 g8 g9 g10 g11 g12 g13 g14 g15 zg
      replace o1 := o1.below hx
      replace o2 := o2.below hx
      replace o3 := o3.below hx
      replace o8 := o8.below hx
      replace hb := hb.trans (hx.mono hb.size)
      obtain ⟨c0, c1, c2, c3, c4, c5, c6, c7, c8, c9, c10, c11, c12, c13, c14, c15, zc⟩ := own_16 o1
      obtain ⟨d0, d1, d2, -, -, -, zd⟩ := o2.three
      obtain ⟨f0, f1, f2, -, -, -, zf⟩ := o3.three
      obtain ⟨g0, g1, g2, g3, g4, g5, g6, g7, g8, g9, g10, g11, g12, g13, g14, g15, zg⟩ := own_16 o8
      clear hx
      clear c0 c1 c2 c3 c4 c5 c6 c7 c8 c9 c10 c11 c12 c13 c14 c15 zc d0 d1 d2 zd f0 f1 f2 zf g0 g1 g2 g3 g4 g5 g6 g7 g8 g9 g10 g11 g12 g13 g14 g15 zg
      clear o1 o2 o3 o8 hpr hpo e1 e2 e3 e4
      as_aux_lemma =>
        go_upto_region 15 with (fail)
        rw [B1.out, B2.out]
        go_wp2_with fail
        refine (hq1 _).mono ?_
        rintro e w10 ⟨rfl, rfl⟩
        go_wp2_with fail
        refine (hq2 _).mono ?_
        rintro e w11 ⟨rfl, rfl⟩
        go_wp2_with fail
        refine (hq3 _).mono ?_
        rintro e w12 ⟨rfl, rfl⟩
        go_wp2_with fail
        refine (hq4 _).mono ?_
        rintro e w13 ⟨rfl, rfl⟩
        go_wp2_with fail
        go_ret
        exact Ret.mk (by first | rfl | simp) hb
theorem lawP_any {Q R : Nat → Prop} (rv : Value) (x : Xp) (u : Value) (y : Xp) (v : Value) (w : World) (hP : PL w) (hr : ∃ a0 a1 a2 a3 a4 a5 a6 a7 kn kd we pe bd1 bap1 bd2 bap2, RateAt w rv a0 a1 a2 a3 a4 a5 a6 a7 kn kd we pe bd1 bap1 bd2 bap2) (h1 : Tree Q w x u) (h2 : Tree R w y v) : Calls Tryd.prog 6 #[rv, u, v] w (Ret (.bool true) w) := by
  obtain ⟨ad1, cap1, rfl, -, -⟩ := h1.shape
  obtain ⟨ad2, cap2, rfl, -, -⟩ := h2.shape
  obtain ⟨a0, a1, a2, a3, a4, a5, a6, a7, kn, kd, we, pe, bd1, bap1, bd2, bap2, rfl, t1, t2⟩ := hr
  cases hc : canR a0 a1 a2 a3 a4 a5 a6 a7 kn kd we pe with
  | false => exact lawP_can a0 a1 a2 a3 a4 a5 a6 a7 kn kd we pe bd1 bap1 bd2 bap2 x y ad1 ad2 cap1 cap2 w hP t1 t2 h1 h2 hc
  | true =>
  cases hv : validF x with
  | false => exact lawP_x a0 a1 a2 a3 a4 a5 a6 a7 kn kd we pe bd1 bap1 bd2 bap2 x y ad1 ad2 cap1 cap2 w hP t1 t2 h1 h2 hc hv
  | true =>
  cases hw : validF y with
  | false => exact lawP_y a0 a1 a2 a3 a4 a5 a6 a7 kn kd we pe bd1 bap1 bd2 bap2 x y ad1 ad2 cap1 cap2 w hP t1 t2 h1 h2 hc hv hw
  | true => exact lawP_rest a0 a1 a2 a3 a4 a5 a6 a7 kn kd we pe bd1 bap1 bd2 bap2 x y ad1 ad2 cap1 cap2 w hP t1 t2 h1 h2 hc hv hw
end Go.Proofs.YtlkefcbkpohpgaaDoor
namespace Go.Proofs.YtlkefcbkpohpgaaDoor
open Go.ChangeShapes Go.WideShapes Go.ChangeAt Go.RowKit Go.Joins
open Go.ChangeMaps (open_string)
set_option linter.unusedVariables false
set_option maxRecDepth 100000

theorem contractParts (H : Type) (enc : TypeId × Value → H) (W : World) (base : Nat) (args : Array Value) (ds gs : List (DataW H)) (before : List MemPlace)
    (hval0 : ∀ (j : Nat) t v, Tryd.f6.params[j]? = some t → args[j]? = some v → Value.okWide Tryd.prog W .any base t v)
    (hW : DataW.Whole enc Tryd.prog Tryd.f6.params.toList Rows.printerPartsSpec.vars false W args.toList ds gs before) (hL : laidMetH Tryd.prog Rows.printerPartsRow.laid W) (hsh : W.ShapedOpen Tryd.prog) :
    Calls Tryd.prog 6 args W fun e W' => ∃ v, e = .returned v ∧ Rows.printerPartsSpec.post enc Tryd.prog Tryd.f6 false true false false W args v W' := by
  have hval : ∀ (j : Nat) t v, Tryd.f6.params[j]? = some t → args[j]? = some v → Value.okWide Tryd.prog W .any base t v := hval0
  have hT : PL W := pl_of hL
  have hW' := hW
  obtain ⟨p, q, hA0, hV, rfl, hfz, hnd⟩ := hW
  have hA : DataW.TrodAll enc Tryd.prog W 0 (fun _ => true) true Tryd.f6.params.toList args.toList ds p := hA0
  rw [Tryd.params6] at hA hval
  obtain ⟨v0, vs0, d0, ds0, p0, q0, hargs, rfl, rfl, h0, r0⟩ := trodAll_cons hA
  obtain ⟨v1, vs1, d1, ds1, p1, q1, rfl, rfl, rfl, h1, r1⟩ := trodAll_cons r0
  obtain ⟨v2, vs2, d2, ds2, p2, q2, rfl, rfl, rfl, h2, r2⟩ := trodAll_cons r1
  obtain ⟨rfl, rfl, rfl⟩ := trodAll_nil r2
  obtain rfl : args = #[v0, v1, v2] := by cases args; simp_all
  obtain ⟨rfl, rfl⟩ := trodVars_none hV
  have k0 := h0
  have lt0 : ∀ x ∈ p0, x.block < W.heap.size := by obtain ⟨m, hm⟩ := k0; exact DataW.trod_lt m _ _ _ hm
  have m0 := rate_of_trod (hval 0 30 v0 rfl rfl) h0
  have k1 := h1
  have lt1 : ∀ x ∈ p1, x.block < W.heap.size := by obtain ⟨m, hm⟩ := k1; exact DataW.trod_lt m _ _ _ hm
  obtain ⟨e1, t1⟩ := tree_of_trod (hval 1 24 v1 rfl rfl) h1
  have k2 := h2
  have lt2 : ∀ x ∈ p2, x.block < W.heap.size := by obtain ⟨m, hm⟩ := k2; exact DataW.trod_lt m _ _ _ hm
  obtain ⟨e2, t2⟩ := tree_of_trod (hval 2 24 v2 rfl rfl) h2
  clear hA0 hval0
  have hwalk := lawP_any v0 e1 v1 e2 v2 W hT m0 t1 t2
  refine hwalk.mono fun e W' ⟨he, bel⟩ => ?_
  subst he
  exact ⟨_, rfl, _, _, _, [], _, [], hW', trodAll_mk1 (shut_bool Tryd.underlying4 _), (trodAll_cons_mk (Below.trod laidD (by kernel_rfl) (of_decide_eq_true (by kernel_rfl)) k0 bel lt0) (trodAll_cons_mk (Below.trod laidD (by kernel_rfl) (of_decide_eq_true (by kernel_rfl)) k1 bel lt1) (trodAll_cons_mk (Below.trod laidD (by kernel_rfl) (of_decide_eq_true (by kernel_rfl)) k2 bel lt2) trodAll_mk0))), rfl, bel.frame _, fun h => by cases h⟩

theorem readsParts (os : Os) {H : Type} (enc : TypeId × Value → H) : ∃ places, DataW.whole enc Tryd.prog ((prnWorld os).forCall (fun _ _ => 0) ⟨#[], #[.agg #[.int .i64 0, .int .i64 0, .int .i64 0, .int .i64 0, .int .i64 0, .int .i64 0, .int .i64 0, .int .i64 0, .int .i64 0, .int .i64 0, .int .i64 0, .int .i64 0, .slice none 0 0, .int .i64 0, .int .i64 0, .slice none 0 0], .agg #[.int .i64 0, .int .i64 0, .slice none 0 0], .agg #[.int .i64 0, .int .i64 0, .slice none 0 0]], []⟩).memory Tryd.f6.params.toList Rows.printerPartsSpec.vars false (#[.agg #[.int .i64 0, .int .i64 0, .int .i64 0, .int .i64 0, .int .i64 0, .int .i64 0, .int .i64 0, .int .i64 0, .int .i64 0, .int .i64 0, .int .i64 0, .int .i64 0, .slice none 0 0, .int .i64 0, .int .i64 0, .slice none 0 0], .agg #[.int .i64 0, .int .i64 0, .slice none 0 0], .agg #[.int .i64 0, .int .i64 0, .slice none 0 0]] : Array Value).toList 8 = some ([.agg [.lit (.int .i64 0), .lit (.int .i64 0), .lit (.int .i64 0), .agg [.lit (.int .i64 0), .lit (.int .i64 0)], .lit (.int .i64 0), .lit (.int .i64 0), .lit (.int .i64 0), .agg [.lit (.int .i64 0), .lit (.int .i64 0)], .agg [.lit (.int .i64 0), .lit (.int .i64 0), .nil], .agg [.lit (.int .i64 0), .lit (.int .i64 0), .nil]], .agg [.lit (.int .i64 0), .lit (.int .i64 0), .nil], .agg [.lit (.int .i64 0), .lit (.int .i64 0), .nil]], [], places) :=
  ⟨[], by kernel_rfl⟩
set_option maxRecDepth 100000 in
theorem liftedParts (os : Os) (started : os.Started) (H : Type) (enc : TypeId × Value → H) (F : Stop.Interp) :
    ReturnsInHanded {} Tryd.checked os 6 .any ((OpenSpec.ofChange Rows.printerPartsSpec).preRow enc Tryd.prog Tryd.f6 Rows.printerPartsRow.domain false Rows.printerPartsRow.laid) (((OpenSpec.ofChange Rows.printerPartsSpec).at F).post enc Tryd.prog Tryd.f6 false true false false) := by
  obtain ⟨places, hx⟩ := readsParts os enc
  refine returnsInHanded_of_row (C := Tryd.checked) (s := OpenSpec.ofChange Rows.printerPartsSpec) ownD started (by kernel_rfl) Tryd.func6
    (witness_row_at (enc := enc) (C := Tryd.checked) false (prnWorld os) #[.agg #[.int .i64 0, .int .i64 0, .int .i64 0, .int .i64 0, .int .i64 0, .int .i64 0, .int .i64 0, .int .i64 0, .int .i64 0, .int .i64 0, .int .i64 0, .int .i64 0, .slice none 0 0, .int .i64 0, .int .i64 0, .slice none 0 0], .agg #[.int .i64 0, .int .i64 0, .slice none 0 0], .agg #[.int .i64 0, .int .i64 0, .slice none 0 0]] rfl (by kernel_rfl) (by kernel_rfl) (by kernel_rfl)
      (OpenSpec.preRow_of_cond 8 hx (by kernel_rfl) (fun k hk => by cases hk) (by kernel_rfl) (prn_met os _))) ?_
  intro W base args ds gs before hval hW _ _ _ hL hsh _
  exact contractParts H enc W base args ds gs before hval hW hL hsh
theorem printerParts_said : Rows.PrinterPartsSaid :=
  OpenClaim.holds_of_cond 6 Tryd.f6 rfl rfl rfl rfl rfl rfl rfl ⟨rfl, rfl, rfl, rfl, rfl⟩ rfl rfl rfl rfl rfl (by kernel_rfl) Tryd.func6 (by kernel_rfl)
    (of_decide_eq_true (by kernel_rfl)) (by unfold Func.isWrapper; first | (rw [if_pos (by decide +kernel)]; kernel_rfl) | (rw [if_neg (by decide +kernel)]; exact ⟨rfl, rfl⟩))
    (fun os started H enc _ F => by rw [OpenClaim.pre_eq_preRow]; exact liftedParts os started H enc F)
theorem plainParts (f : FuncId) (fn : Func) (hf : Tryd.pinned.checked.prog.funcNamed "innkeeper/innkeeperlaw09.PrinterParts" = some f) (hfn : Tryd.pinned.checked.prog.funcs[f]? = some fn) :
    false = Tryd.pinned.checked.prog.looks [] ∧ ∀ (j : Nat) t, fn.params[j]? = some t → Tryd.pinned.checked.prog.wantsStandIn t = false := by
  obtain rfl : f = 6 := Option.some.inj ((show Tryd.prog.funcNamed "innkeeper/innkeeperlaw09.PrinterParts" = some 6 by kernel_rfl).symm.trans hf) |>.symm
  obtain rfl : fn = Tryd.f6 := (Option.some.inj (Tryd.func6.symm.trans hfn)).symm
  refine ⟨by kernel_rfl, fun j t ht => ?_⟩
  rw [Tryd.params6] at ht
  have hm := Array.mem_of_getElem? ht
  simp only [List.mem_toArray, List.mem_cons, List.not_mem_nil, or_false] at hm
  rcases hm with rfl | rfl | rfl <;> (show Tryd.prog.wantsStandIn _ = false; kernel_rfl)
/-- The given statement. -/
theorem printerParts_card : Rows.PrinterPartsCardSaid :=
  Claim7.holds_tied_plain_at .later [] _ _ _ _ printerParts_said (fun _ h => by cases h) (by kernel_rfl) (fun _ h => by cases h) printerParts_row_tie rfl ⟨rfl, rfl⟩ (by kernel_rfl) rfl plainParts (by kernel_rfl)
end Go.Proofs.YtlkefcbkpohpgaaDoor
