/-
  Infer; numbers that rise; a rate that is well-formed, and one that can be used.
-/
import Derived.Test.YtbkcpcjdpfndpaaTypAtt
import Derived.Test.YtbkcpcjdpfndpaaRatioC
import Derived.Shelf.SlSorted.IsSorted
import Derived.Shelf.SlGeneric
import Derived.Ground.SlsoProg
namespace Go.Proofs.Ytbkcpcjdpfndpaa
open Go.RowKit Go.Shelf
set_option maxRecDepth 100000
def Try.isSortedT_ren : Go.Shelf.Ren := ⟨fun | 10 => 48 | 18 => 56 | 24 => 59 | n => n, fun | 22 => 63 | 24 => 3 | 4 => 4 | 3 => 3 | 0 => 0 | n => n, fun | n => n⟩
theorem Try.isSortedT : Go.Proofs.SlLaysO.n10 Try.prog Try.isSortedT_ren := {
  mixed := by kernel_rfl
  f10 := ⟨Try.f48.name, by decide, Try.func48.trans (congrArg some (by kernel_rfl))⟩
  f18 := ⟨Try.f56.name, by decide, Try.func56.trans (congrArg some (by kernel_rfl))⟩
  f24 := ⟨Try.f59.name, by decide, Try.func59.trans (congrArg some (by kernel_rfl))⟩
  t0 := Try.underlying0
  a0 := Try.isAgg0
  z0 := Try.sizeOf0
  v0 := Try.zeroValue0
  t3 := Try.underlying3
  a3 := Try.isAgg3
  z3 := Try.sizeOf3
  v3 := Try.zeroValue3
  t4 := Try.underlying4
  a4 := Try.isAgg4
  z4 := Try.sizeOf4
  v4 := Try.zeroValue4
  t22 := Try.underlying63
  a22 := Try.isAgg63
  z22 := Try.sizeOf63
  v22 := Try.zeroValue63
  t24 := Try.underlying3
  a24 := Try.isAgg3
  z24 := Try.sizeOf3
  v24 := Try.zeroValue3 }

set_option maxHeartbeats 1600000 in
theorem tinfer_any {Q : Nat → Prop} (x : Xp) (v : Value) (w : World) (ht : Tree Q w x v) : Calls Try.prog 11 #[v] w (Ret (.tuple #[.int .i64 (inferT x), .int .i64 (inferE x)]) w) := by
  have hv := fun w1 h => pvalid_any x v w1 (Tree.below ht (w' := w1) h)
  obtain ⟨ad, cap, rfl, -, -⟩ := ht.shape
  have ht2 := fun w1 h => Tree.below ht (w' := w1) h
  have o2 := Own.new w #[.int .i64 x.o, .int .i64 x.n, .slice ad x.ks.length cap] 24
  cases hb : validF x with
  | false =>
    rw [hb] at hv
    have HI : Hid (inferT x = 0 ∧ inferE x = 1) := Lib.hid ⟨by unfold inferT; rw [hb]; rfl, by unfold inferE; rw [hb]; rfl⟩
    clear hb ht2 ht
    go_enter Try.func11, Try.ntmps11
    go_wp2_with fail
    refine (hv _ (by (repeat (first | exact Below.refl _ _ | assumption | refine Below.drew ?_ | refine below_drewN ?_ _ | refine Below.setCell ?_ (by first | omega | (simp <;> omega)) _ | refine Below.alloc ?_ (by first | omega | (simp <;> omega)) _)))).mono ?_
    rintro e w1 ⟨rfl, hb1⟩
    go_wp2_with fail
    go_ret2
    exact Ret.mk (by rw [HI.out.1, HI.out.2]; rfl) (Below.trans (by (repeat (first | exact Below.refl _ _ | assumption | refine Below.drew ?_ | refine below_drewN ?_ _ | refine Below.setCell ?_ (by first | omega | (simp <;> omega)) _ | refine Below.alloc ?_ (by first | omega | (simp <;> omega)) _))) (hb1.mono (by simp)))
  | true =>
    rw [hb] at hv
    have hok : okE x = true := by
      unfold validF at hb
      simp only [Bool.and_eq_true] at hb
      exact hb.1.1
    have HI : Hid (inferT x = typE x ∧ inferE x = if typE x = 0 then 20 else 0) := Lib.hid ⟨by unfold inferT; rw [if_pos hb], by unfold inferE; rw [if_pos hb]⟩
    have HA := fun w1 h => tattempt_any x _ w1 hok (ht2 w1 h)
    clear hb ht2 ht hok
    go_enter Try.func11, Try.ntmps11
    go_wp2_with fail
    refine (hv _ (by (repeat (first | exact Below.refl _ _ | assumption | refine Below.drew ?_ | refine below_drewN ?_ _ | refine Below.setCell ?_ (by first | omega | (simp <;> omega)) _ | refine Below.alloc ?_ (by first | omega | (simp <;> omega)) _)))).mono ?_
    rintro e w1 ⟨rfl, hb1⟩
    have hb2 : Below w.heap.size w w1 := Below.trans (by (repeat (first | exact Below.refl _ _ | assumption | refine Below.drew ?_ | refine below_drewN ?_ _ | refine Below.setCell ?_ (by first | omega | (simp <;> omega)) _ | refine Below.alloc ?_ (by first | omega | (simp <;> omega)) _))) (hb1.mono (by simp))
    obtain ⟨c0, c1, c2, -, -, -, hz⟩ := (o2.below hb1).three
    clear hb1
    go_wp2_with fail
    refine (HA _ hb2).mono ?_
    rintro e w2 ⟨rfl, hb3⟩
    clear c0 c1 c2
    generalize hR : (if typE x = 0 then (20 : Int) else 0) = R at HI ⊢
    have HR := Lib.hid hR
    clear hR
    go_wp2_with fail
    go_ret2
    exact Ret.mk (by rw [HI.out.1, HI.out.2]; rfl) (hb2.trans (hb3.mono hb2.size))
set_option maxHeartbeats 1600000 in
theorem thas_any {Q : Nat → Prop} (x : Xp) (t : Int) (v : Value) (w : World) (ht : Tree Q w x v) : Calls Try.prog 27 #[v, .int .i64 t] w (Ret (.bool (inferT x == t)) w) := by
  have hv := fun w1 h => tinfer_any x v w1 (Tree.below ht (w' := w1) h)
  obtain ⟨ad, cap, rfl, -, -⟩ := ht.shape
  generalize inferT x = a at *
  generalize inferE x = b at *
  go_enter Try.func27, Try.ntmps27
  go_wp2_with fail
  refine (hv _ (by (repeat (first | exact Below.refl _ _ | assumption | refine Below.drew ?_ | refine below_drewN ?_ _ | refine Below.setCell ?_ (by first | omega | (simp <;> omega)) _ | refine Below.alloc ?_ (by first | omega | (simp <;> omega)) _)))).mono ?_
  rintro e w1 ⟨rfl, hb1⟩
  go_wp2_with fail
  go_ret
  exact Ret.mk rfl (Below.trans (by (repeat (first | exact Below.refl _ _ | assumption | refine Below.drew ?_ | refine below_drewN ?_ _ | refine Below.setCell ?_ (by first | omega | (simp <;> omega)) _ | refine Below.alloc ?_ (by first | omega | (simp <;> omega)) _))) (hb1.mono (by simp)))
theorem sorted_any (g cap : Nat) (l : List Int) (hl : l.length ≤ 10) (w : World) (ho : Own w g (l.map (fun a => .int .i64 a))) : Calls Try.prog 48 #[.slice (some ⟨g, 0, none⟩) l.length cap] w (Ret (.bool (Lib.downOK (fun x y => decide (x < y)) l.toArray (l.toArray.size - 1))) w) := by
  have h := AnyO.slices_IsSorted_int Try.isSortedT g 0 cap l.toArray w (fun i hi => by
    have hi' : i < l.length := by simpa using hi
    rw [Nat.zero_add]
    refine ho.cell i _ ?_
    rw [List.getElem?_map, List.getElem?_eq_getElem hi']
    simp [hi']) (by simp; omega)
  change Calls Try.prog 48 _ _ _ at h
  rw [show l.toArray.size = l.length by simp] at h ⊢
  exact h.mono fun e w' ⟨he, q, hq⟩ => ⟨he, by rw [hq]; exact below_drewN (Below.refl _ _) q⟩
theorem rising3 {g : Nat} (a b c : Int) (w : World) (ho : Own w g [.int .i64 a, .int .i64 b, .int .i64 c]) (t : Bool) (hT : t = (decide (a ≤ b) && decide (b ≤ c))) : Calls Try.prog 35 #[.slice (some ⟨g, 0, none⟩) 3 3] w (Ret (.bool t) w) := by
  have h := sorted_any g 3 [a, b, c] (by simp) w ho
  have HT : Hid (Lib.downOK (fun x y => decide (x < y)) [a, b, c].toArray ([a, b, c].toArray.size - 1) = t) := Lib.hid (by
    subst hT
    rw [Bool.eq_iff_iff, Lib.downOK_iff]
    simp only [Bool.and_eq_true, decide_eq_true_eq]
    constructor
    · intro h
      have h0 := h 0 (by simp)
      have h1 := h 1 (by simp)
      simp at h0 h1
      exact ⟨h0, h1⟩
    · rintro ⟨h0, h1⟩ i hi
      have hi2 : i = 0 ∨ i = 1 := by simp at hi; omega
      rcases hi2 with rfl | rfl
      · simpa using h0
      · simpa using h1)
  rw [HT.out] at h
  clear hT
  go_enter Try.func35, Try.ntmps35
  go_wp2_with fail
  refine h.mono ?_
  rintro e w1 ⟨rfl, hb1⟩
  go_wp2_with fail
  go_ret
  exact Ret.mk rfl hb1
theorem rising4 {g : Nat} (a b c d : Int) (w : World) (ho : Own w g [.int .i64 a, .int .i64 b, .int .i64 c, .int .i64 d]) (t : Bool) (hT : t = (decide (a ≤ b) && decide (b ≤ c) && decide (c ≤ d))) : Calls Try.prog 35 #[.slice (some ⟨g, 0, none⟩) 4 4] w (Ret (.bool t) w) := by
  have h := sorted_any g 4 [a, b, c, d] (by simp) w ho
  have HT : Hid (Lib.downOK (fun x y => decide (x < y)) [a, b, c, d].toArray ([a, b, c, d].toArray.size - 1) = t) := Lib.hid (by
    subst hT
    rw [Bool.eq_iff_iff, Lib.downOK_iff]
    simp only [Bool.and_eq_true, decide_eq_true_eq]
    constructor
    · intro h
      have h0 := h 0 (by simp)
      have h1 := h 1 (by simp)
      have h2 := h 2 (by simp)
      simp at h0 h1 h2
      exact ⟨⟨h0, h1⟩, h2⟩
    · rintro ⟨⟨h0, h1⟩, h2⟩ i hi
      have hi2 : i = 0 ∨ i = 1 ∨ i = 2 := by simp at hi; omega
      rcases hi2 with rfl | rfl | rfl
      · simpa using h0
      · simpa using h1
      · simpa using h2)
  rw [HT.out] at h
  clear hT
  go_enter Try.func35, Try.ntmps35
  go_wp2_with fail
  refine h.mono ?_
  rintro e w1 ⟨rfl, hb1⟩
  go_wp2_with fail
  go_ret
  exact Ret.mk rfl hb1
end Go.Proofs.Ytbkcpcjdpfndpaa
