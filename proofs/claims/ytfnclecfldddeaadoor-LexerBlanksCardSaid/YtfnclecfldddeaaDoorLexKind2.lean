/-
  The walks of the closures of the kinds.
-/
import Derived.Test.YtfnclecfldddeaaDoorLexKind
namespace Go.Proofs.YtfnclecfldddeaaDoor
open Go.RowKit Go.Shelf
set_option maxRecDepth 100000

theorem bapp (a b : List UInt8) : (⟨a.toArray⟩ : ByteArray) ++ ⟨b.toArray⟩ = ⟨(a ++ b).toArray⟩ := by
  apply ByteArray.ext
  rw [ByteArray.data_append]
  simp
theorem cut_len (s : List UInt8) : (cutA s).length ≤ s.length ∧ (cutB s).length ≤ s.length := by
  unfold cutA cutB Lib.cut
  split
  · simp only [List.length_take, List.length_drop]; omega
  · simp
theorem kind1_any (t : List UInt8) (ht : t.length ≤ 1000000) (w : World) : Calls Tryd.prog 39 #[.string ⟨t.toArray⟩] w (Ret (.bool (nameB t)) w) := by
  cases t with
  | nil =>
    go_enter Tryd.func39, Tryd.ntmps39
    go_wp2_with fail
    go_ret
    exact Ret.mk rfl (Below.refl _ _)
  | cons c r =>
  have hz := bsz (c :: r)
  have hrun := run_letter (c :: r) (by omega)
  have hname : nameB (c :: r) = decide (nLet (c :: r) = (c :: r).length) := by unfold nameB; simp
  have hle : nLet (c :: r) ≤ (c :: r).length := tw_len _
  rw [hname]
  clear hname
  have hne : (⟨(c :: r).toArray⟩ : ByteArray).toList = c :: r := by rw [Lib.toList_data]
  obtain ⟨S, hS⟩ : ∃ S, (⟨(c :: r).toArray⟩ : ByteArray) = S := ⟨_, rfl⟩
  simp only [hS] at *
  obtain ⟨m, hm⟩ : ∃ m, nLet (c :: r) = m := ⟨_, rfl⟩
  simp only [hm] at *
  obtain ⟨n, hn⟩ : ∃ n, (c :: r).length = n := ⟨_, rfl⟩
  rw [hn] at hz hle ht ⊢
  have hE : S.toList.isEmpty = false := by rw [hne]; rfl
  have hE2 : (!S.toList.isEmpty) = true := by rw [hE]; rfl
  clear hS hm hne hn
  by_cases h : m = n
  · subst h
    go_enter Tryd.func39, Tryd.ntmps39
    go_wp2_with fail
    refine (hrun _).mono ?_
    rintro e w1 ⟨rfl, hx⟩
    go_wp2_with fail
    go_ret
    exact Ret.mk (by simp) hx
  · have h' : (((m : Nat) : Int) == ((n : Nat) : Int)) = false := by rw [beq_eq_false_iff_ne]; omega
    go_enter Tryd.func39, Tryd.ntmps39
    go_wp2_with fail
    refine (hrun _).mono ?_
    rintro e w1 ⟨rfl, hx⟩
    go_wp2_with fail
    go_ret
    exact Ret.mk (by simp [h]) hx
theorem kind3_any (t : List UInt8) (ht : t.length ≤ 1000000) (w : World) : Calls Tryd.prog 45 #[.string ⟨t.toArray⟩] w (Ret (.bool (sigB t)) w) := by
  have hz := bsz t
  by_cases h1 : t.length = 1
  · obtain ⟨c, rfl⟩ := List.length_eq_one_iff.1 h1
    have hcall := contains_any c
    have hs : sigB [c] = sgnB c := rfl
    rw [hs]
    clear hs h1
    go_enter Tryd.func45, Tryd.ntmps45
    go_wp2_with fail
    refine (hcall _).mono ?_
    rintro e w1 ⟨rfl, rfl⟩
    go_wp2_with fail
    go_ret
    exact Ret.mk rfl (Below.refl _ _)
  · have hs : sigB t = false := by
      unfold sigB
      split
      · simp at h1
      · rfl
    have h' : (((t.length : Nat) : Int) == 1) = false := by rw [beq_eq_false_iff_ne]; omega
    rw [hs]
    obtain ⟨n, hn⟩ : ∃ n, t.length = n := ⟨_, rfl⟩
    rw [hn] at hz h'
    clear hs hn h1
    obtain ⟨S, hS⟩ : ∃ S, (⟨t.toArray⟩ : ByteArray) = S := ⟨_, rfl⟩
    rw [hS] at hz ⊢
    clear hS
    go_enter Tryd.func45, Tryd.ntmps45
    go_wp2_with fail
    go_ret
    exact Ret.mk rfl (Below.refl _ _)
theorem kind2_any (t : List UInt8) (ht : t.length ≤ 400000) (w : World) (hL : Lay w) : Calls Tryd.prog 42 #[.string ⟨t.toArray⟩] w (Ret (.bool (mnyB t)) w) := by
  obtain ⟨k1, k2⟩ := cut_len t
  have hcut := cut_any t (by omega) w hL
  have hap := bapp (cutA t) (cutB t)
  have hzB := bsz (cutB t)
  have hzA : (⟨(cutA t).toArray⟩ : ByteArray).size ≤ 400000 := by rw [bsz]; omega
  have hmB : (cutB t).length ≤ 400000 := by omega
  have hN := fun w => isNumber_any (cutA t) (by omega) w
  have hA := fun w hL => isAmount_any (cutA t ++ cutB t) (by simp; omega) w hL
  have hm : mnyB t = (numB (cutA t) && decide ((cutB t).length = 2) && amtB (cutA t ++ cutB t)) := rfl
  obtain ⟨C, hC⟩ : ∃ C, (⟨(cutA t ++ cutB t).toArray⟩ : ByteArray) = C := ⟨_, rfl⟩
  obtain ⟨A, hA'⟩ : ∃ A, (⟨(cutA t).toArray⟩ : ByteArray) = A := ⟨_, rfl⟩
  obtain ⟨B, hB'⟩ : ∃ B, (⟨(cutB t).toArray⟩ : ByteArray) = B := ⟨_, rfl⟩
  simp only [hC, hA', hB'] at *
  obtain ⟨m, hm2⟩ : ∃ m, (cutB t).length = m := ⟨_, rfl⟩
  rw [hm2] at hm hzB hmB
  rw [hm]
  clear hC hA' hB' hm hm2 k1 k2 ht
  generalize amtB (cutA t ++ cutB t) = z at *
  generalize numB (cutA t) = x at *
  generalize (Lib.cut t [46]).2.2 = q at *
  cases x with
  | false =>
    clear hA
    go_enter Tryd.func42, Tryd.ntmps42
    go_wp2_with fail
    refine hcut.mono ?_
    rintro e w1 ⟨rfl, hx⟩
    go_wp2_with fail
    refine (hN _).mono ?_
    rintro e w2 ⟨rfl, hx2⟩
    go_wp2_with fail
    go_ret
    exact Ret.mk (by simp) (hx.trans (hx2.mono hx.size))
  | true =>
    by_cases h2 : m = 2
    · subst h2
      have H : Hid ((true && decide (2 = 2) && z) = z) := Lib.hid (by simp)
      rw [H.out]
      go_enter Tryd.func42, Tryd.ntmps42
      go_wp2_with fail
      refine hcut.mono ?_
      rintro e w1 ⟨rfl, hx⟩
      go_wp2_with fail
      refine (hN _).mono ?_
      rintro e w2 ⟨rfl, hx2⟩
      have hb := hx.trans (hx2.mono hx.size)
      have hL2 := hL.below hb
      go_wp2_with fail
      refine (hA _ hL2).mono ?_
      rintro e w3 ⟨rfl, hx3⟩
      go_wp2_with fail
      go_ret
      exact Ret.mk rfl (hb.trans (hx3.mono hb.size))
    · have h2' : (((m : Nat) : Int) == 2) = false := by rw [beq_eq_false_iff_ne]; omega
      have H : Hid ((true && decide (m = 2) && z) = false) := Lib.hid (by simp [h2])
      rw [H.out]
      clear hA
      go_enter Tryd.func42, Tryd.ntmps42
      go_wp2_with fail
      refine hcut.mono ?_
      rintro e w1 ⟨rfl, hx⟩
      go_wp2_with fail
      refine (hN _).mono ?_
      rintro e w2 ⟨rfl, hx2⟩
      go_wp2_with fail
      go_ret
      exact Ret.mk rfl (hx.trans (hx2.mono hx.size))
end Go.Proofs.YtfnclecfldddeaaDoor
