/-
  The law OneByte: its walk.
-/
import Derived.Test.YtgagdljmanmjnaaDoorDigMath
namespace Go.Proofs.YtgagdljmanmjnaaDoor
open Go.RowKit Go.Shelf

theorem bits_xor_u8 (x y : UInt8) : bits .xor .u8 (x.toNat : Int) (y.toNat : Int) = ((x ^^^ y).toNat : Int) := by
  have hx : x.toNat ^^^ y.toNat < 2 ^ 8 := Nat.xor_lt_two_pow x.toNat_lt y.toNat_lt
  have h1 : (BitVec.ofInt 8 (x.toNat : Int)).toNat = x.toNat := by
    rw [BitVec.ofInt_natCast, BitVec.toNat_ofNat]; exact Nat.mod_eq_of_lt x.toNat_lt
  have h2 : (BitVec.ofInt 8 (y.toNat : Int)).toNat = y.toNat := by
    rw [BitVec.ofInt_natCast, BitVec.toNat_ofNat]; exact Nat.mod_eq_of_lt y.toNat_lt
  show IntKind.u8.wrap ((BitVec.ofInt 8 (x.toNat : Int) ^^^ BitVec.ofInt 8 (y.toNat : Int)).toNat : Int) = _
  rw [BitVec.toNat_xor, h1, h2, UInt8.toNat_xor]
  rw [IntKind.wrap_u8]
  omega
theorem xor_self_iff (x y : UInt8) : (x = x ^^^ y) ↔ y = 0 := by
  constructor
  · intro h
    have h2 : x ^^^ x = x ^^^ (x ^^^ y) := by rw [← h]
    rw [UInt8.xor_self, ← UInt8.xor_assoc, UInt8.xor_self, UInt8.zero_xor] at h2
    exact h2.symm
  · rintro rfl; simp

set_option maxRecDepth 100000 in
set_option maxHeartbeats 8000000 in
theorem walkDigestOneByte (v0 : Value) (l0 : List UInt8) (n1 : Nat) (hn1 : n1 < 65536) (n2 : Nat) (hn2 : n2 < 256) (w : World) (hT : Tab w) (h0 : Bytes w v0 l0)   : Calls Tryd.prog 4 #[v0, .int .u16 n1, .int .u8 n2] w (Ret (.bool true) w) := by
  have hb := Below.refl w.heap.size w
  obtain ⟨ad0, cap0, hv0⟩ := h0.shape
  rw [List.length_map] at hv0
  subst hv0
  have hs0 := h0.short
  simp only [List.length_map] at hs0
  by_cases c0 : l0.length = 0
  · go_enter Tryd.func4, Tryd.ntmps4
    go_wp2_with fail
    refine (head_any w hT).mono ?_
    rintro e w1 ⟨rfl, hx⟩
    replace hT := hT.below hx
    replace h0 := h0.below hx
    replace hb := hb.trans (hx.mono hb.size)
    clear hx
    go_wp2_with fail
    go_ret
    exact Ret.mk rfl hb
  by_cases c1 : 500 < l0.length
  · go_enter Tryd.func4, Tryd.ntmps4
    go_wp2_with fail
    refine (head_any w hT).mono ?_
    rintro e w1 ⟨rfl, hx⟩
    replace hT := hT.below hx
    replace h0 := h0.below hx
    replace hb := hb.trans (hx.mono hb.size)
    clear hx
    go_wp2_with fail
    go_ret
    exact Ret.mk rfl hb
  have hk : n1 % l0.length < l0.length := Nat.mod_lt _ (by omega)
  have q0 : ((l0.length : Int) == 0) = false := by rw [beq_eq_false_iff_ne]; omega
  have q1 : decide (500 < (l0.length : Int)) = false := by simp; omega
  obtain ⟨y, rfl⟩ : ∃ y : UInt8, n2 = y.toNat := ⟨UInt8.ofNat n2, by simp; omega⟩
  go_enter Tryd.func4, Tryd.ntmps4
  go_wp2_with fail
  refine (head_any w (hT.below hb)).mono ?_
  rintro e w1 ⟨rfl, hx⟩
  replace hb := hb.trans (hx.mono hb.size)
  clear hx
  have hown := OwnRow.new w1 w.heap.size hb.size 5 [] (by simp)
  have hr0 : Row (w1.alloc (.cells #[] 5)) _ _ := (h0.below hb).below ((Below.refl _ w1).alloc (Nat.le_refl _) _)
  go_wp2_with (at_builtin; go_loud (refine app_row _ rfl _ _ 22 rfl w.heap.size 5 (.int .u8 0) 1 Tryd.underlying22 Tryd.infoU8 rfl (by decide) _ [] rfl hown _ (l0.map vB) rfl hr0 byte_one (by simp; omega) (by have := hb.size; simp; omega) ?_; intro v2 w2 hown2 hx2; refine Hid.out ?_))
  have hb2 : Below w.heap.size w w2 := (hb.alloc hb.size _).trans hx2
  clear hr0 hown hx2 hb
  rw [List.nil_append] at hown2
  obtain ⟨hlen2, ⟨_, hz⟩ | ⟨g, cap', cur, rfl, hgB, hh, hcap, hmax, hcs, hct⟩⟩ := hown2
  · rw [List.length_map] at hz; omega
  have hcell : w2.cell? ⟨g, n1 % l0.length, none⟩ = some (.int .u8 (l0[n1 % l0.length].toNat : Int)) := by
    have h2 : (cur.toList.take ((l0.map vB).length * 1))[n1 % l0.length]? = some (vB l0[n1 % l0.length]) := by rw [hct]; simp [hk]
    rw [List.getElem?_take] at h2
    split at h2
    · simpa [World.cell?, hh, vB] using h2
    · cases h2
  have hfro : w2.frozen? ⟨g, n1 % l0.length, none⟩ = false := by simp [World.frozen?, hh]
  simp only [List.length_map] at hcs hct hcap ⊢
  have hgl : g < w2.heap.size := (Array.getElem?_eq_some_iff.1 hh).1
  have hxor := bits_xor_u8 l0[n1 % l0.length] y
  have hset := fnv_set fnv0 l0 (n1 % l0.length) hk (l0[n1 % l0.length] ^^^ y)
  rw [xor_self_iff] at hset
  refine Lib.hid ?_
  go_wp2_with fail
  rw [← UInt8.toNat_xor]
  have hb3 : Below w.heap.size w (w2.setCell ⟨g, n1 % l0.length, none⟩ (.int .u8 ((l0[n1 % l0.length] ^^^ y).toNat : Int))) := Below.setCell (p := ⟨g, n1 % l0.length, none⟩) hb2 hgB _
  have how : OwnRow (w2.setCell ⟨g, n1 % l0.length, none⟩ (.int .u8 ((l0[n1 % l0.length] ^^^ y).toNat : Int))) w.heap.size 5 (.slice (some ⟨g, 0, none⟩) l0.length cap') ((l0.set (n1 % l0.length) (l0[n1 % l0.length] ^^^ y)).map vB) := by
    refine ⟨by simp, .inr ⟨g, cap', cur.setIfInBounds (n1 % l0.length) (.int .u8 ((l0[n1 % l0.length] ^^^ y).toNat : Int)), by simp, hgB, heap_setCell_same _ _ _ _ _ _ hh, by simpa using hcap, hmax, by simpa using hcs, ?_⟩⟩
    rw [Array.toList_setIfInBounds, List.take_set]
    simp only [List.length_map, List.length_set] at hct ⊢
    rw [hct, List.map_set]; rfl
  have hc3 := bytes_of_own how (by simp; omega)
  clear how hh hct hcs hcap hmax hcell hfro hb2 hxor
  generalize w2.setCell ⟨g, n1 % l0.length, none⟩ (.int .u8 ((l0[n1 % l0.length] ^^^ y).toNat : Int)) = w3 at hb3 hc3 ⊢
  generalize l0.set (n1 % l0.length) (l0[n1 % l0.length] ^^^ y) = m at hset hc3
  refine (sum_any _ _ _ (h0.below hb3)).mono ?_
  rintro e w4 ⟨rfl, hx⟩
  replace hc3 := hc3.below hx
  replace hb3 := hb3.trans (hx.mono hb3.size)
  clear hx
  unfold vD
  obtain ⟨s1, hs1⟩ : ∃ s : Int, s = ((fnv fnv0 l0).toNat : Int) := ⟨_, rfl⟩
  obtain ⟨s2, hs2⟩ : ∃ s : Int, s = ((fnv fnv0 m).toNat : Int) := ⟨_, rfl⟩
  rw [← hs1]
  have q2 : (s1 == s2) = ((y.toNat : Int) == 0) := by
    rw [Bool.eq_iff_iff, beq_iff_eq, beq_iff_eq, hs1, hs2]
    constructor
    · intro h; have := hset.1 (UInt64.toNat.inj (by omega)); rw [this]; rfl
    · intro h; rw [hset.2 (UInt8.toNat.inj (by simpa using h))]
  have hn := show Calls Tryd.prog _ _ _ (Ret (.int .u64 s2) w4) from by rw [hs2]; exact sum_any _ _ _ hc3
  clear hs1 hs2
  go_wp2_with fail
  refine hn.mono ?_
  rintro e w5 ⟨rfl, hx⟩
  replace hb3 := hb3.trans (hx.mono hb3.size)
  clear hx
  go_wp2_with fail
  go_ret
  exact Ret.mk (by simp) hb3
end Go.Proofs.YtgagdljmanmjnaaDoor
