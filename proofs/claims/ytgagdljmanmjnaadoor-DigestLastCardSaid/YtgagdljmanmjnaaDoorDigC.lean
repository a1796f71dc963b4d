/-
  Next and Chain.
-/
import Derived.Test.YtgagdljmanmjnaaDoorDigRow
namespace Go.Proofs.YtgagdljmanmjnaaDoor
open Go.RowKit

set_option maxHeartbeats 1000000 in
theorem next_any (d : UInt64) (v : Value) (l : List Int) (w : World) (hT : Tab w) (h : Ints w v l) : Calls Tryd.prog 13 #[vD d, v] w (Ret (vD (nxt d l)) w) := by
  have hb1 : Below w.heap.size w (w.alloc (.cells #[vD d] 23)) := (Below.refl _ w).alloc (Nat.le_refl _) _
  have hbox : Below w.heap.size w ((w.alloc (.cells #[vD d] 23)).alloc (.cells #[v] 24)) := hb1.alloc (by simp) _
  have ho1 := ((Own.new w #[vD d] 23).alloc (.cells #[v] 24)).one
  have ho2 := (Own.at (w.alloc (.cells #[vD d] 23)) #[v] 24 (w.heap.size + 1) (by simp)).one
  have hf := overNext _ _ _ (feedNext _ w.heap.size (w.heap.size + 1) d v l (hT.below hbox) ho1.2.2 ho1.1 ho2.2.2 ho2.1 ⟨h.1.below hbox, h.2⟩)
  obtain ⟨ad, cap, rfl⟩ := h.1.shape
  simp only [List.length_map] at hf hbox ⊢
  unfold vD at hf hbox ⊢
  go_enter Tryd.func13, Tryd.ntmps13
  go_wp2_with (go_at_call 19; refine hf.mono ?_; rintro e w2 ⟨rfl, hx⟩)
  go_ret
  exact Ret.mk rfl (hbox.trans (hx.mono hbox.size))

/-- the chain behind a digest -/
def chn (d : UInt64) (l : List (List Int)) : UInt64 := l.foldl (fun d x => nxt d ((x.length : Int) :: x)) d

theorem chn_take (d : UInt64) {l : List (List Int)} {k : Nat} (h : k < l.length) : chn d (l.take (k + 1)) = nxt (chn d (l.take k)) ((l[k].length : Int) :: l[k]) := by
  unfold chn
  rw [List.take_succ_eq_append_getElem h, List.foldl_append, List.foldl_cons, List.foldl_nil]

theorem Lists.below {w w1 : World} {v : Value} {l : List (List Int)} (h : Lists w v l) (hb : Below w.heap.size w w1) : Lists w1 v l := by
  obtain ⟨vs, h1, h2, h3⟩ := h
  exact ⟨vs, h1.below hb, h2, fun i h h2 => ⟨(h3 i h h2).1.below hb, (h3 i h h2).2⟩⟩

theorem int_one {l : List Int} : ∀ u ∈ l.map (Value.int .i64), u.oneCell' = true := by
  intro u hu
  obtain ⟨x, _, rfl⟩ := List.mem_map.1 hu
  rfl
/-- number and integers of a list, laid by the call -/
theorem ints_of_own {w : World} {base : Nat} {v : Value} {l : List Int} (h : OwnRow w base 3 v (l.map (.int .i64))) (hl : l.length ≤ 1000000) (hi : ∀ x ∈ l, I64 x) : Ints w v l :=
  ⟨Row.of_own h (by simp; omega), hi⟩

set_option maxHeartbeats 2000000 in
theorem chain_any (v : Value) (l : List (List Int)) (w : World) (hT : Tab w) (h : Lists w v l) (hlen : l.length ≤ 1000000) (hs : ∀ x ∈ l, x.length ≤ 1000000 - 1) : Calls Tryd.prog 15 #[v] w (Ret (vD (chn fnv0 l)) w) := by
  have hsum := sum_any (.slice none 0 0) [] w (Row.nil w)
  obtain ⟨vs, hrow, hvl, heach⟩ := h
  obtain ⟨ad, cap, rfl⟩ := hrow.shape
  rw [hvl]
  rw [hvl] at hrow
  have hcell := hrow.cells _ _ _ rfl
  go_enter Tryd.func15, Tryd.ntmps15
  go_wp2_with (go_at_call 11; refine hsum.mono ?_; rintro e w1 ⟨rfl, hx1⟩)
  go_loopw [3, 9] (fun d i wr => ∃ k : Nat, k ≤ l.length ∧ i = .int .i64 k ∧ d = vD (chn fnv0 (l.take k)) ∧ Below w.heap.size w wr)
    (fun _ i _ => l.length - (intOf i).toNat)
  case atStart => exact ⟨0, by omega, rfl, rfl, hx1⟩
  case round =>
    obtain ⟨k, hk, rfl, rfl, hb⟩ := hrel
    by_cases hkl : k < l.length
    · have hkv : k < vs.length := by omega
      obtain ⟨q, rfl, hab, hc⟩ := hcell k hkv
      have hr := (hb.cell (p := q.add k) (by rw [blk_add]; exact hab)).trans hc
      have hin := heach k hkv hkl
      have hlk := hs _ (List.getElem_mem hkl)
      obtain ⟨ad2, cap2, hvk⟩ := hin.1.shape
      rw [hvk] at hr hin
      simp only [List.length_map] at hr hin
      have hb1 : Below w.heap.size w (wr.alloc (.cells #[.int .i64 l[k].length] 3)) := hb.alloc hb.size _
      have hown := OwnRow.new wr wr.heap.size (Nat.le_refl _) 3 [.int .i64 l[k].length] (by simp)
      have hin1 : Ints (wr.alloc (.cells #[.int .i64 l[k].length] 3)) _ l[k] := ⟨hin.1.below hb1, hin.2⟩
      have htk := chn_take fnv0 hkl
      generalize hd : chn fnv0 (l.take k) = dk at htk
      generalize hxs : l[k] = xs at *
      have hi2 : ∀ x ∈ ((xs.length : Int) :: xs), I64 x := by
        intro x hx
        rcases List.mem_cons.1 hx with rfl | hx
        · constructor <;> omega
        · exact hin.2 x hx
      have hT1 := hT.below hb1
      clear hin heach hvk hxs
      go_wp2_with (at_builtin; refine app_row _ rfl _ _ 24 rfl wr.heap.size 3 (.int .i64 0) 8 Tryd.underlying24 Tryd.infoInt rfl (by decide) _ [.int .i64 xs.length] rfl hown _ (xs.map (.int .i64)) rfl hin1.1 int_one (by simp; omega) (by simp) ?_; intro v2 w2 hown2 hx2; refine Hid.out ?_)
      have hin2 : Ints w2 v2 ((xs.length : Int) :: xs) := ints_of_own (base := wr.heap.size) hown2 (by simp; omega) hi2
      have hb2 : Below w.heap.size w w2 := hb.trans (((Below.refl _ wr).alloc (Nat.le_refl _) _).trans hx2 |>.mono hb.size)
      have hT2 := hT.below hb2
      have hn := next_any dk v2 _ w2 hT2 hin2
      clear hb1 hown hin1 hT1 hown2 hx2
      refine Lib.hid ?_
      go_wp2_with (go_at_call 13; refine hn.mono ?_; rintro e w3 ⟨rfl, hx3⟩)
      go_roundw
      case rel => exact ⟨k + 1, by omega, by go_num, by rw [htk], hb2.trans (hx3.mono hb2.size)⟩
      case measure => simp [intOf]; omega
    · go_wp2_with fail
      go_ret
      rw [List.take_of_length_le (by omega)]
      exact Ret.mk rfl hb
end Go.Proofs.YtgagdljmanmjnaaDoor
