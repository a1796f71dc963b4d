/-
  The reference: two integers and a list; the challenge; Back, Sign, Verify.
-/
import Derived.Test.YtgljelkjfipefaaDoorSignE
import Derived.Test.YtgljelkjfipefaaDoorSignR
namespace Go.Proofs.YtgljelkjfipefaaDoor
open Go.RowKit Go.Shelf

set_option maxHeartbeats 2000000 in
theorem after_any (a b : Int) (ha : I64 a) (hb : I64 b) (v : Value) (l : List Int) (w : World) (h : Ints w v l) (hlen : l.length ≤ 100000) : Calls Tryd.prog 31 #[.int .i64 a, .int .i64 b, v] w fun e w' => ∃ v', e = .returned v' ∧ Ints w' v' (a :: b :: l) ∧ Below w.heap.size w w' := by
  have hb0 : Below w.heap.size w (w.alloc (.cells #[.int .i64 a, .int .i64 b] 3)) := (Below.refl _ w).alloc (Nat.le_refl _) _
  have hown := OwnRow.new w w.heap.size (Nat.le_refl _) 3 [.int .i64 a, .int .i64 b] (by simp)
  have hall : ∀ x ∈ a :: b :: l, I64 x := by
    intro x hx
    rcases List.mem_cons.1 hx with rfl | hx
    · exact ha
    · rcases List.mem_cons.1 hx with rfl | hx
      · exact hb
      · exact h.2 x hx
  obtain ⟨hrow, hi64⟩ := h
  obtain ⟨ad, cap, rfl⟩ := hrow.shape
  have hcell := hrow.cells _ _ _ rfl
  simp only [List.length_map] at hcell ⊢
  go_enter Tryd.func31, Tryd.ntmps31
  go_wp2_with fail
  go_loopw [7, 8] (fun vo i wr => ∃ k : Nat, k ≤ l.length ∧ i = .int .i64 k ∧ OwnRow wr w.heap.size 3 vo ((a :: b :: l.take k).map (.int .i64)) ∧ Below w.heap.size w wr)
    (fun _ i _ => l.length - (intOf i).toNat)
  case atStart => exact ⟨0, by omega, rfl, hown, hb0⟩
  case round =>
    clear hown hb0
    obtain ⟨k, hk, rfl, hor, hb⟩ := hrel
    by_cases hkl : k < l.length
    · obtain ⟨q, rfl, hab, hc⟩ := hcell k (by simpa using hkl)
      have hr := (hb.cell (p := q.add k) (by rw [blk_add]; exact hab)).trans hc
      rw [List.getElem_map] at hr
      have htk := List.take_succ_eq_append_getElem hkl
      have hbk : Below wr.heap.size wr (wr.alloc (.cells #[.int .i64 l[k]] 3)) := (Below.refl _ wr).alloc (Nat.le_refl _) _
      have ho1 := own_below hor hbk
      have hn1 : Row (wr.alloc (.cells #[.int .i64 l[k]] 3)) _ [.int .i64 l[k]] := Row.of_own (OwnRow.new wr wr.heap.size (Nat.le_refl _) 3 [.int .i64 l[k]] (by simp)) (by simp)
      have hb1 : Below w.heap.size w (wr.alloc (.cells #[.int .i64 l[k]] 3)) := hb.trans (hbk.mono hb.size)
      have htl : ((a :: b :: l.take k).map (Value.int .i64)).length ≤ 100002 := by simp; omega
      generalize hxs : (a :: b :: l.take k).map (Value.int .i64) = xs at *
      generalize l[k] = y at *
      clear hcell hrow
      go_wp2_with (at_builtin; refine app_row _ rfl _ _ 24 rfl w.heap.size 3 (.int .i64 0) 8 Tryd.underlying24 Tryd.infoInt rfl (by decide) _ xs rfl ho1 _ [.int .i64 y] rfl hn1 (by simp [Value.oneCell']) (by simp; omega) (by have := hb.size; simp; omega) ?_; intro v2 w2 hown2 hx2; refine Hid.out ?_)
      have hb2 : Below w.heap.size w w2 := hb1.trans hx2
      have e2 : xs ++ [.int .i64 y] = (a :: b :: (l.take k ++ [y])).map (.int .i64) := by rw [← hxs]; simp
      rw [e2] at hown2
      clear hb1 hx2 hn1 ho1 hbk
      clear e2 hxs
      refine Lib.hid ?_
      go_wp2_with fail
      go_roundw
      case rel => exact ⟨k + 1, by omega, by go_num, by rw [htk]; exact hown2, hb2⟩
      case measure => simp [intOf]; omega
    · go_wp2_with fail
      go_ret
      rw [List.take_of_length_le (by omega)] at hor
      exact ⟨_, rfl, ints_of_own hor (by simp; omega) hall, hb⟩

set_option maxHeartbeats 1000000 in
theorem refChal_any (v : Value) (l : List Int) (w : World) (h : Ints w v l) (hlen : l.length ≤ 1000000) : Calls Tryd.prog 22 #[v] w (Ret (vN (chal l)) w) := by
  have hs := refSum_any (.slice none 0 0) [] w (Row.nil w)
  rw [fnv_nil] at hs
  have hn : ∀ w1, Below w.heap.size w w1 → Calls Tryd.prog 33 #[vD fnv0, v] w1 (Ret (vD (nxt fnv0 l)) w1) := fun w1 hb => refNext_any fnv0 v l w1 ⟨h.1.below hb, h.2⟩ hlen
  obtain ⟨ad, cap, rfl⟩ := h.1.shape
  clear h
  simp only [List.length_map] at hn ⊢
  have hfin : Value.int .i64 ((((nxt fnv0 l).toNat : Int) % 1073741789)) = vN (chal l) := by
    unfold vN chal
    rw [Int.natCast_emod]; rfl
  rw [← hfin]
  clear hfin
  have hd : (nxt fnv0 l).toNat < 18446744073709551616 := (nxt fnv0 l).toNat_lt
  generalize hN : nxt fnv0 l = N at *
  unfold vD at *
  clear hN
  have Hd := Lib.hid hd
  clear hd
  go_enter Tryd.func22, Tryd.ntmps22
  go_wp2_with (first | (go_at_call 33; refine (hn _ hx2).mono ?_; rintro e w3 ⟨rfl, hx3⟩) | (go_at_call 34; refine hs.mono ?_; rintro e w2 ⟨rfl, hx2⟩))
  go_ret
  exact Ret.mk rfl (hx2.trans (hx3.mono hx2.size))

set_option maxHeartbeats 2000000 in
theorem refBack_any (a E S : Int) (h0 : 0 ≤ a) (h1 : a < 2147483579) (bE : 0 ≤ E ∧ E < 1073741789) (bS : 0 ≤ S ∧ S < 1073741789) (w : World) :
    Calls Tryd.prog 23 #[.int .i64 a, .agg #[.int .i64 E, .int .i64 S]] w (Ret (vN (back a E S)) w) := by
  have hbk : pwI 4 S * pwI a (-E % 1073741789) % 2147483579 = (back a E S : Int) := by
    unfold back pwI
    rw [Int.natCast_emod, Int.natCast_mul, sQ_eq, sP_eq, show (-E % 1073741789).toNat = (1073741789 - E.toNat) % 1073741789 by omega]
    rfl
  have hw1 : IntKind.i64.wrap (1073741789 - E) = 1073741789 - E := by rw [IntKind.wrap_i64]; omega
  have l1 := pwI_lo 4 S
  have l2 := pwI_hi 4 S
  have l3 := pwI_lo a (-E % 1073741789)
  have l4 := pwI_hi a (-E % 1073741789)
  have hm1 : 0 ≤ pwI 4 S * pwI a (-E % 1073741789) ∧ pwI 4 S * pwI a (-E % 1073741789) ≤ 2147483579 * 2147483579 :=
    ⟨Int.mul_nonneg l1 l3, Int.mul_le_mul (by omega) (by omega) l3 (by omega)⟩
  have hw2 : IntKind.i64.wrap (pwI 4 S * pwI a (-E % 1073741789)) = pwI 4 S * pwI a (-E % 1073741789) := by rw [IntKind.wrap_i64]; omega
  unfold vN
  rw [← hbk]
  go_enter Tryd.func23, Tryd.ntmps23
  go_wp2_with fail
  refine wp_region_up (by kernel_rfl) (by kernel_rfl) ?_
  repeat (go_big_quiet_step (first | (go_at_call 24; exact Same.up (refPow_int _ _ (by omega) (by omega) (by omega) (by omega) _))))
  refine wpQuiet_nil ?_
  rintro w3 ⟨g, rfl⟩
  go_wp2_with fail
  go_ret
  exact Ret.mk rfl (((Below.refl _ w).alloc (Nat.le_refl _) _).trans ((up_below _ g).mono (by simp)))
end Go.Proofs.YtgljelkjfipefaaDoor
