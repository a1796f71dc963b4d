/-
  The reference: the bytes of a number and the texts of integers; Next; Chain. The law's 'turned'.
-/
import Derived.Test.YtgljelkjfipefaaDoorDigDec
namespace Go.Proofs.YtgljelkjfipefaaDoor
open Go.RowKit Go.Shelf

theorem bytes_of_own {w : World} {base : Nat} {v : Value} {l : List UInt8} (h : OwnRow w base 5 v (l.map vB)) (hl : l.length ≤ 1000000000) : Bytes w v l := Row.of_own h (by simp; omega)
theorem itoa_len (n : Int) (h : I64 n) : (Lib.itoa n).length ≤ 20 := by
  have h1 := h.1
  have h2 := h.2
  have hl := rd_len 19 n.natAbs (by omega)
  by_cases h0 : n = 0
  · subst h0
    have e0 : Lib.itoa 0 = [48] := by rw [Lib.itoa, if_neg (by omega), Lib.decDigits, dif_pos (by decide)]; rfl
    rw [e0]; simp
  · rw [itoa_rd n h0]
    split <;> simp <;> omega
theorem txt_len : ∀ (l : List Int), (∀ x ∈ l, I64 x) → (txt l).length ≤ 21 * l.length
  | [], _ => by simp [txt]
  | x :: l, h => by
    have h1 := itoa_len x (h x (by simp))
    have h2 := txt_len l fun y hy => h y (by simp [hy])
    unfold txt at h2 ⊢
    simp only [List.flatMap_cons, List.length_append, List.length_cons, List.length_nil] at h2 ⊢
    omega

set_option maxHeartbeats 4000000 in
theorem text_any (d : UInt64) (v : Value) (l : List Int) (w : World) (h : Ints w v l) (hlen : l.length ≤ 1000000) : Calls Tryd.prog 39 #[vD d, v] w
    fun e w' => ∃ v', e = .returned v' ∧ OwnRow w' w.heap.size 5 v' ((bytes8 d ++ txt l).map vB) ∧ Below w.heap.size w w' := by
  obtain ⟨hv, hi64⟩ := h
  obtain ⟨ad, cap, rfl⟩ := hv.shape
  have hcell := hv.cells _ _ _ rfl
  clear hv
  simp only [List.length_map] at hcell ⊢
  unfold vD
  have hdn := d.toNat_lt
  go_enter Tryd.func39, Tryd.ntmps39
  go_wp2_with fail
  go_loopw [5, 6] (fun v i wr => ∃ k : Nat, k ≤ 8 ∧ i = .int .i64 k ∧ OwnRow wr w.heap.size 5 v (((bytes8 d).take k).map vB) ∧ Below w.heap.size w wr)
    (fun _ i _ => 8 - (intOf i).toNat)
  case atStart => exact ⟨0, by omega, rfl, OwnRow.nil _ _ _, Below.refl _ _⟩
  case round =>
    obtain ⟨k, hk, rfl, hown, hb⟩ := hrel
    by_cases hkl : k < 8
    · have hb8 : Value.int .u8 ((d.toNat : Int) / 2 ^ (56 - 8 * k) % 256) = vB (byt d k) := by simp [vB, byt]
      replace hb8 := Lib.hid hb8
      have hlen8 : ((bytes8 d).take k).length ≤ 8 := by simp; omega
      go_wp2_with (at_builtin; go_loud (refine app_row _ rfl _ _ 58 rfl w.heap.size 5 (.int .u8 0) 1 Tryd.underlying58 Tryd.infoU8 rfl (by decide) _ (((bytes8 d).take k).map vB) rfl (own_below hown ((Below.refl _ wr).alloc (Nat.le_refl _) _)) _ [.int .u8 ((d.toNat : Int) / 2 ^ (56 - 8 * k) % 256)] rfl (byte_row (Own.new _ #[.int .u8 ((d.toNat : Int) / 2 ^ (56 - 8 * k) % 256)] _)) (by intro u hu; simp at hu; subst hu; rfl) (by simp; omega) (by have := hb.size; simp; omega) ?_; intro v2 w2 hown2 hx2; refine Hid.out ?_))
      have hb2 : Below w.heap.size w w2 := hb.trans ((((Below.refl _ wr).alloc (Nat.le_refl _) _).mono hb.size).trans hx2)
      refine Lib.hid ?_
      go_wp2_with fail
      go_roundw
      case rel =>
        refine ⟨k + 1, by omega, by go_num, ?_, hb2⟩
        rw [byt_take d hkl, List.map_append, List.map_singleton, ← hb8.out]; exact hown2
      case measure => simp [intOf] <;> omega
    · rw [List.take_of_length_le (by simp [bytes8]; omega)] at hown
      go_wp2_with fail
      go_loopw [5, 7] (fun v i wr => ∃ k : Nat, k ≤ l.length ∧ i = .int .i64 k ∧ OwnRow wr w.heap.size 5 v ((bytes8 d ++ txt (l.take k)).map vB) ∧ Below w.heap.size w wr)
        (fun _ i _ => l.length - (intOf i).toNat)
      case atStart => exact ⟨0, by omega, rfl, by simpa [txt] using hown, hb⟩
      case round =>
        clear hown hb
        obtain ⟨k, hk, rfl, hown, hb⟩ := hrel
        by_cases hkl : k < l.length
        · obtain ⟨q, rfl, hab, hc⟩ := hcell k (by simpa using hkl)
          have hr := (hb.cell (p := q.add k) (by rw [blk_add]; exact hab)).trans hc
          rw [List.getElem_map] at hr
          have hik := hi64 _ (List.getElem_mem hkl)
          have hdec := decimal_any l[k] hik wr
          have hln : (bytes8 d ++ txt (l.take k)).length ≤ 8 + 21 * l.length := by
            have := txt_len (l.take k) fun x hx => hi64 x (List.mem_of_mem_take hx)
            rw [List.length_append]; simp [bytes8] at this ⊢; omega
          have hit := txt_take hkl
          have hln2 := itoa_len l[k] hik
          generalize Lib.itoa l[k] = its at hdec hit hln2
          generalize hs : bytes8 d ++ txt (l.take k) = sofar at hown hln
          go_wp2_with (go_at_call 46; refine hdec.mono ?_; rintro e w1 ⟨rfl, hx1⟩; refine Hid.out ?_)
          have hb1 : Below w.heap.size w w1 := hb.trans (hx1.mono hb.size)
          have hown1 := own_below hown hx1
          clear hdec hx1 hown hb
          refine Lib.hid ?_
          go_wp2_with (at_builtin; go_loud (refine app_str _ rfl _ _ 58 9 rfl w.heap.size 5 Tryd.underlying58 Tryd.underlying9 Tryd.infoU8 _ (sofar.map vB) rfl hown1 its rfl (by simp; omega) hb1.size ?_; intro v2 w2 hown2 hx2; refine Hid.out ?_))
          have hb2 : Below w.heap.size w w2 := hb1.trans hx2
          clear hown1 hb1 hx2
          refine Lib.hid ?_
          go_wp2_with (at_builtin; go_loud (refine app_row _ rfl _ _ 58 rfl w.heap.size 5 (.int .u8 0) 1 Tryd.underlying58 Tryd.infoU8 rfl (by decide) _ (sofar.map vB ++ its.map vB) rfl (own_below hown2 ((Below.refl _ w2).alloc (Nat.le_refl _) _)) _ [.int .u8 32] rfl (byte_row (Own.new _ #[.int .u8 32] _)) (by intro u hu; simp at hu; subst hu; rfl) (by simp; omega) (by have := hb2.size; simp; omega) ?_; intro v3 w3 hown3 hx3; refine Hid.out ?_))
          have hb3 : Below w.heap.size w w3 := hb2.trans ((((Below.refl _ w2).alloc (Nat.le_refl _) _).mono hb2.size).trans hx3)
          refine Lib.hid ?_
          go_wp2_with fail
          go_roundw
          case rel =>
            refine ⟨k + 1, by omega, by go_num, ?_, hb3⟩
            rw [hit, ← List.append_assoc, hs, List.map_append, List.map_append, ← List.append_assoc]; exact hown3
          case measure => simp [intOf] <;> omega
        · rw [List.take_of_length_le (by omega)] at hown
          go_wp2_with fail
          go_ret
          exact ⟨_, rfl, hown, hb⟩
end Go.Proofs.YtgljelkjfipefaaDoor
