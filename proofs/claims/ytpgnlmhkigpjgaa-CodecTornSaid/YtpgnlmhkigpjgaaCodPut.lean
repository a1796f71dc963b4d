/-
  The program: put, Put.
-/
import Derived.Test.YtpgnlmhkigpjgaaCodP1
namespace Go.Proofs.Ytpgnlmhkigpjgaa
open Go.RowKit

theorem leb_len : ∀ (k u : Nat), u < 128 ^ (k + 1) → (leb u).length ≤ k + 1
  | 0, u, h => by rw [leb_small (by simpa using h)]; simp
  | k + 1, u, h => by
    by_cases hu : u < 128
    · rw [leb_small hu]; simp
    · rw [leb_big hu]
      have := leb_len k (u / 128) (by rw [Nat.div_lt_iff_lt_mul (by decide)]; rw [Nat.pow_succ] at h; exact h)
      simp; exact this
theorem enc_len {n : Int} (h : I64 n) : (enc n).length ≤ 10 := leb_len 9 _ (Nat.lt_trans (num_lt h) (by decide))
theorem or_128 (u : Nat) : bits .or .u8 ((u : Int) % 256) 128 = (u : Int) % 128 + 128 := by
  have h := (bits_nat .u8 8 (by decide) wraps_u8 (u % 256) 128 (by omega) (by decide)).2
  rw [show ((u : Int) % 256) = ((u % 256 : Nat) : Int) by omega, show (128 : Int) = ((128 : Nat) : Int) from rfl, h]
  have h2 : ∀ x : Fin 256, x.val ||| 128 = x.val % 128 + 128 := by decide +kernel
  have := h2 ⟨u % 256, by omega⟩
  simp only at this
  rw [this]
  omega

set_option maxRecDepth 100000 in
set_option maxHeartbeats 2000000 in
theorem put_any (base : Nat) (v : Value) (l : List UInt8) (n : Int) (hn : I64 n) (w : World) (hown : OwnRow w base 5 v (l.map vB)) (hB : base ≤ w.heap.size) (hlen : l.length ≤ 900000000) :
    Calls Try.prog 23 #[v, .int .i64 n] w fun e w' => ∃ v', e = .returned v' ∧ OwnRow w' base 5 v' ((l ++ enc n).map vB) ∧ Below base w w' := by
  have hel := enc_len hn
  have hnl := num_lt hn
  have hu0 := number_any n hn w
  unfold enc at hel ⊢
  generalize num n = u0 at hel hnl hu0 ⊢
  go_enter Try.func23, Try.ntmps23
  go_wp2_with (go_at_call 34; refine hu0.mono ?_; rintro e w1 ⟨rfl, rfl⟩)
  go_loopw [0, 5] (fun b i wr => ∃ (l1 : List UInt8) (u : Nat), i = .int .u64 u ∧ u < 18446744073709551616 ∧ l1 ++ leb u = leb u0 ∧ OwnRow wr base 5 b ((l ++ l1).map vB) ∧ Below base w wr)
    (fun _ i _ => (intOf i).toNat)
  case atStart => exact ⟨[], u0, rfl, hnl, rfl, by simpa using hown, Below.refl _ _⟩
  case round =>
    clear hown hu0
    obtain ⟨l1, u, rfl, hul, hl1, hown, hb⟩ := hrel
    have hl10 : l1.length ≤ 10 := by rw [← hl1] at hel; simp at hel; omega
    have hor := or_128 u
    by_cases hu : u < 128
    · have hx : Value.int .u8 (u : Int) = vB (UInt8.ofNat u) := by simp [vB]; omega
      replace hx := Lib.hid hx
      rw [leb_small hu] at hl1
      go_wp2_with (at_builtin; go_loud (refine app_row _ rfl _ _ 23 rfl base 5 (.int .u8 0) 1 Try.underlying23 Try.infoU8 rfl (by decide) _ ((l ++ l1).map vB) rfl (own_below hown ((Below.refl _ wr).alloc (Nat.le_refl _) _)) _ [.int .u8 (u : Int)] rfl (byte_row (Own.new _ #[.int .u8 (u : Int)] _)) (by intro u hu; simp at hu; subst hu; rfl) (by simp; omega) (by have := hb.size; simp; omega) ?_; intro v2 w2 hown2 hx2; refine Hid.out ?_))
      refine Lib.hid ?_
      go_wp2_with fail
      go_ret
      have hb2 : Below base w w2 := hb.trans (((Below.refl _ wr).alloc (by have := hb.size; omega) _).trans hx2)
      exact ⟨_, rfl, by rw [← hl1, ← List.append_assoc, List.map_append (l₁ := l ++ l1), List.map_singleton, ← hx.out]; exact hown2, hb2⟩
    · have hx : Value.int .u8 ((u : Int) % 128 + 128) = vB (UInt8.ofNat (u % 128 + 128)) := by simp [vB]; omega
      replace hx := Lib.hid hx
      rw [leb_big hu] at hl1
      go_wp2_with (at_builtin; go_loud (refine app_row _ rfl _ _ 23 rfl base 5 (.int .u8 0) 1 Try.underlying23 Try.infoU8 rfl (by decide) _ ((l ++ l1).map vB) rfl (own_below hown ((Below.refl _ wr).alloc (Nat.le_refl _) _)) _ [.int .u8 ((u : Int) % 128 + 128)] rfl (byte_row (Own.new _ #[.int .u8 ((u : Int) % 128 + 128)] _)) (by intro u hu; simp at hu; subst hu; rfl) (by simp; omega) (by have := hb.size; simp; omega) ?_; intro v2 w2 hown2 hx2; refine Hid.out ?_))
      refine Lib.hid ?_
      go_wp2_with fail
      go_roundw
      case rel =>
        have hb2 : Below base w w2 := hb.trans (((Below.refl _ wr).alloc (by have := hb.size; omega) _).trans hx2)
        exact ⟨l1 ++ [UInt8.ofNat (u % 128 + 128)], u / 128, by congr 1, by omega, by rw [List.append_assoc]; exact hl1, by rw [← List.append_assoc, List.map_append (l₁ := l ++ l1), List.map_singleton, ← hx.out]; exact hown2, hb2⟩
      case measure => simp [intOf] <;> omega
theorem flat_len : ∀ (l : List Int), (∀ x ∈ l, I64 x) → (l.flatMap enc).length ≤ 10 * l.length
  | [], _ => by simp
  | x :: l, h => by
    have h1 := enc_len (h x (by simp))
    have h2 := flat_len l fun y hy => h y (by simp [hy])
    simp only [List.flatMap_cons, List.length_append, List.length_cons]
    omega
theorem flat_take {l : List Int} {k : Nat} (h : k < l.length) : (l.take (k + 1)).flatMap enc = (l.take k).flatMap enc ++ enc l[k] := by
  rw [List.take_succ_eq_append_getElem h, List.flatMap_append, List.flatMap_cons, List.flatMap_nil, List.append_nil]
theorem lput_len {l : List Int} (h : ∀ x ∈ l, I64 x) (hl : l.length ≤ 4000) : (lput l).length ≤ 40010 := by
  have h1 := flat_len l h
  have h2 := enc_len (n := l.length) ⟨by omega, by omega⟩
  unfold lput
  rw [List.length_append]; omega

set_option maxRecDepth 100000 in
set_option maxHeartbeats 2000000 in
theorem Put_any (v : Value) (l : List Int) (w : World) (h : Ints w v l) (hlen : l.length ≤ 4000) :
    Calls Try.prog 10 #[v] w fun e w' => ∃ v', e = .returned (.tuple #[v', .int .i64 0]) ∧ OwnRow w' w.heap.size 5 v' ((lput l).map vB) ∧ Below w.heap.size w w' := by
  obtain ⟨hv, hi64⟩ := h
  obtain ⟨ad, cap, rfl⟩ := hv.shape
  have hcell := hv.cells _ _ _ rfl
  clear hv
  simp only [List.length_map] at hcell ⊢
  have hq : decide (4000 < (l.length : Int)) = false := by simp; omega
  have hp := put_any w.heap.size (.slice none 0 0) [] l.length ⟨by omega, by omega⟩ w (OwnRow.nil _ _ _) (Nat.le_refl _) (by simp)
  rw [List.nil_append] at hp
  have he := enc_len (n := l.length) ⟨by omega, by omega⟩
  unfold lput
  generalize enc (l.length : Int) = hd at hp he ⊢
  go_enter Try.func10, Try.ntmps10
  go_wp2_with (go_at_call 23; refine hp.mono ?_; rintro e w1 ⟨v1, rfl, hown, hx1⟩)
  go_loopw [4, 15] (fun b i wr => ∃ k : Nat, k ≤ l.length ∧ i = .int .i64 k ∧ OwnRow wr w.heap.size 5 b ((hd ++ (l.take k).flatMap enc).map vB) ∧ Below w.heap.size w wr)
    (fun _ i _ => l.length - (intOf i).toNat)
  case atStart => exact ⟨0, by omega, rfl, by simpa using hown, hx1⟩
  case round =>
    clear hown hx1 hp
    obtain ⟨k, hk, rfl, hown, hb⟩ := hrel
    by_cases hkl : k < l.length
    · obtain ⟨q, rfl, hab, hc⟩ := hcell k (by simpa using hkl)
      have hr := (hb.cell (p := q.add k) (by rw [blk_add]; exact hab)).trans hc
      rw [List.getElem_map] at hr
      have hfl := flat_len (l.take k) fun x hx => hi64 x (List.mem_of_mem_take hx)
      have hft := flat_take hkl
      have hp := put_any w.heap.size _ _ l[k] (hi64 _ (List.getElem_mem hkl)) wr hown hb.size (by rw [List.length_take] at hfl; simp only [List.length_append]; omega)
      rw [List.append_assoc, ← hft] at hp
      generalize l[k] = x at hr hp
      clear hft hfl
      go_wp2_with (go_at_call 23; refine hp.mono ?_; rintro e w2 ⟨v2, rfl, hown2, hx2⟩)
      go_roundw
      case rel => exact ⟨k + 1, by omega, by go_num, hown2, hb.trans hx2⟩
      case measure => simp [intOf]; omega
    · rw [List.take_of_length_le (by omega)] at hown
      go_wp2_with fail
      go_ret2
      exact ⟨_, rfl, hown, hb⟩
theorem Put_over (v : Value) (l : List Int) (w : World) (h : Ints w v l) (hlen : 4000 < l.length) :
    Calls Try.prog 10 #[v] w (Same (.tuple #[.slice none 0 0, .int .i64 2]) w) := by
  obtain ⟨ad, cap, rfl⟩ := h.1.shape
  simp only [List.length_map]
  go_enter Try.func10, Try.ntmps10
  go_wp2_with fail
  go_ret2
  exact Same.mk rfl rfl
end Go.Proofs.Ytpgnlmhkigpjgaa
