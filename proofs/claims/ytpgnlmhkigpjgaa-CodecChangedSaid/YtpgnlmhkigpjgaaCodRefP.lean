/-
  The reference: the bytes of an integer, of a list, of a digest; the frame.
-/
import Derived.Test.YtpgnlmhkigpjgaaCodFrm
namespace Go.Proofs.Ytpgnlmhkigpjgaa
open Go.RowKit

set_option maxRecDepth 100000 in
set_option maxHeartbeats 4000000 in
theorem refOne_any (n : Int) (hn : I64 n) (w : World) :
    Calls Try.prog 24 #[.int .i64 n] w fun e w' => ∃ ad cap, e = .returned (.slice ad (enc n).length cap) ∧ OwnRow w' w.heap.size 5 (.slice ad (enc n).length cap) ((enc n).map vB) ∧ Below w.heap.size w w' := by
  have hel := enc_len hn
  have hnl := num_lt hn
  have h1 := hn.1
  have h2 := hn.2
  obtain ⟨u0, hu0⟩ : ∃ u, u = num n := ⟨_, rfl⟩
  unfold enc at hel ⊢
  rw [← hu0] at hel hnl ⊢
  have hnum : (n < 0 → (u0 : Int) = -2 * n - 1) ∧ (¬ n < 0 → (u0 : Int) = 2 * n) := by
    subst hu0; unfold num
    constructor <;> intro h
    · rw [if_pos h]; omega
    · rw [if_neg h]; omega
  clear hu0
  by_cases hneg : n < 0
  · have hu := Lib.hid (hnum.1 hneg)
    have q0 : decide (n < 0) = true := by simpa using hneg
    have a1 : IntKind.u64.wrap (-(n + 1)) = -(n + 1) := by rw [IntKind.wrap_u64]; omega
    go_enter Try.func24, Try.ntmps24
    go_wp2_with fail
    rw [show 2 * -(n + 1) + 1 = (u0 : Int) by have := hu.out; omega]
    go_loopw [3, 4] (fun i b wr => ∃ (l1 : List UInt8) (u : Nat), i = .int .u64 u ∧ u < 18446744073709551616 ∧ l1 ++ leb u = leb u0 ∧ OwnRow wr w.heap.size 5 b (l1.map vB) ∧ Below w.heap.size w wr)
      (fun i _ _ => (intOf i).toNat)
    case atStart => exact ⟨[], u0, rfl, hnl, rfl, OwnRow.nil _ _ _, Below.refl _ _⟩
    case round =>
      clear hu hnum h1 h2 hn
      obtain ⟨l1, u, rfl, hul, hl1, hown, hb⟩ := hrel
      have hl10 : l1.length ≤ 10 := by rw [← hl1] at hel; simp at hel; omega
      by_cases hu : u < 128
      · have hx : Value.int .u8 (u : Int) = vB (UInt8.ofNat u) := by simp [vB]; omega
        replace hx := Lib.hid hx
        rw [leb_small hu] at hl1
        have q1 : decide ((128 : Int) ≤ (u : Int)) = false := by simp; omega
        have q2 : IntKind.u8.wrap (u : Int) = u := by rw [IntKind.wrap_u8]; omega
        go_wp2_with (at_builtin; go_loud (refine app_row _ rfl _ _ 23 rfl w.heap.size 5 (.int .u8 0) 1 Try.underlying23 Try.infoU8 rfl (by decide) _ (l1.map vB) rfl (own_below hown ((Below.refl _ wr).alloc (Nat.le_refl _) _)) _ [.int .u8 (u : Int)] rfl (byte_row (Own.new _ #[.int .u8 (u : Int)] _)) (by intro u hu; simp at hu; subst hu; rfl) (by simp; omega) (by have := hb.size; simp; omega) ?_; intro v2 w2 hown2 hx2; refine Hid.out ?_))
        refine Lib.hid ?_
        go_wp2_with fail
        go_ret
        have hb2 : Below w.heap.size w w2 := hb.trans (((Below.refl _ wr).alloc (by have := hb.size; omega) _).trans hx2)
        rw [show l1.map vB ++ [Value.int .u8 (u : Int)] = (leb u0).map vB by rw [← hl1, List.map_append, List.map_singleton, ← hx.out]] at hown2
        obtain ⟨ad, cap, e, hr⟩ := own_shape hown2 (by omega)
        exact ⟨ad, cap, by rw [← e]; rfl, by rw [← e]; exact hown2, hb2⟩
      · have hx : Value.int .u8 ((u : Int) % 128 + 128) = vB (UInt8.ofNat (u % 128 + 128)) := by simp [vB]; omega
        replace hx := Lib.hid hx
        rw [leb_big hu] at hl1
        have q1 : decide ((128 : Int) ≤ (u : Int)) = true := by simp; omega
        go_wp2_with (at_builtin; go_loud (refine app_row _ rfl _ _ 23 rfl w.heap.size 5 (.int .u8 0) 1 Try.underlying23 Try.infoU8 rfl (by decide) _ (l1.map vB) rfl (own_below hown ((Below.refl _ wr).alloc (Nat.le_refl _) _)) _ [.int .u8 ((u : Int) % 128 + 128)] rfl (byte_row (Own.new _ #[.int .u8 ((u : Int) % 128 + 128)] _)) (by intro u hu; simp at hu; subst hu; rfl) (by simp; omega) (by have := hb.size; simp; omega) ?_; intro v2 w2 hown2 hx2; refine Hid.out ?_))
        refine Lib.hid ?_
        go_wp2_with fail
        go_roundw
        case rel =>
          have hb2 : Below w.heap.size w w2 := hb.trans (((Below.refl _ wr).alloc (by have := hb.size; omega) _).trans hx2)
          exact ⟨l1 ++ [UInt8.ofNat (u % 128 + 128)], u / 128, by first | rfl | (congr 1), by omega, by rw [List.append_assoc]; exact hl1, by rw [List.map_append, List.map_singleton, ← hx.out]; exact hown2, hb2⟩
        case measure => simp [intOf] <;> omega
  · have hu := Lib.hid (hnum.2 hneg)
    have q0 : decide (n < 0) = false := by simpa using hneg
    have q1 : IntKind.u64.wrap n = n := by rw [IntKind.wrap_u64]; omega
    go_enter Try.func24, Try.ntmps24
    go_wp2_with fail
    rw [show 2 * n = (u0 : Int) from hu.out.symm]
    go_loopw [3, 4] (fun i b wr => ∃ (l1 : List UInt8) (u : Nat), i = .int .u64 u ∧ u < 18446744073709551616 ∧ l1 ++ leb u = leb u0 ∧ OwnRow wr w.heap.size 5 b (l1.map vB) ∧ Below w.heap.size w wr)
      (fun i _ _ => (intOf i).toNat)
    case atStart => exact ⟨[], u0, rfl, hnl, rfl, OwnRow.nil _ _ _, Below.refl _ _⟩
    case round =>
      clear hu hnum h1 h2 hn
      obtain ⟨l1, u, rfl, hul, hl1, hown, hb⟩ := hrel
      have hl10 : l1.length ≤ 10 := by rw [← hl1] at hel; simp at hel; omega
      by_cases hu : u < 128
      · have hx : Value.int .u8 (u : Int) = vB (UInt8.ofNat u) := by simp [vB]; omega
        replace hx := Lib.hid hx
        rw [leb_small hu] at hl1
        have q1 : decide ((128 : Int) ≤ (u : Int)) = false := by simp; omega
        have q2 : IntKind.u8.wrap (u : Int) = u := by rw [IntKind.wrap_u8]; omega
        go_wp2_with (at_builtin; go_loud (refine app_row _ rfl _ _ 23 rfl w.heap.size 5 (.int .u8 0) 1 Try.underlying23 Try.infoU8 rfl (by decide) _ (l1.map vB) rfl (own_below hown ((Below.refl _ wr).alloc (Nat.le_refl _) _)) _ [.int .u8 (u : Int)] rfl (byte_row (Own.new _ #[.int .u8 (u : Int)] _)) (by intro u hu; simp at hu; subst hu; rfl) (by simp; omega) (by have := hb.size; simp; omega) ?_; intro v2 w2 hown2 hx2; refine Hid.out ?_))
        refine Lib.hid ?_
        go_wp2_with fail
        go_ret
        have hb2 : Below w.heap.size w w2 := hb.trans (((Below.refl _ wr).alloc (by have := hb.size; omega) _).trans hx2)
        rw [show l1.map vB ++ [Value.int .u8 (u : Int)] = (leb u0).map vB by rw [← hl1, List.map_append, List.map_singleton, ← hx.out]] at hown2
        obtain ⟨ad, cap, e, hr⟩ := own_shape hown2 (by omega)
        exact ⟨ad, cap, by rw [← e]; rfl, by rw [← e]; exact hown2, hb2⟩
      · have hx : Value.int .u8 ((u : Int) % 128 + 128) = vB (UInt8.ofNat (u % 128 + 128)) := by simp [vB]; omega
        replace hx := Lib.hid hx
        rw [leb_big hu] at hl1
        have q1 : decide ((128 : Int) ≤ (u : Int)) = true := by simp; omega
        go_wp2_with (at_builtin; go_loud (refine app_row _ rfl _ _ 23 rfl w.heap.size 5 (.int .u8 0) 1 Try.underlying23 Try.infoU8 rfl (by decide) _ (l1.map vB) rfl (own_below hown ((Below.refl _ wr).alloc (Nat.le_refl _) _)) _ [.int .u8 ((u : Int) % 128 + 128)] rfl (byte_row (Own.new _ #[.int .u8 ((u : Int) % 128 + 128)] _)) (by intro u hu; simp at hu; subst hu; rfl) (by simp; omega) (by have := hb.size; simp; omega) ?_; intro v2 w2 hown2 hx2; refine Hid.out ?_))
        refine Lib.hid ?_
        go_wp2_with fail
        go_roundw
        case rel =>
          have hb2 : Below w.heap.size w w2 := hb.trans (((Below.refl _ wr).alloc (by have := hb.size; omega) _).trans hx2)
          exact ⟨l1 ++ [UInt8.ofNat (u % 128 + 128)], u / 128, by first | rfl | (congr 1), by omega, by rw [List.append_assoc]; exact hl1, by rw [List.map_append, List.map_singleton, ← hx.out]; exact hown2, hb2⟩
        case measure => simp [intOf] <;> omega

set_option maxRecDepth 100000 in
set_option maxHeartbeats 2000000 in
theorem refPut_any (v : Value) (l : List Int) (w : World) (h : Ints w v l) (hlen : l.length ≤ 4000) :
    Calls Try.prog 11 #[v] w fun e w' => ∃ ad cap, e = .returned (.tuple #[.slice ad (lput l).length cap, .int .i64 0]) ∧ OwnRow w' w.heap.size 5 (.slice ad (lput l).length cap) ((lput l).map vB) ∧ Row w' (.slice ad (lput l).length cap) ((lput l).map vB) ∧ Below w.heap.size w w' := by
  have hpl := lput_len h.2 hlen
  obtain ⟨hv, hi64⟩ := h
  obtain ⟨ad, cap, rfl⟩ := hv.shape
  have hcell := hv.cells _ _ _ rfl
  clear hv
  simp only [List.length_map] at hcell ⊢
  have hq : decide (4000 < (l.length : Int)) = false := by simp; omega
  have hp := refOne_any l.length ⟨by omega, by omega⟩ w
  have he := enc_len (n := l.length) ⟨by omega, by omega⟩
  unfold lput at hpl ⊢
  generalize enc (l.length : Int) = hd at hp he hpl ⊢
  go_enter Try.func11, Try.ntmps11
  go_wp2_with (go_at_call 24; refine hp.mono ?_; rintro e w1 ⟨ad1, cap1, rfl, hown, hx1⟩)
  go_loopw [4, 5] (fun b i wr => ∃ k : Nat, k ≤ l.length ∧ i = .int .i64 k ∧ OwnRow wr w.heap.size 5 b ((hd ++ (l.take k).flatMap enc).map vB) ∧ Below w.heap.size w wr)
    (fun _ i _ => l.length - (intOf i).toNat)
  case atStart => exact ⟨0, by omega, rfl, by simpa using hown, hx1⟩
  case round =>
    clear hown hx1 hp
    obtain ⟨k, hk, rfl, hown, hb⟩ := hrel
    by_cases hkl : k < l.length
    · obtain ⟨q, rfl, hab, hc⟩ := hcell k (by simpa using hkl)
      have hr := (hb.cell (p := q.add k) (by rw [blk_add]; exact hab)).trans hc
      rw [List.getElem_map] at hr
      have hfl := flat_len (l.take k) fun x hx => hi64 x (List.mem_of_mem_take hx)
      have hft := flat_take hkl
      have hp := refOne_any l[k] (hi64 _ (List.getElem_mem hkl)) wr
      have hpl2 := enc_len (hi64 _ (List.getElem_mem hkl))
      have hfl2 : (hd ++ (l.take k).flatMap enc).length ≤ 100000 := by rw [List.length_take] at hfl; simp only [List.length_append]; omega
      have hbs := hb.size
      generalize l[k] = x at hr hp hft hpl2
      clear hfl
      generalize hacc : hd ++ (l.take k).flatMap enc = acc at hown hfl2
      have hft2 : hd ++ (l.take (k + 1)).flatMap enc = acc ++ enc x := by rw [hft, ← hacc, List.append_assoc]
      replace hft2 := Lib.hid hft2
      clear hft hacc
      go_wp2_with (first | (go_at_call 24; refine hp.mono ?_; rintro e w2 ⟨ad2, cap2, rfl, hown2, hx2⟩; have hr2 := Row.of_own hown2 (by rw [List.length_map]; omega); have hown' := own_below hown hx2; have hs2 := hx2.size) | (at_builtin; go_loud (refine app_row _ rfl _ _ 23 rfl w.heap.size 5 (.int .u8 0) 1 Try.underlying23 Try.infoU8 rfl (by decide) _ (acc.map vB) rfl hown' _ ((enc x).map vB) rfl hr2 byte_one (by simp; omega) (by omega) ?_; intro v3 w3 hown3 hx3; refine Hid.out ?_)))
      refine Lib.hid ?_
      go_wp2_with fail
      go_roundw
      case rel => exact ⟨k + 1, by omega, by go_num, by rw [hft2.out, List.map_append]; exact hown3, (hb.trans (hx2.mono hbs)).trans hx3⟩
      case measure => simp [intOf]; omega
    · rw [List.take_of_length_le (by omega)] at hown
      go_wp2_with fail
      go_ret2
      obtain ⟨ad, cap, e, hr⟩ := own_shape hown (by omega)
      exact ⟨ad, cap, by rw [← e]; rfl, by rw [← e]; exact hown, hr, hb⟩
theorem refPut_over (v : Value) (l : List Int) (w : World) (h : Ints w v l) (hlen : 4000 < l.length) :
    Calls Try.prog 11 #[v] w (Same (.tuple #[.slice none 0 0, .int .i64 2]) w) := by
  obtain ⟨ad, cap, rfl⟩ := h.1.shape
  simp only [List.length_map]
  go_enter Try.func11, Try.ntmps11
  go_wp2_with fail
  go_ret2
  exact Same.mk rfl rfl
set_option maxRecDepth 100000 in
set_option maxHeartbeats 2000000 in
theorem refBytes_any (d : UInt64) (w : World) :
    Calls Try.prog 26 #[vD d] w fun e w' => ∃ ad cap, e = .returned (.slice ad 8 cap) ∧ OwnRow w' w.heap.size 5 (.slice ad 8 cap) ((bytes8 d).map vB) ∧ Row w' (.slice ad 8 cap) ((bytes8 d).map vB) ∧ Below w.heap.size w w' := by
  unfold vD
  go_enter Try.func26, Try.ntmps26
  go_wp2_with fail
  go_loopw [3, 4] (fun b i wr => ∃ k : Nat, k ≤ 8 ∧ i = .int .i64 (k : Int) ∧ OwnRow wr w.heap.size 5 b (((bytes8 d).take k).map vB) ∧ Below w.heap.size w wr) (fun _ i _ => 8 - (intOf i).toNat)
  case atStart => exact ⟨0, by omega, rfl, OwnRow.nil _ _ _, Below.refl _ _⟩
  case round =>
    obtain ⟨k, hk, rfl, hown, hb⟩ := hrel
    have hbs := hb.size
    by_cases hk8 : k < 8
    · have q0 : decide ((k : Int) < 8) = true := by simp; omega
      have hx : IntKind.u8.wrap ((d.toNat : Int) / 2 ^ (56 - 8 * k)) = ((byt d k).toNat : Int) := by
        have e1 : ((2 : Int) ^ (56 - 8 * k)) = ((2 ^ (56 - 8 * k) : Nat) : Int) := by push_cast; rfl
        rw [e1, ← Int.natCast_ediv, IntKind.wrap_u8]
        unfold byt
        simp only [UInt8.toNat_ofNat']
        omega
      have hsh : Op.shift .shr .u64 (d.toNat : Int) .i64 (56 - 8 * (k : Int)) = pure (.int .u64 ((d.toNat : Int) / 2 ^ (56 - 8 * k))) := by
        rw [shift_shr_any .u64 .i64 _ _ (by omega)]
        congr 3
        rw [show IntKind.u64.bits = 64 from rfl]
        congr 1
        omega
      have hts := byt_take d hk8
      replace hts := Lib.hid hts
      have hl : ((bytes8 d).take k).length ≤ 8 := by rw [List.length_take]; omega
      generalize (bytes8 d).take k = acc at hown hts hl
      go_wp2_with (at_builtin; go_loud (refine app_row _ rfl _ _ 23 rfl w.heap.size 5 (.int .u8 0) 1 Try.underlying23 Try.infoU8 rfl (by decide) _ (acc.map vB) rfl (own_below hown ((Below.refl _ wr).alloc (Nat.le_refl _) _)) _ [.int .u8 ((byt d k).toNat : Int)] rfl (byte_row (Own.new _ #[.int .u8 ((byt d k).toNat : Int)] _)) (by intro u hu; simp at hu; subst hu; rfl) (by simp; omega) (by simp; omega) ?_; intro v2 w2 hown2 hx2; refine Hid.out ?_))
      refine Lib.hid ?_
      go_wp2_with fail
      go_roundw
      case rel => exact ⟨k + 1, by omega, by go_num, by rw [hts.out, List.map_append]; exact hown2, hb.trans (((Below.refl _ wr).alloc hbs _).trans hx2)⟩
      case measure => simp [intOf]; omega
    · have q0 : decide ((k : Int) < 8) = false := by simp; omega
      rw [List.take_of_length_le (by rw [bytes8_len]; omega)] at hown
      go_wp2_with fail
      go_ret
      obtain ⟨ad, cap, e, hr⟩ := own_shape hown (by rw [bytes8_len]; omega)
      rw [bytes8_len] at e hr
      exact ⟨ad, cap, by rw [← e]; rfl, by rw [← e]; exact hown, hr, hb⟩
end Go.Proofs.Ytpgnlmhkigpjgaa
