/-
  The program: Frame.
-/
import Derived.Test.YtpgnlmhkigpjgaaCodMark
namespace Go.Proofs.Ytpgnlmhkigpjgaa
open Go.RowKit

theorem said3 (b : List UInt8) : (said b).map vB = [vB (UInt8.ofNat (b.length / 65536)), vB (UInt8.ofNat (b.length / 256)), vB (UInt8.ofNat b.length)] ++ b.map vB := by simp [said]
theorem said_len (b : List UInt8) : (said b).length = b.length + 3 := by simp [said]
theorem lmark_len (b : List UInt8) : (lmark b).length = 8 := bytes8_len _
theorem own_shape {w : World} {base : Nat} {v : Value} {b : List UInt8} (h : OwnRow w base 5 v (b.map vB)) (hl : b.length ≤ 1000000000) : ∃ ad cap, v = .slice ad b.length cap ∧ Row w (.slice ad b.length cap) (b.map vB) := by
  have hr := bytes_of_own h hl
  obtain ⟨ad, cap, e⟩ := hr.shape
  rw [List.length_map] at e
  exact ⟨ad, cap, e, e ▸ hr⟩
theorem byte_row8 {w : World} {B : Nat} {x0 x1 x2 x3 x4 x5 x6 x7 : Value} {c : Nat} (h : Own w B [x0, x1, x2, x3, x4, x5, x6, x7]) : Row w (.slice (some ⟨B, 0, none⟩) 8 c) [x0, x1, x2, x3, x4, x5, x6, x7] := Row.own h (by simp)
theorem Put_shape (v : Value) (l : List Int) (w : World) (h : Ints w v l) (hlen : l.length ≤ 4000) :
    Calls Try.prog 10 #[v] w fun e w' => ∃ ad cap, e = .returned (.tuple #[.slice ad (lput l).length cap, .int .i64 0]) ∧ OwnRow w' w.heap.size 5 (.slice ad (lput l).length cap) ((lput l).map vB) ∧ Row w' (.slice ad (lput l).length cap) ((lput l).map vB) ∧ Below w.heap.size w w' := by
  have hpl := lput_len h.2 hlen
  refine (Put_any v l w h hlen).mono ?_
  rintro e w' ⟨v', rfl, hown, hx⟩
  obtain ⟨ad, cap, rfl, hr⟩ := own_shape hown (by omega)
  exact ⟨ad, cap, rfl, hown, hr, hx⟩
set_option maxRecDepth 100000 in
set_option maxHeartbeats 4000000 in
theorem Frame_any (v : Value) (l : List Int) (w : World) (h : Ints w v l) (hlen : l.length ≤ 4000) :
    Calls Try.prog 13 #[v] w fun e w' => ∃ v', e = .returned (.tuple #[v', .int .i64 0]) ∧ OwnRow w' w.heap.size 5 v' ((lframe l).map vB) ∧ Below w.heap.size w w' := by
  have hp := Put_shape v l w h hlen
  have hpl := lput_len h.2 hlen
  obtain ⟨ad, cap, rfl⟩ := h.1.shape
  simp only [List.length_map] at hp ⊢
  unfold lframe
  generalize lput l = b at hp hpl ⊢
  have x0 : IntKind.u8.wrap ((b.length : Int) / 65536) = ((UInt8.ofNat (b.length / 65536)).toNat : Int) := by rw [IntKind.wrap_u8]; simp only [UInt8.toNat_ofNat']; omega
  have x1 : IntKind.u8.wrap ((b.length : Int) / 256) = ((UInt8.ofNat (b.length / 256)).toNat : Int) := by rw [IntKind.wrap_u8]; simp only [UInt8.toNat_ofNat']; omega
  have x2 : IntKind.u8.wrap (b.length : Int) = ((UInt8.ofNat b.length).toNat : Int) := by rw [IntKind.wrap_u8]; simp only [UInt8.toNat_ofNat']; omega
  obtain ⟨d, hd⟩ : ∃ d, d = fnv fnv0 (said b) := ⟨_, rfl⟩
  unfold lmark
  rw [← hd]
  have hsd := said3 b
  have hsl := said_len b
  simp only [vB] at hsd
  go_enter Try.func13, Try.ntmps13
  go_wp2_with (first | (go_at_call 10; refine hp.mono ?_; rintro e w1 ⟨ad1, cap1, rfl, hown, hr1, hx1⟩; have hB1 := hx1.size) | (at_builtin; go_loud (refine app_row _ rfl _ _ 23 rfl w.heap.size 5 (.int .u8 0) 1 Try.underlying23 Try.infoU8 rfl (by decide) _ [.int .u8 ((UInt8.ofNat (b.length / 65536)).toNat : Int), .int .u8 ((UInt8.ofNat (b.length / 256)).toNat : Int), .int .u8 ((UInt8.ofNat b.length).toNat : Int)] rfl (OwnRow.new w1 w.heap.size hB1 5 _ (by simp)) _ (b.map vB) rfl (hr1.below ((Below.refl _ w1).alloc (Nat.le_refl _) _)) byte_one (by simp; omega) (by simp; omega) ?_; intro v2 w2 hown2 hx2; refine Hid.out ?_)))
  refine Lib.hid ?_
  have hb2 : Below w.heap.size w w2 := hx1.trans (((Below.refl _ w1).alloc hB1 _).trans hx2)
  rw [← hsd] at hown2
  obtain ⟨ad2, cap2, rfl, hr2⟩ := own_shape hown2 (by omega)
  have hm := mark_any _ _ _ hr2
  unfold lmark at hm
  rw [← hd] at hm
  have e8 : (bytes8 d).map vB = [.int .u8 ((byt d 0).toNat : Int), .int .u8 ((byt d 1).toNat : Int), .int .u8 ((byt d 2).toNat : Int), .int .u8 ((byt d 3).toNat : Int), .int .u8 ((byt d 4).toNat : Int), .int .u8 ((byt d 5).toNat : Int), .int .u8 ((byt d 6).toNat : Int), .int .u8 ((byt d 7).toNat : Int)] := rfl
  rw [e8] at hm
  clear hp hown hr1 hx1 hB1 hd
  go_wp2_with (first | (go_at_call 25; refine hm.mono ?_; rintro e w3 ⟨rfl, hx3⟩; have hbe := hx3.trans ((Below.refl _ w3).alloc hx3.size (.cells #[.int .u8 ((byt d 0).toNat : Int), .int .u8 ((byt d 1).toNat : Int), .int .u8 ((byt d 2).toNat : Int), .int .u8 ((byt d 3).toNat : Int), .int .u8 ((byt d 4).toNat : Int), .int .u8 ((byt d 5).toNat : Int), .int .u8 ((byt d 6).toNat : Int), .int .u8 ((byt d 7).toNat : Int)] 48)); have hs2 := hb2.size; have hs3 := hx3.size) | (at_builtin; go_loud (refine app_row _ rfl _ _ 23 rfl w.heap.size 5 (.int .u8 0) 1 Try.underlying23 Try.infoU8 rfl (by decide) _ ((said b).map vB) rfl (own_below hown2 hbe) _ [.int .u8 ((byt d 0).toNat : Int), .int .u8 ((byt d 1).toNat : Int), .int .u8 ((byt d 2).toNat : Int), .int .u8 ((byt d 3).toNat : Int), .int .u8 ((byt d 4).toNat : Int), .int .u8 ((byt d 5).toNat : Int), .int .u8 ((byt d 6).toNat : Int), .int .u8 ((byt d 7).toNat : Int)] rfl (byte_row8 (Own.new w3 #[.int .u8 ((byt d 0).toNat : Int), .int .u8 ((byt d 1).toNat : Int), .int .u8 ((byt d 2).toNat : Int), .int .u8 ((byt d 3).toNat : Int), .int .u8 ((byt d 4).toNat : Int), .int .u8 ((byt d 5).toNat : Int), .int .u8 ((byt d 6).toNat : Int), .int .u8 ((byt d 7).toNat : Int)] _)) (by rw [← e8]; exact byte_one) (by simp; omega) (by simp; omega) ?_; intro v4 w4 hown4 hx4; refine Hid.out ?_)))
  refine Lib.hid ?_
  go_wp2_with fail
  go_ret2
  rw [← e8, ← List.map_append] at hown4
  exact ⟨_, rfl, hown4, (hb2.trans (hbe.mono hs2)).trans hx4⟩
end Go.Proofs.Ytpgnlmhkigpjgaa
