/-
  The walks of isLetter, isDigit, and of run with each of them.
-/
import Derived.Test.YtfnclecfldddeaaDoorKit
import Derived.Test.YtfnclecfldddeaaDoorLexPlain
import Derived.Test.YtfnclecfldddeaaDoorProg
import Derived.Lib.OthersKept
import Derived.BigCall
namespace Go.Proofs.YtfnclecfldddeaaDoor
open Go.RowKit
set_option maxRecDepth 100000

def wthR (a b : Int) (r : Int) : Bool := decide (a ≤ r ∧ r ≤ b)
theorem tw_stop {p : UInt8 → Bool} : ∀ {s : List UInt8} {n : Nat} (_ : (s.take n).all p = true) (hn : n < s.length) (_ : p s[n] = false), (s.takeWhile p).length = n
  | [], n, _, hn, _ => by simp at hn
  | c :: r, 0, _, hn, h => by simp only [List.getElem_cons_zero] at h; simp [h]
  | c :: r, n + 1, ha, hn, h => by
    simp only [List.take_succ_cons, List.all_cons, Bool.and_eq_true] at ha
    simp only [List.getElem_cons_succ] at h
    rw [List.takeWhile_cons, if_pos ha.1, List.length_cons, tw_stop ha.2 (by simpa using hn) h]
theorem tw_full {p : UInt8 → Bool} {s : List UInt8} (h : s.all p = true) : (s.takeWhile p).length = s.length := by
  rw [show s.takeWhile p = s from by
    induction s with
    | nil => rfl
    | cons c r ih => simp only [List.all_cons, Bool.and_eq_true] at h; rw [List.takeWhile_cons, if_pos h.1, ih h.2]]
theorem all_step {p : UInt8 → Bool} {s : List UInt8} {n : Nat} (ha : (s.take n).all p = true) (hn : n < s.length) (h : p s[n] = true) : (s.take (n + 1)).all p = true := by
  rw [List.take_succ_eq_append_getElem hn, List.all_append, ha]; simp [h]
theorem byt (s : List UInt8) (n : Nat) (h : n < (⟨s.toArray⟩ : ByteArray).size) : (⟨s.toArray⟩ : ByteArray)[n] = s[n]'(by simpa [ByteArray.size] using h) := rfl
theorem bsz (s : List UInt8) : (⟨s.toArray⟩ : ByteArray).size = s.length := by simp [ByteArray.size]
/-- what a rune is, told by the byte with which it begins -/
theorem rune_in (a b : Nat) (hb : b < 128) (s : List UInt8) (n : Nat) (h : n < s.length) : wthR a b (Utf8.decode ⟨s.toArray⟩ n).1 = decide (a ≤ s[n].toNat ∧ s[n].toNat ≤ b) ∧ (decide (a ≤ s[n].toNat ∧ s[n].toNat ≤ b) = true → (Utf8.decode ⟨s.toArray⟩ n).2 = 1) := by
  have hn : n < (⟨s.toArray⟩ : ByteArray).size := by rw [bsz]; exact h
  by_cases hc : ((⟨s.toArray⟩ : ByteArray)[n]).toNat < 128
  · rw [decode_ascii _ n hn hc]
    refine ⟨?_, fun _ => rfl⟩
    unfold wthR
    rw [byt, Bool.eq_iff_iff]; simp; try omega
  · have h2 := (decode_high _ n hn (by omega)).1
    rw [byt] at hc
    have e : decide (a ≤ s[n].toNat ∧ s[n].toNat ≤ b) = false := by simp; omega
    rw [e]
    refine ⟨?_, fun hh => by cases hh⟩
    unfold wthR; simp; omega

theorem letter_any (r : Int) (w : World) : Calls Tryd.prog 40 #[.int .i32 r] w (Same (.bool (wthR 97 122 r)) w) := by
  by_cases hA : 97 ≤ r
  · go_enter Tryd.func40, Tryd.ntmps40
    go_wp2_with fail
    go_ret
    exact Same.mk (boolV (by unfold wthR; simp; omega)) rfl
  · have hA' : decide (97 ≤ r) = false := by simpa using hA
    go_enter Tryd.func40, Tryd.ntmps40
    go_wp2_with fail
    go_ret
    exact Same.mk (boolV (by unfold wthR; simp; omega)) rfl
theorem letter_at {b : Bool} (r : Int) (w : World) (h : wthR 97 122 r = b) : Calls Tryd.prog 40 #[.int .i32 r] w (Same (.bool b) w) := by subst h; exact letter_any r w

theorem digit_any (r : Int) (w : World) : Calls Tryd.prog 47 #[.int .i32 r] w (Same (.bool (wthR 48 57 r)) w) := by
  by_cases hA : 48 ≤ r
  · go_enter Tryd.func47, Tryd.ntmps47
    go_wp2_with fail
    go_ret
    exact Same.mk (boolV (by unfold wthR; simp; omega)) rfl
  · have hA' : decide (48 ≤ r) = false := by simpa using hA
    go_enter Tryd.func47, Tryd.ntmps47
    go_wp2_with fail
    go_ret
    exact Same.mk (boolV (by unfold wthR; simp; omega)) rfl
theorem digit_at {b : Bool} (r : Int) (w : World) (h : wthR 48 57 r = b) : Calls Tryd.prog 47 #[.int .i32 r] w (Same (.bool b) w) := by subst h; exact digit_any r w

set_option maxHeartbeats 1000000 in
theorem run_letter (s : List UInt8) (hs : s.length ≤ 140737488355328) (w : World) : Calls Tryd.prog 32 #[.string ⟨s.toArray⟩, .func (.func 40) #[] #[]] w (Ret (.int .i64 (nLet s)) w) := by
  have hz := bsz s
  have hlow := fun (n : Nat) (h : n < s.length) => rune_in 97 122 (by decide) s n h
  have HZ := Lib.hid hz
  generalize hS : (⟨s.toArray⟩ : ByteArray) = S at *
  have HS := Lib.hid hS
  have HL := Lib.hid hlow
  clear hz hS hlow
  go_enter Tryd.func32, Tryd.ntmps32
  go_wp2_with fail
  go_loopw [] (fun wr => ∃ pos : Nat, wr.heap[w.heap.size]? = some (.stringIter S pos) ∧ Below w.heap.size w wr ∧ pos ≤ s.length ∧ (s.take pos).all letB = true) (fun wr => s.length - wr.iterPos w.heap.size)
  case atStart =>
    refine ⟨0, ?_, ((Below.refl _ w).alloc (Nat.le_refl _) _), by omega, by simp⟩
    have := World.iter_heap w S 0
    simpa using this
  case round =>
    obtain ⟨pos, hit, hbw, hpl, hall⟩ := hrel
    by_cases hp : pos < s.length
    · have hp' : pos < S.size := by rw [HZ.out]; exact hp
      have hnx : ∀ ty, (Instr.next (.pointer (some ⟨w.heap.size, 0, none⟩)) true ty).run Tryd.prog wr = _ := fun ty => Lib.run_next_any_at wr w.heap.size S pos ty hit hp'
      obtain ⟨h1, h2⟩ := HL.out pos hp
      have h0 : decide (97 ≤ s[pos].toNat ∧ s[pos].toNat ≤ 122) = letB s[pos] := rfl
      have hbw2 := Lib.below_iterAt hbw (k := w.heap.size) (Nat.le_refl _) S (pos + (Utf8.decode S pos).2)
      have hit2 := Lib.iterAt_heap wr w.heap.size S pos (pos + (Utf8.decode S pos).2) hit
      rw [h0] at h1 h2
      clear h0
      cases hc : letB s[pos] with
      | true =>
        rw [hc] at h1
        have e2 := h2 hc
        rw [e2] at hit2 hbw2 hnx
        have H1 := Lib.hid h1
        have HC := Lib.hid hc
        clear h1 h2 hc e2
        go_wp2_with fail
        refine (letter_at _ _ H1.out).mono ?_
        rintro e w' ⟨rfl, rfl⟩
        go_wp2_with fail
        go_roundw
        case rel => exact ⟨pos + 1, hit2, hbw2, by omega, all_step hall hp HC.out⟩
        case measure => simp only [World.iterPos, hit2, hit]; omega
      | false =>
        rw [hc] at h1
        have H1 := Lib.hid h1
        have HQ := Lib.hid (tw_stop hall hp hc)
        clear h1 h2 hc
        go_wp2_with fail
        refine (letter_at _ _ H1.out).mono ?_
        rintro e w' ⟨rfl, rfl⟩
        go_wp2_with fail
        go_ret
        exact Ret.mk (by unfold nLet; rw [HQ.out]; rfl) hbw2
    · have hp' : ¬ pos < S.size := by rw [HZ.out]; exact hp
      have hnx : ∀ ty, (Instr.next (.pointer (some ⟨w.heap.size, 0, none⟩)) true ty).run Tryd.prog wr = _ := fun ty => Lib.run_next_end_at wr w.heap.size S pos ty hit hp'
      rw [List.take_of_length_le (by omega)] at hall
      have HQ := Lib.hid (tw_full hall)
      go_wp2_with fail
      go_ret
      exact Ret.mk (by unfold nLet; rw [HQ.out, HZ.out]; rfl) hbw

set_option maxHeartbeats 1000000 in
theorem run_digit (s : List UInt8) (hs : s.length ≤ 140737488355328) (w : World) : Calls Tryd.prog 32 #[.string ⟨s.toArray⟩, .func (.func 47) #[] #[]] w (Ret (.int .i64 (nDig s)) w) := by
  have hz := bsz s
  have hlow := fun (n : Nat) (h : n < s.length) => rune_in 48 57 (by decide) s n h
  have HZ := Lib.hid hz
  generalize hS : (⟨s.toArray⟩ : ByteArray) = S at *
  have HS := Lib.hid hS
  have HL := Lib.hid hlow
  clear hz hS hlow
  go_enter Tryd.func32, Tryd.ntmps32
  go_wp2_with fail
  go_loopw [] (fun wr => ∃ pos : Nat, wr.heap[w.heap.size]? = some (.stringIter S pos) ∧ Below w.heap.size w wr ∧ pos ≤ s.length ∧ (s.take pos).all digB = true) (fun wr => s.length - wr.iterPos w.heap.size)
  case atStart =>
    refine ⟨0, ?_, ((Below.refl _ w).alloc (Nat.le_refl _) _), by omega, by simp⟩
    have := World.iter_heap w S 0
    simpa using this
  case round =>
    obtain ⟨pos, hit, hbw, hpl, hall⟩ := hrel
    by_cases hp : pos < s.length
    · have hp' : pos < S.size := by rw [HZ.out]; exact hp
      have hnx : ∀ ty, (Instr.next (.pointer (some ⟨w.heap.size, 0, none⟩)) true ty).run Tryd.prog wr = _ := fun ty => Lib.run_next_any_at wr w.heap.size S pos ty hit hp'
      obtain ⟨h1, h2⟩ := HL.out pos hp
      have h0 : decide (48 ≤ s[pos].toNat ∧ s[pos].toNat ≤ 57) = digB s[pos] := rfl
      have hbw2 := Lib.below_iterAt hbw (k := w.heap.size) (Nat.le_refl _) S (pos + (Utf8.decode S pos).2)
      have hit2 := Lib.iterAt_heap wr w.heap.size S pos (pos + (Utf8.decode S pos).2) hit
      rw [h0] at h1 h2
      clear h0
      cases hc : digB s[pos] with
      | true =>
        rw [hc] at h1
        have e2 := h2 hc
        rw [e2] at hit2 hbw2 hnx
        have H1 := Lib.hid h1
        have HC := Lib.hid hc
        clear h1 h2 hc e2
        go_wp2_with fail
        refine (digit_at _ _ H1.out).mono ?_
        rintro e w' ⟨rfl, rfl⟩
        go_wp2_with fail
        go_roundw
        case rel => exact ⟨pos + 1, hit2, hbw2, by omega, all_step hall hp HC.out⟩
        case measure => simp only [World.iterPos, hit2, hit]; omega
      | false =>
        rw [hc] at h1
        have H1 := Lib.hid h1
        have HQ := Lib.hid (tw_stop hall hp hc)
        clear h1 h2 hc
        go_wp2_with fail
        refine (digit_at _ _ H1.out).mono ?_
        rintro e w' ⟨rfl, rfl⟩
        go_wp2_with fail
        go_ret
        exact Ret.mk (by unfold nDig; rw [HQ.out]; rfl) hbw2
    · have hp' : ¬ pos < S.size := by rw [HZ.out]; exact hp
      have hnx : ∀ ty, (Instr.next (.pointer (some ⟨w.heap.size, 0, none⟩)) true ty).run Tryd.prog wr = _ := fun ty => Lib.run_next_end_at wr w.heap.size S pos ty hit hp'
      rw [List.take_of_length_le (by omega)] at hall
      have HQ := Lib.hid (tw_full hall)
      go_wp2_with fail
      go_ret
      exact Ret.mk (by unfold nDig; rw [HQ.out, HZ.out]; rfl) hbw
end Go.Proofs.YtfnclecfldddeaaDoor
