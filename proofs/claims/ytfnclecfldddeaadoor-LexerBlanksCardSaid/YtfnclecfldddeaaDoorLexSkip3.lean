/-
  run over what is skipped; and what that is to the tokens.
-/
import Derived.Test.YtfnclecfldddeaaDoorLexSkip2
namespace Go.Proofs.YtfnclecfldddeaaDoor
open Go.RowKit
set_option maxRecDepth 100000

set_option maxHeartbeats 1000000 in
theorem run_skip (s : List UInt8) (hs : s.length ≤ 1000000) (B bl bc : Nat) (L : Int) (w : World) (h : SkAt w bl bc L false) (hL : 0 ≤ L ∧ L ≤ 1000000000000) (h1 : B ≤ bl) (h2 : B ≤ bc) (hB : B ≤ w.heap.size) :
    Calls Tryd.prog 32 #[.string ⟨s.toArray⟩, .func (.func 31) #[] #[.pointer (some ⟨bl, 0, none⟩), .pointer (some ⟨bc, 0, none⟩)]] w (RunEnd B bl bc L s w) := by
  have HZ := Lib.hid (bsz s)
  have HD := fun n hn c => rune_step s n hn c L
  generalize hS : (⟨s.toArray⟩ : ByteArray) = S at *
  clear hS
  have HL := Lib.hid HD
  clear HD
  go_enter Tryd.func32, Tryd.ntmps32
  go_wp2_with fail
  go_loopw [] (fun wr => ∃ (pos : Nat) (c : Bool), wr.heap[w.heap.size]? = some (.stringIter S pos) ∧ SkAt wr bl bc (L + nl (s.take pos)) c ∧ Turn (keepJ TS) B w wr ∧ pos ≤ s.length ∧ skipF false s = pos + skipF c (s.drop pos)) (fun wr => s.length - wr.iterPos w.heap.size)
  case atStart =>
    refine ⟨0, false, ?_, ?_, Turn.of_below hB ((Below.refl _ w).alloc (Nat.le_refl _) _), by omega, by simp⟩
    · have := World.iter_heap w S 0
      simpa using this
    · have hz1 := (blk1 h.line).2.2; have hz2 := (blk1 h.note).2.2
      have e : L + nl (s.take 0) = L := by simp [nl]
      rw [e]
      exact ⟨(Below.heap_alloc _ _ _ hz1).trans h.line, (Below.heap_alloc _ _ _ hz2).trans h.note⟩
  case round =>
    obtain ⟨pos, c, hit, hsk, hbw, hpl, hsum⟩ := hrel
    have hnl : nl (s.take pos) ≤ s.length := by
      have := List.count_le_length (a := (10 : UInt8)) (l := s.take pos); rw [List.length_take] at this; unfold nl; omega
    by_cases hp : pos < s.length
    · have hp' : pos < S.size := by rw [HZ.out]; exact hp
      have hnx : ∀ ty, (Instr.next (.pointer (some ⟨w.heap.size, 0, none⟩)) true ty).run Tryd.prog wr = _ := fun ty => Lib.run_next_any_at wr w.heap.size S pos ty hit hp'
      obtain ⟨b, e1, ht, hf⟩ := HL.out pos hp c
      have hit2 := Lib.iterAt_heap wr w.heap.size S pos (pos + (Utf8.decode S pos).2) hit
      have hbw2 := iter_turn (p := pos + (Utf8.decode S pos).2) hbw hB (Nat.le_refl _) hit
      have hsk2 := hsk.iter (p := pos + (Utf8.decode S pos).2) hit
      have hitp : wr.iterPos w.heap.size = pos := by simp only [World.iterPos, hit]
      have HP := Lib.hid hitp
      clear hitp
      generalize wr.iterAt w.heap.size S (pos + (Utf8.decode S pos).2) = W at *
      generalize (Utf8.decode S pos).2 = m at *
      generalize (((Utf8.decode S pos).1 : Nat) : Int) = r at *
      clear hsk hbw hit
      cases b with
      | true =>
        obtain ⟨q1, q2, q3, q4⟩ := ht rfl
        have HQ := Lib.hid q3
        have HS := Lib.hid hsum
        have hcall := skipped_at r B bl bc (L + nl (s.take pos)) c W hsk2 (by omega) h1 h2 e1 rfl q4
        clear ht hf q3 q4 e1 hsum
        go_wp2_with fail
        refine hcall.mono ?_
        rintro e W2 ⟨rfl, k1, k2⟩
        have hit3 := k2.2 _ _ hit2 rfl
        clear hcall
        go_wp2_with fail
        go_roundw
        case rel => exact ⟨pos + m, _, hit3, k1, hbw2.trans k2, q2, by rw [HS.out, HQ.out]; omega⟩
        case measure =>
          rw [HP.out]
          simp only [World.iterPos, hit3]; omega
      | false =>
        obtain ⟨q1, q2, q3⟩ := hf rfl
        have HQ := Lib.hid q1
        have HS := Lib.hid hsum
        have hcall := skipped_at r B bl bc (L + nl (s.take pos)) c W hsk2 (by omega) h1 h2 e1 q2 q3
        clear ht hf q1 q2 q3 e1 hsum
        go_wp2_with fail
        refine hcall.mono ?_
        rintro e W2 ⟨rfl, k1, k2⟩
        clear hcall
        go_wp2_with fail
        go_ret
        have e : skipF false s = pos := by rw [HS.out, HQ.out]; rfl
        exact ⟨by rw [e]; rfl, ⟨false, by rw [e]; exact k1, fun _ => rfl⟩, hbw2.trans k2⟩
    · have hp' : ¬ pos < S.size := by rw [HZ.out]; exact hp
      have hnx : ∀ ty, (Instr.next (.pointer (some ⟨w.heap.size, 0, none⟩)) true ty).run Tryd.prog wr = _ := fun ty => Lib.run_next_end_at wr w.heap.size S pos ty hit hp'
      have hpe : pos = s.length := by omega
      rw [List.drop_of_length_le (by omega)] at hsum
      have HS := Lib.hid hsum
      have HE := Lib.hid hpe
      clear hsum hpe
      go_wp2_with fail
      go_ret
      have e : skipF false s = s.length := by rw [HS.out, ← HE.out]; simp [skipF]
      refine ⟨by rw [e, HZ.out]; rfl, ⟨c, ?_, fun hlt => by omega⟩, hbw⟩
      rw [e, ← HE.out]; exact hsk

theorem toks_skip (cnt : Nat) : ∀ (s : List UInt8) (i : Bool) (line : Nat), toksF line cnt (if i = true then s.dropWhile (· != 10) else s) = toksF (line + nl (s.take (skipF i s))) cnt (s.drop (skipF i s))
  | [], i, line => by cases i <;> simp [nl, skipF]
  | c :: r, i, line => by
    rw [skip_cons]
    by_cases h : skB i c = true
    · rw [if_pos h, Nat.add_comm 1, List.take_succ_cons, List.drop_succ_cons, nl_cons]
      have ih := toks_skip cnt r (nxI i c)
      by_cases h10 : c = 10
      · subst h10
        have e : nxI i 10 = false := by simp [nxI]
        rw [e] at ih ⊢
        have e2 : (if i = true then (10 :: r).dropWhile (· != 10) else 10 :: r) = 10 :: r := by cases i <;> simp
        rw [e2, toks_feed]
        simp only [Bool.false_eq_true, if_false, if_true] at ih ⊢
        rw [ih, show line + (nl (r.take (skipF false r)) + 1) = line + 1 + nl (r.take (skipF false r)) by omega]
      · rw [if_neg h10]
        by_cases hi : c = 35 ∨ i = true
        · have e : nxI i c = true := by
            unfold nxI
            rcases hi with rfl | rfl
            · rfl
            · simp [h10]
          rw [e] at ih ⊢
          simp only [if_true] at ih
          have e2 : toksF line cnt (if i = true then (c :: r).dropWhile (· != 10) else c :: r) = toksF line cnt (r.dropWhile (· != 10)) := by
            cases i with
            | true => rw [if_pos rfl, List.dropWhile_cons, if_pos (by simpa using h10)]
            | false =>
              rcases hi with rfl | h'
              · rw [if_neg (by simp), toks_note]
              · cases h'
          rw [e2, ih]; rfl
        · have hc : c ≠ 35 ∧ i = false := by
            refine ⟨fun e => hi (.inl e), ?_⟩
            cases i with
            | true => exact absurd (.inr rfl) hi
            | false => rfl
          obtain ⟨h35, rfl⟩ := hc
          have h32 : c = 32 := by simpa [skB, h10, h35] using h
          subst h32
          have e : nxI false 32 = false := by decide
          rw [e] at ih ⊢
          simp only [Bool.false_eq_true, if_false] at ih ⊢
          rw [toks_blank, ih]; rfl
    · rw [if_neg h]
      have h' : skB i c = false := by simpa using h
      have hi : i = false := by simp [skB] at h'; exact h'.1.2
      subst hi
      simp [nl]
theorem skip_stop : ∀ (s : List UInt8) (i : Bool) (c : UInt8) (r : List UInt8), s.drop (skipF i s) = c :: r → c ≠ 32 ∧ c ≠ 10 ∧ c ≠ 35
  | [], i, c, r, h => by simp at h
  | d :: q, i, c, r, h => by
    rw [skip_cons] at h
    by_cases hk : skB i d = true
    · rw [if_pos hk, Nat.add_comm 1, List.drop_succ_cons] at h
      exact skip_stop q _ c r h
    · rw [if_neg hk] at h
      simp only [List.drop_zero, List.cons.injEq] at h
      obtain ⟨rfl, rfl⟩ := h
      have h' : skB i d = false := by simpa using hk
      simp [skB] at h'
      exact ⟨h'.2, h'.1.1.1, h'.1.1.2⟩
end Go.Proofs.YtfnclecfldddeaaDoor
