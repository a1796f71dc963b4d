/-
  The closure that decides what is skipped, and run with it.
-/
import Derived.Test.YtfnclecfldddeaaDoorLexSkip
namespace Go.Proofs.YtfnclecfldddeaaDoor
open Go.RowKit
set_option maxRecDepth 100000

def TS (t : TypeId) : Bool := t == 3 || t == 4
def stR (c : Bool) (r : Int) : Bool := r == 10 || r == 35 || c || r == 32
def stI (c : Bool) (r : Int) : Bool := r != 10 && (r == 35 || c)
def stL (L r : Int) : Int := if r = 10 then L + 1 else L
/-- the two variables of the closure: the line, and whether a comment is open -/
structure SkAt (w : World) (bl bc : Nat) (L : Int) (c : Bool) : Prop where
  line : w.heap[bl]? = some (.cells #[.int .i64 L] 3 (0, 0))
  note : w.heap[bc]? = some (.cells #[.bool c] 4 (0, 0))
theorem blk1 {w : World} {b : Nat} {x : Value} {t : TypeId} (h : w.heap[b]? = some (.cells #[x] t (0, 0))) : w.cell? ⟨b, 0, none⟩ = some x ∧ w.frozen? ⟨b, 0, none⟩ = false ∧ b < w.heap.size :=
  ⟨by simp [World.cell?, h], by simp [World.frozen?, h], (Array.getElem?_eq_some_iff.1 h).1⟩
theorem SkAt.ne {w : World} {bl bc : Nat} {L : Int} {c : Bool} (h : SkAt w bl bc L c) : bl ≠ bc := by
  rintro rfl
  have h1 := h.line; have h2 := h.note
  rw [h1] at h2; simp at h2
theorem heap_set_same (w : World) (b i : Nat) (cs : Array Value) (t : TypeId) (v : Value) (h : w.heap[b]? = some (.cells cs t (0, 0))) : (w.setCell ⟨b, i, none⟩ v).heap[b]? = some (.cells (cs.setIfInBounds i v) t (0, 0)) := heap_setCell_same w b i cs t v h
theorem heap_set_other (w : World) (b i k : Nat) (v : Value) (h : k ≠ b) : (w.setCell ⟨b, i, none⟩ v).heap[k]? = w.heap[k]? := Below.heap_setCell w ⟨b, i, none⟩ v k h
theorem Turn.setCell {T : TypeId → Bool} {B : Nat} {W : World} {b i : Nat} {xs : Array Value} {t : TypeId} {v : Value} (hB : B ≤ b) (hb : W.heap[b]? = some (.cells xs t (0, 0))) (ht : T t = true) : Turn (keepJ T) B W (W.setCell ⟨b, i, none⟩ v) := by
  refine ⟨(Below.refl B W).setCell hB v, fun k o hk ho => ?_⟩
  by_cases hkb : k = b
  · subst hkb; rw [hb] at hk; cases hk; simp [keepJ, ht] at ho
  · rw [Below.heap_setCell _ _ _ _ (by simpa using hkb)]; exact hk
theorem SkAt.setL {w : World} {bl bc : Nat} {L : Int} {c : Bool} (h : SkAt w bl bc L c) (L' : Int) : SkAt (w.setCell ⟨bl, 0, none⟩ (.int .i64 L')) bl bc L' c :=
  ⟨heap_set_same _ _ _ _ _ _ h.line, (heap_set_other _ _ _ _ _ (Ne.symm h.ne)).trans h.note⟩
theorem SkAt.setC {w : World} {bl bc : Nat} {L : Int} {c : Bool} (h : SkAt w bl bc L c) (c' : Bool) : SkAt (w.setCell ⟨bc, 0, none⟩ (.bool c')) bl bc L c' :=
  ⟨(heap_set_other _ _ _ _ _ h.ne).trans h.line, heap_set_same _ _ _ _ _ _ h.note⟩
def SkEnd (B bl bc : Nat) (L : Int) (c b : Bool) (w : World) (e : Ending) (w' : World) : Prop := e = .returned (.bool b) ∧ SkAt w' bl bc L c ∧ Turn (keepJ TS) B w w'

set_option maxHeartbeats 1000000 in
theorem skipped_any (r : Int) (B bl bc : Nat) (L : Int) (c : Bool) (w : World) (h : SkAt w bl bc L c) (hL : 0 ≤ L ∧ L ≤ 1000000000000000000) (h1 : B ≤ bl) (h2 : B ≤ bc) :
    Calls Tryd.prog 31 #[.int .i32 r, .pointer (some ⟨bl, 0, none⟩), .pointer (some ⟨bc, 0, none⟩)] w (SkEnd B bl bc (stL L r) (stI c r) (stR c r) w) := by
  obtain ⟨l0, l1, l2⟩ := blk1 h.line
  obtain ⟨c0, c1, c2⟩ := blk1 h.note
  have hne := h.ne
  have hne' := Ne.symm hne
  by_cases h10 : r = 10
  · subst h10
    have T1 := Turn.setCell (T := TS) (i := 0) (v := .int .i64 (L + 1)) h1 h.line rfl
    have hA := h.setL (L + 1)
    have T2 := Turn.setCell (T := TS) (i := 0) (v := .bool false) h2 hA.note rfl
    have hB := hA.setC false
    have HT := T1.trans T2
    clear T1 T2 hA h
    go_enter Tryd.func31, Tryd.ntmps31
    go_wp2_with fail
    go_ret
    exact ⟨rfl, hB, HT⟩
  · have e10 : (r == 10) = false := by simpa using h10
    by_cases h35 : r = 35
    · subst h35
      have T2 := Turn.setCell (T := TS) (i := 0) (v := .bool true) h2 h.note rfl
      have hB := h.setC true
      clear h
      go_enter Tryd.func31, Tryd.ntmps31
      go_wp2_with fail
      go_ret
      exact ⟨rfl, hB, T2⟩
    · have e35 : (r == 35) = false := by simpa using h35
      have HS : stL L r = L := if_neg h10
      cases c with
      | true =>
        rw [HS]
        have HI : stI true r = true := by simp [stI, h10]
        have HR : stR true r = true := by simp [stR]
        rw [HI, HR]
        clear HS HI HR
        go_enter Tryd.func31, Tryd.ntmps31
        go_wp2_with fail
        go_ret
        exact ⟨rfl, h, Turn.refl _ _ _⟩
      | false =>
        rw [HS]
        have HI : stI false r = false := by simp [stI, h35]
        rw [HI]
        by_cases h32 : r = 32
        · subst h32
          clear HS HI
          go_enter Tryd.func31, Tryd.ntmps31
          go_wp2_with fail
          go_ret
          exact ⟨rfl, h, Turn.refl _ _ _⟩
        · have e32 : (r == 32) = false := by simpa using h32
          have HR : stR false r = false := by simp [stR, h10, h35, h32]
          rw [HR]
          clear HS HI HR
          go_enter Tryd.func31, Tryd.ntmps31
          go_wp2_with fail
          go_ret
          exact ⟨rfl, h, Turn.refl _ _ _⟩
theorem skipped_at {b c' : Bool} {L' : Int} (r : Int) (B bl bc : Nat) (L : Int) (c : Bool) (w : World) (h : SkAt w bl bc L c) (hL : 0 ≤ L ∧ L ≤ 1000000000000000000) (h1 : B ≤ bl) (h2 : B ≤ bc)
    (e1 : stR c r = b) (e2 : stI c r = c') (e3 : stL L r = L') :
    Calls Tryd.prog 31 #[.int .i32 r, .pointer (some ⟨bl, 0, none⟩), .pointer (some ⟨bc, 0, none⟩)] w (SkEnd B bl bc L' c' b w) := by
  subst e1 e2 e3; exact skipped_any r B bl bc L c w h hL h1 h2

theorem iter_turn {K : Obj → Bool} {B : Nat} {w wr : World} {k : Nat} {s : ByteArray} {pos p : Nat} (h : Turn K B w wr) (hB : B ≤ k) (hk : w.heap.size ≤ k) (_hit : wr.heap[k]? = some (.stringIter s pos)) : Turn K B w (wr.iterAt k s p) :=
  ⟨Lib.below_iterAt h.1 hB s p, fun i o hi ho => (Lib.iterAt_other wr k i s p (by have := (Array.getElem?_eq_some_iff.1 hi).1; omega)).trans (h.2 i o hi ho)⟩
theorem SkAt.iter {w : World} {bl bc : Nat} {L : Int} {c : Bool} (h : SkAt w bl bc L c) {k : Nat} {s : ByteArray} {pos p : Nat} (hit : w.heap[k]? = some (.stringIter s pos)) : SkAt (w.iterAt k s p) bl bc L c := by
  refine ⟨(Lib.iterAt_other w k bl s p ?_).trans h.line, (Lib.iterAt_other w k bc s p ?_).trans h.note⟩
  · rintro rfl; have := h.line; rw [hit] at this; cases this
  · rintro rfl; have := h.note; rw [hit] at this; cases this

/-- behind run: as many bytes were skipped; the line has moved; a comment is open only at the end -/
def RunEnd (B bl bc : Nat) (L : Int) (s : List UInt8) (w : World) (e : Ending) (w' : World) : Prop :=
  e = .returned (.int .i64 (skipF false s)) ∧ (∃ c, SkAt w' bl bc (L + nl (s.take (skipF false s))) c ∧ (skipF false s < s.length → c = false)) ∧ Turn (keepJ TS) B w w'

/-- what one rune does -/
theorem rune_step (s : List UInt8) (n : Nat) (h : n < s.length) (c : Bool) (L : Int) : ∃ b, stR c (Utf8.decode ⟨s.toArray⟩ n).1 = b ∧ (b = true → 1 ≤ (Utf8.decode ⟨s.toArray⟩ n).2 ∧ n + (Utf8.decode ⟨s.toArray⟩ n).2 ≤ s.length ∧
      skipF c (s.drop n) = (Utf8.decode ⟨s.toArray⟩ n).2 + skipF (stI c (Utf8.decode ⟨s.toArray⟩ n).1) (s.drop (n + (Utf8.decode ⟨s.toArray⟩ n).2)) ∧ stL (L + nl (s.take n)) (Utf8.decode ⟨s.toArray⟩ n).1 = L + nl (s.take (n + (Utf8.decode ⟨s.toArray⟩ n).2))) ∧
    (b = false → skipF c (s.drop n) = 0 ∧ stI c (Utf8.decode ⟨s.toArray⟩ n).1 = false ∧ stL (L + nl (s.take n)) (Utf8.decode ⟨s.toArray⟩ n).1 = L + nl (s.take n)) := by
  refine ⟨_, rfl, ?_⟩
  have hr := skip_rune s n h
  have hd : s.drop n = s[n] :: s.drop (n + 1) := List.drop_eq_getElem_cons h
  have hs : ∀ i, skipF i (s.drop n) = if skB i s[n] then 1 + skipF (nxI i s[n]) (s.drop (n + 1)) else 0 := fun i => by rw [hd, skip_cons]
  have ht : nl (s.take (n + 1)) = nl (s.take n) + if s[n] = 10 then 1 else 0 := by
    rw [List.take_succ_eq_append_getElem h, nl_app, nl_cons]; simp [nl]
  generalize hch : s[n] = ch at *
  split at hr
  · next hlo =>
    rw [hr]
    have q : ∀ k : Nat, k < 256 → (((ch.toNat : Nat) : Int) = (k : Int) ↔ ch = UInt8.ofNat k) := by
      intro k hk
      constructor
      · intro e; have e : ch.toNat = k := by omega
        rw [← e]; simp
      · rintro rfl; simp; omega
    have q10 : ((ch.toNat : Nat) : Int) = 10 ↔ ch = 10 := q 10 (by omega)
    have q35 : ((ch.toNat : Nat) : Int) = 35 ↔ ch = 35 := q 35 (by omega)
    have q32 : ((ch.toNat : Nat) : Int) = 32 ↔ ch = 32 := q 32 (by omega)
    clear q
    have eR : stR c (ch.toNat : Int) = skB c ch := by
      unfold stR skB
      rw [Bool.eq_iff_iff]
      simp only [Bool.or_eq_true, beq_iff_eq]
      rw [q10, q35, q32]
    have eI : stI c (ch.toNat : Int) = nxI c ch := by
      unfold stI nxI
      rw [Bool.eq_iff_iff]
      simp only [Bool.and_eq_true, Bool.or_eq_true, beq_iff_eq, bne_iff_ne]
      rw [ne_eq, q10, q35]
    simp only
    rw [eR, eI, hs c]
    refine ⟨fun hb => ⟨Nat.le_refl _, by omega, by rw [if_pos hb], ?_⟩, fun hb => ⟨by rw [hb]; rfl, ?_, ?_⟩⟩
    · rw [ht]; unfold stL
      by_cases h10 : ch = 10
      · rw [if_pos (q10.2 h10), if_pos h10]; push_cast; omega
      · rw [if_neg (fun e => h10 (q10.1 e)), if_neg h10]; rfl
    · unfold skB at hb; unfold nxI
      simp only [Bool.or_eq_false_iff] at hb
      simp [hb.1.1.2, hb.1.2]
    · unfold stL
      rw [if_neg (fun e => ?_)]
      have := q10.1 e; subst this; revert hb; simp [skB]
  · next hhi =>
    obtain ⟨g1, g2, g3, g4, g5⟩ := hr
    generalize (Utf8.decode ⟨s.toArray⟩ n).2 = m at *
    generalize (Utf8.decode ⟨s.toArray⟩ n).1 = r at *
    have n10 : ((r : Int) == 10) = false := by simp; omega
    have n35 : ((r : Int) == 35) = false := by simp; omega
    have n32 : ((r : Int) == 32) = false := by simp; omega
    have eR : stR c (r : Int) = c := by simp [stR, n10, n35, n32]
    have eI : stI c (r : Int) = c := by unfold stI; rw [n35, bne, n10]; simp
    have eL : stL (L + nl (s.take n)) (r : Int) = L + nl (s.take n) := by unfold stL; rw [if_neg (by omega)]
    rw [eR, eI, eL]
    refine ⟨fun hb => ?_, fun hb => ?_⟩
    · subst hb; exact ⟨g3, g2, g4, by rw [g5]⟩
    · subst hb
      refine ⟨?_, rfl, rfl⟩
      rw [hs false, if_neg]
      have k : ∀ x : UInt8, x.toNat < 128 → (ch == x) = false := by
        intro x hx; rw [beq_eq_false_iff_ne]; rintro rfl; omega
      simp [skB, k 10 (by decide), k 35 (by decide), k 32 (by decide)]
end Go.Proofs.YtfnclecfldddeaaDoor
