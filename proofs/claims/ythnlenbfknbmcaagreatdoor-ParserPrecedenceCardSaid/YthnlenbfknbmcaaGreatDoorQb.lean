/-
  The lexer's small functions.
-/
import Derived.Test.YthnlenbfknbmcaaGreatDoorQa
import Derived.Test.YthnlenbfknbmcaaGreatDoorProg
import Derived.Lib.OthersKept
import Derived.BigCall
import Derived.RangeFuncNested
import Derived.RangeFuncBound
import Derived.RangeFuncCalls
import Derived.RangeFuncLeaves
import Derived.RangeFuncBox
import Derived.Shelf.Abstract
import Derived.Shelf.RegionOpen
import Derived.WalkKit
import Derived.OwnWalkIn
import Derived.TacticsInMore
import Derived.LoopNIn
import Derived.LoopIn
import Derived.Lib.DecodeN
import Derived.Shelf.Strconv.ErrVarAll
import Derived.Shelf.Strings.Cut
import Derived.Shelf.Strings.Search3
import Derived.Shelf.Strings.Prefix
import Derived.Shelf.Strings.Repeat
import Derived.Shelf.Strings.BuilderK
import Derived.Shelf.Pu.Clone
import Derived.Ground.NamesProg
import Derived.Ground.MpProg
namespace Go.Proofs.YthnlenbfknbmcaaGreatDoor
open Go.RowKit
set_option maxRecDepth 100000

def wthR (a b : Int) (r : Int) : Bool := decide (a ≤ r ∧ r ≤ b)
theorem tw_stop {p : UInt8 → Bool} : ∀ {s : List UInt8} {n : Nat} (_ : (s.take n).all p = true) (hn : n < s.length) (_ : p s[n] = false), (s.takeWhile p).length = n
  | [], n, _, hn, _ => by simp at hn
  | c :: r, 0, _, hn, h => by simp only [List.getElem_cons_zero] at h; simp [h]
  | c :: r, n + 1, ha, hn, h => by
    simp only [List.take_succ_cons, List.all_cons, Bool.and_eq_true] at ha
    simp only [List.getElem_cons_succ] at h
    rw [List.takeWhile_cons, if_pos ha.1, List.length_cons, tw_stop ha.2 (by simpa using hn) h]
theorem tw_full {p : UInt8 → Bool} {s : List UInt8} (h : s.all p = true) : (s.takeWhile p).length = s.length := by
  rw [show s.takeWhile p = s from by
    induction s with
    | nil => rfl
    | cons c r ih => simp only [List.all_cons, Bool.and_eq_true] at h; rw [List.takeWhile_cons, if_pos h.1, ih h.2]]
theorem all_step {p : UInt8 → Bool} {s : List UInt8} {n : Nat} (ha : (s.take n).all p = true) (hn : n < s.length) (h : p s[n] = true) : (s.take (n + 1)).all p = true := by
  rw [List.take_succ_eq_append_getElem hn, List.all_append, ha]; simp [h]
theorem byt (s : List UInt8) (n : Nat) (h : n < (⟨s.toArray⟩ : ByteArray).size) : (⟨s.toArray⟩ : ByteArray)[n] = s[n]'(by simpa [ByteArray.size] using h) := rfl
theorem bsz (s : List UInt8) : (⟨s.toArray⟩ : ByteArray).size = s.length := by simp [ByteArray.size]
/-- what a rune is, told by the byte with which it begins -/
theorem rune_in (a b : Nat) (hb : b < 128) (s : List UInt8) (n : Nat) (h : n < s.length) : wthR a b (Utf8.decode ⟨s.toArray⟩ n).1 = decide (a ≤ s[n].toNat ∧ s[n].toNat ≤ b) ∧ (decide (a ≤ s[n].toNat ∧ s[n].toNat ≤ b) = true → (Utf8.decode ⟨s.toArray⟩ n).2 = 1) := by
  have hn : n < (⟨s.toArray⟩ : ByteArray).size := by rw [bsz]; exact h
  by_cases hc : ((⟨s.toArray⟩ : ByteArray)[n]).toNat < 128
  · rw [decode_ascii _ n hn hc]
    refine ⟨?_, fun _ => rfl⟩
    unfold wthR
    rw [byt, Bool.eq_iff_iff]; simp; try omega
  · have h2 := (decode_high _ n hn (by omega)).1
    rw [byt] at hc
    have e : decide (a ≤ s[n].toNat ∧ s[n].toNat ≤ b) = false := by simp; omega
    rw [e]
    refine ⟨?_, fun hh => by cases hh⟩
    unfold wthR; simp; omega

theorem letter_any (r : Int) (w : World) : Calls Tryz.prog 81 #[.int .i32 r] w (Same (.bool (wthR 97 122 r)) w) := by
  by_cases hA : 97 ≤ r
  · go_enter Tryz.func81, Tryz.ntmps81
    go_wp2_with fail
    go_ret
    exact Same.mk (boolV (by unfold wthR; simp; omega)) rfl
  · have hA' : decide (97 ≤ r) = false := by simpa using hA
    go_enter Tryz.func81, Tryz.ntmps81
    go_wp2_with fail
    go_ret
    exact Same.mk (boolV (by unfold wthR; simp; omega)) rfl
theorem letter_at {b : Bool} (r : Int) (w : World) (h : wthR 97 122 r = b) : Calls Tryz.prog 81 #[.int .i32 r] w (Same (.bool b) w) := by subst h; exact letter_any r w

theorem digit_any (r : Int) (w : World) : Calls Tryz.prog 88 #[.int .i32 r] w (Same (.bool (wthR 48 57 r)) w) := by
  by_cases hA : 48 ≤ r
  · go_enter Tryz.func88, Tryz.ntmps88
    go_wp2_with fail
    go_ret
    exact Same.mk (boolV (by unfold wthR; simp; omega)) rfl
  · have hA' : decide (48 ≤ r) = false := by simpa using hA
    go_enter Tryz.func88, Tryz.ntmps88
    go_wp2_with fail
    go_ret
    exact Same.mk (boolV (by unfold wthR; simp; omega)) rfl
theorem digit_at {b : Bool} (r : Int) (w : World) (h : wthR 48 57 r = b) : Calls Tryz.prog 88 #[.int .i32 r] w (Same (.bool b) w) := by subst h; exact digit_any r w

set_option maxHeartbeats 1000000 in
theorem run_letter (s : List UInt8) (hs : s.length ≤ 140737488355328) (w : World) : Calls Tryz.prog 62 #[.string ⟨s.toArray⟩, .func (.func 81) #[] #[]] w (Ret (.int .i64 (nLet s)) w) := by
  have hz := bsz s
  have hlow := fun (n : Nat) (h : n < s.length) => rune_in 97 122 (by decide) s n h
  have HZ := Lib.hid hz
  generalize hS : (⟨s.toArray⟩ : ByteArray) = S at *
  have HS := Lib.hid hS
  have HL := Lib.hid hlow
  clear hz hS hlow
  go_enter Tryz.func62, Tryz.ntmps62
  go_wp2_with fail
  go_loopw [] (fun wr => ∃ pos : Nat, wr.heap[w.heap.size]? = some (.stringIter S pos) ∧ Below w.heap.size w wr ∧ pos ≤ s.length ∧ (s.take pos).all letB = true) (fun wr => s.length - wr.iterPos w.heap.size)
  case atStart =>
    refine ⟨0, ?_, ((Below.refl _ w).alloc (Nat.le_refl _) _), by omega, by simp⟩
    have := World.iter_heap w S 0
    simpa using this
  case round =>
    obtain ⟨pos, hit, hbw, hpl, hall⟩ := hrel
    by_cases hp : pos < s.length
    · have hp' : pos < S.size := by rw [HZ.out]; exact hp
      have hnx : ∀ ty, (Instr.next (.pointer (some ⟨w.heap.size, 0, none⟩)) true ty).run Tryz.prog wr = _ := fun ty => Lib.run_next_any_at wr w.heap.size S pos ty hit hp'
      obtain ⟨h1, h2⟩ := HL.out pos hp
      have h0 : decide (97 ≤ s[pos].toNat ∧ s[pos].toNat ≤ 122) = letB s[pos] := rfl
      have hbw2 := Lib.below_iterAt hbw (k := w.heap.size) (Nat.le_refl _) S (pos + (Utf8.decode S pos).2)
      have hit2 := Lib.iterAt_heap wr w.heap.size S pos (pos + (Utf8.decode S pos).2) hit
      rw [h0] at h1 h2
      clear h0
      cases hc : letB s[pos] with
      | true =>
        rw [hc] at h1
        have e2 := h2 hc
        rw [e2] at hit2 hbw2 hnx
        have H1 := Lib.hid h1
        have HC := Lib.hid hc
        clear h1 h2 hc e2
        go_wp2_with fail
        refine (letter_at _ _ H1.out).mono ?_
        rintro e w' ⟨rfl, rfl⟩
        go_wp2_with fail
        go_roundw
        case rel => exact ⟨pos + 1, hit2, hbw2, by omega, all_step hall hp HC.out⟩
        case measure => simp only [World.iterPos, hit2, hit]; omega
      | false =>
        rw [hc] at h1
        have H1 := Lib.hid h1
        have HQ := Lib.hid (tw_stop hall hp hc)
        clear h1 h2 hc
        go_wp2_with fail
        refine (letter_at _ _ H1.out).mono ?_
        rintro e w' ⟨rfl, rfl⟩
        go_wp2_with fail
        go_ret
        exact Ret.mk (by unfold nLet; rw [HQ.out]; rfl) hbw2
    · have hp' : ¬ pos < S.size := by rw [HZ.out]; exact hp
      have hnx : ∀ ty, (Instr.next (.pointer (some ⟨w.heap.size, 0, none⟩)) true ty).run Tryz.prog wr = _ := fun ty => Lib.run_next_end_at wr w.heap.size S pos ty hit hp'
      rw [List.take_of_length_le (by omega)] at hall
      have HQ := Lib.hid (tw_full hall)
      go_wp2_with fail
      go_ret
      exact Ret.mk (by unfold nLet; rw [HQ.out, HZ.out]; rfl) hbw

set_option maxHeartbeats 1000000 in
theorem run_digit (s : List UInt8) (hs : s.length ≤ 140737488355328) (w : World) : Calls Tryz.prog 62 #[.string ⟨s.toArray⟩, .func (.func 88) #[] #[]] w (Ret (.int .i64 (nDig s)) w) := by
  have hz := bsz s
  have hlow := fun (n : Nat) (h : n < s.length) => rune_in 48 57 (by decide) s n h
  have HZ := Lib.hid hz
  generalize hS : (⟨s.toArray⟩ : ByteArray) = S at *
  have HS := Lib.hid hS
  have HL := Lib.hid hlow
  clear hz hS hlow
  go_enter Tryz.func62, Tryz.ntmps62
  go_wp2_with fail
  go_loopw [] (fun wr => ∃ pos : Nat, wr.heap[w.heap.size]? = some (.stringIter S pos) ∧ Below w.heap.size w wr ∧ pos ≤ s.length ∧ (s.take pos).all digB = true) (fun wr => s.length - wr.iterPos w.heap.size)
  case atStart =>
    refine ⟨0, ?_, ((Below.refl _ w).alloc (Nat.le_refl _) _), by omega, by simp⟩
    have := World.iter_heap w S 0
    simpa using this
  case round =>
    obtain ⟨pos, hit, hbw, hpl, hall⟩ := hrel
    by_cases hp : pos < s.length
    · have hp' : pos < S.size := by rw [HZ.out]; exact hp
      have hnx : ∀ ty, (Instr.next (.pointer (some ⟨w.heap.size, 0, none⟩)) true ty).run Tryz.prog wr = _ := fun ty => Lib.run_next_any_at wr w.heap.size S pos ty hit hp'
      obtain ⟨h1, h2⟩ := HL.out pos hp
      have h0 : decide (48 ≤ s[pos].toNat ∧ s[pos].toNat ≤ 57) = digB s[pos] := rfl
      have hbw2 := Lib.below_iterAt hbw (k := w.heap.size) (Nat.le_refl _) S (pos + (Utf8.decode S pos).2)
      have hit2 := Lib.iterAt_heap wr w.heap.size S pos (pos + (Utf8.decode S pos).2) hit
      rw [h0] at h1 h2
      clear h0
      cases hc : digB s[pos] with
      | true =>
        rw [hc] at h1
        have e2 := h2 hc
        rw [e2] at hit2 hbw2 hnx
        have H1 := Lib.hid h1
        have HC := Lib.hid hc
        clear h1 h2 hc e2
        go_wp2_with fail
        refine (digit_at _ _ H1.out).mono ?_
        rintro e w' ⟨rfl, rfl⟩
        go_wp2_with fail
        go_roundw
        case rel => exact ⟨pos + 1, hit2, hbw2, by omega, all_step hall hp HC.out⟩
        case measure => simp only [World.iterPos, hit2, hit]; omega
      | false =>
        rw [hc] at h1
        have H1 := Lib.hid h1
        have HQ := Lib.hid (tw_stop hall hp hc)
        clear h1 h2 hc
        go_wp2_with fail
        refine (digit_at _ _ H1.out).mono ?_
        rintro e w' ⟨rfl, rfl⟩
        go_wp2_with fail
        go_ret
        exact Ret.mk (by unfold nDig; rw [HQ.out]; rfl) hbw2
    · have hp' : ¬ pos < S.size := by rw [HZ.out]; exact hp
      have hnx : ∀ ty, (Instr.next (.pointer (some ⟨w.heap.size, 0, none⟩)) true ty).run Tryz.prog wr = _ := fun ty => Lib.run_next_end_at wr w.heap.size S pos ty hit hp'
      rw [List.take_of_length_le (by omega)] at hall
      have HQ := Lib.hid (tw_full hall)
      go_wp2_with fail
      go_ret
      exact Ret.mk (by unfold nDig; rw [HQ.out, HZ.out]; rfl) hbw
end Go.Proofs.YthnlenbfknbmcaaGreatDoor
namespace Go.Proofs.YthnlenbfknbmcaaGreatDoor
open Go.RowKit Go.Shelf

def keepJ (T : TypeId → Bool) : Obj → Bool
  | .cells _ t _ => !T t
  | _ => true
def keepI (T : TypeId → Bool) : Obj → Bool
  | .cells _ t _ => !T t
  | _ => false

/-- below B all is as it was, and so is every block that 'keep' names -/
def Turn (keep : Obj → Bool) (B : Nat) (W W' : World) : Prop := Below B W W' ∧ ∀ (k : Nat) (o : Obj), W.heap[k]? = some o → keep o = true → W'.heap[k]? = some o
theorem Turn.of_below {keep : Obj → Bool} {B : Nat} {W W' : World} (hB : B ≤ W.heap.size) (h : Below W.heap.size W W') : Turn keep B W W' :=
  ⟨h.mono hB, fun k _ hk _ => (h.block k (Array.getElem?_eq_some_iff.1 hk).1).trans hk⟩
theorem Turn.toI {T : TypeId → Bool} {B : Nat} {W W' : World} (h : Turn (keepJ T) B W W') : Turn (keepI T) B W W' :=
  ⟨h.1, fun k o hk ho => h.2 k o hk (by cases o <;> simp_all [keepI, keepJ])⟩
theorem Turn.less {keep : Obj → Bool} {B C : Nat} {W W' : World} (h : Turn keep B W W') (hc : C ≤ B) : Turn keep C W W' := ⟨h.1.mono hc, h.2⟩
theorem Turn.trans {keep : Obj → Bool} {B : Nat} {X Y Z : World} (h : Turn keep B X Y) (k : Turn keep B Y Z) : Turn keep B X Z := ⟨h.1.trans k.1, fun i o hi ho => k.2 i o (h.2 i o hi ho) ho⟩
theorem Turn.refl (keep : Obj → Bool) (B : Nat) (W : World) : Turn keep B W W := ⟨Below.refl _ _, fun _ _ h _ => h⟩
theorem Turn.drew {keep : Obj → Bool} {B : Nat} {W W' : World} (h : Turn keep B W W') : Turn keep B W W'.drew := ⟨h.1.drew, h.2⟩
theorem Turn.putObj {T : TypeId → Bool} {B : Nat} {W : World} {l : Nat} {o o' : Obj} (hB : B ≤ l) (hl : W.heap[l]? = some o) (ho : o.isCells = false) : Turn (keepI T) B W (W.putObj l o') := by
  refine ⟨⟨rfl, rfl, rfl, by simp, fun k hk => World.putObj_heap_other (by omega)⟩, fun k o1 hk h1 => ?_⟩
  rw [World.putObj_heap_other (fun e => ?_)]
  · exact hk
  · subst e
    rw [hl] at hk; cases hk
    cases o <;> simp_all [keepI, Obj.isCells]

def Abide {α : Type} (keep : Obj → Bool) (B : Nat) (I : List α → World → Prop) : Prop := ∀ s W W', I s W → Turn keep B W W' → I s W'

/-- what a round keeps: whatever cells from B on are not the caller's own rows -/
def KpM (B : Nat) (Mine : World → Nat → Prop) (W W' : World) : Prop := W.heap.size ≤ W'.heap.size ∧ ∀ (k : Nat) (xs : Array Value) (t : TypeId) (fr : Nat × Nat), B ≤ k → W.heap[k]? = some (.cells xs t fr) → ¬ Mine W k → W'.heap[k]? = some (.cells xs t fr)
/-- what a round may do: go on, or leave -/
def RoundEnd {α : Type} (J Jx : List α → World → Prop) (B : Nat) (Mine : World → Nat → Prop) (pre : List α) (W1 : World) (e : Ending) (W' : World) : Prop :=
  (e = .returned (.bool true) ∧ J pre W' ∧ KpM B Mine W1 W') ∨ (e = .returned (.bool false) ∧ Jx pre W')
def IterEnd {α : Type} (J Jx : List α → World → Prop) (xs : List α) (e : Ending) (W' : World) : Prop :=
  (∃ v, e = .returned v) ∧ (J xs W' ∨ ∃ pre, pre <+: xs ∧ Jx pre W')
/-- the caller's own rows: of type R, named by what the caller's own cells hold -/
structure Minds {α : Type} (R : TypeId) (keep : Obj → Bool) (B : Nat) (J : List α → World → Prop) (Mine : World → Nat → Prop) : Prop where
  kind : ∀ pre W k, J pre W → Mine W k → ∃ xs fr, W.heap[k]? = some (.cells xs R fr)
  low : ∀ pre W k, J pre W → Mine W k → B ≤ k
  stay : ∀ pre W W' k, J pre W → Turn keep B W W' → Mine W' k → Mine W k
/-- THE ITERATOR's CONTRACT -/
def Gives {α : Type} (T : TypeId → Bool) (R : TypeId) (F : Fence) (n : Nat) (P : Program) (g : Nat) (lb : Array Value) (encs : α → Array Value) (Inv : World → Prop) (xs : List α) (w : World) : Prop :=
  ∀ (l : Nat) (J Jx : List α → World → Prop) (Mine : World → Nat → Prop) (W : World), Below w.heap.size w W → Abide (keepJ T) W.heap.size J → Abide (keepJ T) W.heap.size Jx → Minds R (keepJ T) W.heap.size J Mine → (∀ pre W1, J pre W1 → Inv W1) →
    (∀ pre x W1, J pre W1 → (pre ++ [x]) <+: xs → YieldAt F (n - 1) P l (encs x) W1 (RoundEnd J Jx W.heap.size Mine (pre ++ [x]) W1)) →
    J [] W →
    CallsIn F n P g (#[.func (.yield l) #[] #[]] ++ lb) W (IterEnd J Jx xs)

def BodyEnd {α : Type} (B : Nat) (Mine : World → Nat → Prop) (I Ix : List α → World → Prop) (pre : List α) (W W2 : World) (e : Exit) (W3 : World) : Prop :=
  (e = .normal ∧ KeepsFrom B W2 W3 ∧ KpM B Mine W W3 ∧ I pre W3) ∨ (e = .ret ∧ KeepsFrom B W2 W3 ∧ Ix pre W3)

variable {F : Fence} {n : Nat} {P : Program}

theorem range_gives {α : Type} {T : TypeId → Bool} {R0 : TypeId} {g : Operand} {ps : Array Tmp} {assign body : Code} {Q : Exit → Act → World → Prop} {a : Act} {w : World}
    (hro : F.round = none) (h1 : 1 ≤ n) {gf : Nat} {lb : Array Value} (hg : a.eval g = .func (.func gf) #[] lb) (hFg : F.fn gf) (eg : ∀ args w, (callFunc gf args).run P w = .ok (.enter gf args) w)
    {encs : α → Array Value} {Inv : World → Prop} {xs : List α} {w0 : World} (hseq : Gives T R0 F (n - 1) P gf lb encs Inv xs w0) (Mine : World → Nat → Prop) (hb0 : Below w0.heap.size w0 w) (hps : ∀ x, (encs x).size = ps.size)
    (I Ix : List α → World → Prop) (hI : Abide (keepI T) w.heap.size I) (hIx : Abide (keepI T) w.heap.size Ix) (hM : Minds R0 (keepI T) w.heap.size I Mine) (hInv : ∀ pre W, I pre W → Inv W) (h0 : I [] w)
    (hround : ∀ (l : Nat) (pre : List α) (x : α) (W : World), w.heap.size ≤ l → I pre W → (pre ++ [x]) <+: xs →
      assign.wpIn (F.inRound l) (n - 1 - 1) P (Exit.then (fun a' W1 => KeepsFrom w.heap.size W W1 ∧
          ∀ W2, Turn (keepI T) w.heap.size W1 W2 → (∀ (k : Nat) (o : Obj), W1.heap[k]? = some o → o.isCells = true → W2.heap[k]? = some o) →
            body.wpIn (F.inRound l) (n - 1 - 1) P (fun e _ W3 => BodyEnd w.heap.size Mine I Ix (pre ++ [x]) W W2 e W3) a' W2) (fun _ _ _ => False))
        { tmps := (ps.zip (encs x)).foldl (fun t (p, v) => t.setIfInBounds p v) a.tmps, defers := [] } W)
    (hdone : ∀ (D : Nat) (W : World), w.heap.size ≤ D → I xs W → W.heap[D]? = some (.deferred (some [])) → Q .normal { a with defers := { target := .collected D, args := #[] } :: a.defers } W)
    (hstop : ∀ (D : Nat) (pre : List α) (W : World), w.heap.size ≤ D → pre <+: xs → Ix pre W → W.heap[D]? = some (.deferred (some [])) → Code.ret.wpIn F n P Q { a with defers := { target := .collected D, args := #[] } :: a.defers } W) :
    (Code.rangeFunc g ps assign body).wpIn F n P Q a w := by
  refine wpIn_rangeFunc fun fn hfn => ?_
  rw [hro]
  obtain ⟨R, hR⟩ : ∃ R : LoopState → Option Code → Loop, R = fun st pe => { state := st, pending := pe, fn, tmps := a.tmps, params := ps, assign, body, defers := w.heap.size } := ⟨_, rfl⟩
  obtain ⟨W0, hW0⟩ : ∃ W0, (w.alloc (.deferred (some []))).alloc (.loop (R .ready none)) = W0 := ⟨_, rfl⟩
  have hs0 : W0.heap.size = w.heap.size + 2 := by rw [← hW0]; simp
  have hL : W0.heap[w.heap.size + 1]? = some (.loop (R .ready none)) := by
    have := World.alloc_heap_new (w.alloc (.deferred (some []))) (.loop (R .ready none))
    rwa [World.size_alloc, hW0] at this
  have hD : W0.heap[w.heap.size]? = some (.deferred (some [])) := by
    rw [← hW0]; exact (Below.heap_alloc _ _ _ (by simp)).trans (World.alloc_heap_new w _)
  have hbw : Below w.heap.size w W0 := by rw [← hW0]; exact ((Below.refl _ w).alloc (Nat.le_refl _) _).alloc (by simp) _
  have hI0 : I [] W0 := hI _ _ _ h0 (Turn.of_below (Nat.le_refl _) hbw)
  refine ⟨w.heap.size + 1, [{ target := .collected w.heap.size, args := #[] }], W0, { target := .fn (.func gf) lb, args := #[.func (.yield (w.heap.size + 1)) #[] #[]] }, W0, gf, #[.func (.yield (w.heap.size + 1)) #[] #[]] ++ lb, W0, ?_, ?_, ?_, ?_, fun _ => h1, ?_⟩
  · rw [← hW0, hR]; exact run_enterLoop_outer _ _ _ _ _
  · simp only [resolve, hg]; simp [go_sem]
  · intro f' hf'; simp [Target.leads] at hf'; subst hf'; exact hFg
  · simp [invoke, go_sem, eg]
  refine (hseq (w.heap.size + 1) (fun pre W => I pre W ∧ W.heap[w.heap.size + 1]? = some (.loop (R .ready none)) ∧ W.heap[w.heap.size]? = some (.deferred (some [])))
    (fun pre W => Ix pre W ∧ W.heap[w.heap.size + 1]? = some (.loop (R .done (some .ret))) ∧ W.heap[w.heap.size]? = some (.deferred (some []))) Mine W0 (hb0.trans (hbw.mono hb0.size)) ?_ ?_
    ⟨fun pre W k h hm => hM.kind pre W k h.1 hm, fun pre W k h hm => (by
      obtain ⟨xs', fr, hc⟩ := hM.kind pre W k h.1 hm
      have hlo := hM.low pre W k h.1 hm
      have n1 : k ≠ w.heap.size + 1 := fun e => by subst e; rw [h.2.1] at hc; cases hc
      have n2 : k ≠ w.heap.size := fun e => by subst e; rw [h.2.2] at hc; cases hc
      omega), fun pre W W' k h ht hm => hM.stay pre W W' k h.1 ((ht.less (by omega)).toI) hm⟩ (fun pre W h => hInv pre W h.1) ?_ ⟨hI0, hL, hD⟩).mono ?_
  · rintro s A B' ⟨g1, g2, g3⟩ ht
    exact ⟨hI _ _ _ g1 ((ht.less (by omega)).toI), ht.2 _ _ g2 rfl, ht.2 _ _ g3 rfl⟩
  · rintro s A B' ⟨g1, g2, g3⟩ ht
    exact ⟨hIx _ _ _ g1 ((ht.less (by omega)).toI), ht.2 _ _ g2 rfl, ht.2 _ _ g3 rfl⟩
  · rintro pre x W ⟨hi, hl, hd⟩ hlen
    have hy := run_yield (P := P) (args := encs x) hl (by rw [hR]; exact hps x)
    rw [hR] at hy
    refine ⟨fn, _, assign, body, hy, roundIn_of_wpIn hfn (wpIn_mono (hround _ pre x W (by omega) hi hlen) ?_)⟩
    intro e a1 W1 hp
    cases e with
    | normal =>
      obtain ⟨k1, hbody⟩ := hp
      have hl1 := k1.same _ _ (by omega) hl rfl
      have hd1 := k1.same _ _ (Nat.le_refl _) hd rfl
      refine ⟨_, run_beginRound hl1 (by rw [hR]), ?_⟩
      have hl2 : (W1.putObj (w.heap.size + 1) (.loop { R .ready none with state := .busy })).heap[w.heap.size + 1]? = some (.loop { R .ready none with state := .busy }) := World.putObj_heap_same (Array.getElem?_eq_some_iff.1 hl1).1
      have hd2 : (W1.putObj (w.heap.size + 1) (.loop { R .ready none with state := .busy })).heap[w.heap.size]? = some (.deferred (some [])) := (World.putObj_heap_other (by omega)).trans hd1
      refine wpIn_mono (hbody _ (Turn.putObj (by omega) hl1 rfl) (fun k o hk ho => ?_)) ?_
      · rw [World.putObj_heap_other (fun e => by subst e; rw [hl1] at hk; cases hk; cases ho)]; exact hk
      rintro e a3 W3 (⟨rfl, k3, ⟨p3a, p3b⟩, hi3⟩ | ⟨rfl, k3, hi3⟩)
      · have hl3 := k3.same _ _ (by omega) hl2 rfl
        have hd3 := k3.same _ _ (Nat.le_refl _) hd2 rfl
        have hr := run_endRound (P := P) none hl3
        refine ⟨_, _, hr, .inl ⟨rfl, ⟨hI _ _ _ hi3 (Turn.putObj (by omega) hl3 rfl), ?_, (World.putObj_heap_other (by omega)).trans hd3⟩, by simpa using p3a, fun k xs t fr hB hk hm => ?_⟩⟩
        · rw [World.putObj_heap_same (Array.getElem?_eq_some_iff.1 hl3).1, hR]; rfl
        · have hq := p3b k xs t fr (by omega) hk hm
          rw [World.putObj_heap_other (fun e => by subst e; rw [hl3] at hq; cases hq)]
          exact hq
      · have hl3 := k3.same _ _ (by omega) hl2 rfl
        have hd3 := k3.same _ _ (Nat.le_refl _) hd2 rfl
        have hr := run_endRound (P := P) (some .ret) hl3
        refine ⟨_, _, hr, .inr ⟨rfl, hIx _ _ _ hi3 (Turn.putObj (by omega) hl3 rfl), ?_, (World.putObj_heap_other (by omega)).trans hd3⟩⟩
        rw [World.putObj_heap_same (Array.getElem?_eq_some_iff.1 hl3).1, hR]; rfl
    | _ => exact hp.elim
  · rintro e W2 ⟨⟨v, rfl⟩, ⟨hi, hl, hd⟩ | ⟨pre, hpre, hi, hl, hd⟩⟩
    · have hE := run_endLoop (P := P) hl (by rw [hR]; simp)
      rw [show (R .ready none).pending = none from by rw [hR]] at hE
      refine ⟨none, _, hE, hdone _ _ (Nat.le_refl _) (hI _ _ _ hi (Turn.putObj (by omega) hl rfl)) ((World.putObj_heap_other (by omega)).trans hd)⟩
    · have hE := run_endLoop (P := P) hl (by rw [hR]; simp)
      rw [show (R .done (some .ret)).pending = some .ret from by rw [hR]] at hE
      refine ⟨some .ret, _, hE, hstop _ pre _ (Nat.le_refl _) hpre (hIx _ _ _ hi (Turn.putObj (by omega) hl rfl)) ((World.putObj_heap_other (by omega)).trans hd)⟩
end Go.Proofs.YthnlenbfknbmcaaGreatDoor
namespace Go.Proofs.YthnlenbfknbmcaaGreatDoor
open Go.RowKit
set_option maxRecDepth 100000

/-- how many bytes are skipped, in a comment or not -/
def skipF : Bool → List UInt8 → Nat
  | _, [] => 0
  | i, c :: r => if c = 10 then 1 + skipF false r else if c = 35 ∨ i = true then 1 + skipF true r else if c = 32 then 1 + skipF false r else 0
def skB (i : Bool) (c : UInt8) : Bool := c == 10 || c == 35 || i || c == 32
def nxI (i : Bool) (c : UInt8) : Bool := c != 10 && (c == 35 || i)
theorem skip_cons (i : Bool) (c : UInt8) (r : List UInt8) : skipF i (c :: r) = if skB i c then 1 + skipF (nxI i c) r else 0 := by
  rw [skipF]
  unfold skB nxI
  by_cases h1 : c = 10
  · subst h1; simp
  · have hne : (c != 10) = true := by simpa using h1
    by_cases h2 : c = 35
    · subst h2; simp
    · by_cases h3 : c = 32
      · subst h3; cases i <;> simp
      · cases i <;> simp [h1, h2, h3, hne]
theorem skip_hi (b : List UInt8) : ∀ a : List UInt8, (∀ x ∈ a, 128 ≤ x.toNat) → skipF true (a ++ b) = a.length + skipF true b
  | [], _ => by simp
  | c :: r, h => by
    have hc := h c (by simp)
    have e : skB true c = true := by simp [skB]
    have e2 : nxI true c = true := by
      have : c ≠ 10 := by rintro rfl; revert hc; decide
      simp [nxI, this]
    rw [List.cons_append, skip_cons, if_pos e, e2, skip_hi b r (fun x hx => h x (by simp [hx])), List.length_cons]; omega
theorem skip_le : ∀ (s : List UInt8) (i : Bool), skipF i s ≤ s.length
  | [], i => by simp [skipF]
  | c :: r, i => by
    rw [skip_cons]
    have := skip_le r (nxI i c)
    split <;> simp <;> omega
theorem nl_hi {a : List UInt8} (h : ∀ x ∈ a, 128 ≤ x.toNat) : nl a = 0 := by
  unfold nl; rw [List.count_eq_zero]; intro hm; have := h 10 hm; revert this; decide

/-- the bytes of a rune that is no ASCII -/
theorem decode_bytes (s : ByteArray) (pos : Nat) (h : pos < s.size) (ha : 128 ≤ (s.get! pos).toNat) : ∀ j, j < (Utf8.decode s pos).2 → pos + j < s.size ∧ 128 ≤ (s.get! (pos + j)).toNat := by
  intro j hj
  have hn : ¬ (s.get! pos).toNat < 128 := by omega
  by_cases h0 : j = 0
  · subst h0; exact ⟨by simpa using h, by simpa using ha⟩
  simp only [Utf8.decode, Nat.add_zero, if_neg hn] at hj
  have hgo : ∀ k, (decide (pos + k < s.size) && (s.get! (pos + k)).toNat / 64 == 2) = true → pos + k < s.size ∧ 128 ≤ (s.get! (pos + k)).toNat := by
    intro k hk
    simp only [Bool.and_eq_true, decide_eq_true_eq, beq_iff_eq] at hk
    omega
  split at hj
  · next h1 =>
    simp only [Bool.and_eq_true] at h1
    split at hj
    · obtain rfl : j = 1 := by simp at hj; omega
      exact hgo 1 (by simpa using h1.2)
    · simp at hj; omega
  · split at hj
    · next h1 =>
      simp only [Bool.and_eq_true] at h1
      split at hj
      · have : j = 1 ∨ j = 2 := by simp at hj; omega
        rcases this with rfl | rfl
        · exact hgo 1 (by simpa using h1.1.2)
        · exact hgo 2 (by simpa using h1.2)
      · simp at hj; omega
    · split at hj
      · next h1 =>
        simp only [Bool.and_eq_true] at h1
        split at hj
        · have : j = 1 ∨ j = 2 ∨ j = 3 := by simp at hj; omega
          rcases this with rfl | rfl | rfl
          · exact hgo 1 (by simpa using h1.1.1.2)
          · exact hgo 2 (by simpa using h1.1.2)
          · exact hgo 3 (by simpa using h1.2)
        · simp at hj; omega
      · simp at hj; omega
theorem get_byt (s : List UInt8) (n : Nat) (h : n < s.length) : (⟨s.toArray⟩ : ByteArray).get! n = s[n] := by
  have : (⟨s.toArray⟩ : ByteArray).get! n = s.toArray[n]! := rfl
  rw [this]; simp [h]
/-- one rune: what becomes of the count, the lines and the comment -/
theorem skip_rune (s : List UInt8) (n : Nat) (h : n < s.length) :
    if s[n].toNat < 128 then Utf8.decode ⟨s.toArray⟩ n = (s[n].toNat, 1) else (128 ≤ (Utf8.decode ⟨s.toArray⟩ n).1 ∧ n + (Utf8.decode ⟨s.toArray⟩ n).2 ≤ s.length ∧ 1 ≤ (Utf8.decode ⟨s.toArray⟩ n).2 ∧
      skipF true (s.drop n) = (Utf8.decode ⟨s.toArray⟩ n).2 + skipF true (s.drop (n + (Utf8.decode ⟨s.toArray⟩ n).2)) ∧ nl (s.take (n + (Utf8.decode ⟨s.toArray⟩ n).2)) = nl (s.take n)) := by
  have hn : n < (⟨s.toArray⟩ : ByteArray).size := by rw [bsz]; exact h
  split
  · next hc => exact decode_ascii _ n hn (by rw [byt]; exact hc)
  · next hc =>
    obtain ⟨h1, h2⟩ := decode_high ⟨s.toArray⟩ n hn (by rw [byt]; omega)
    have hb := decode_bytes ⟨s.toArray⟩ n hn (by rw [get_byt _ _ h]; omega)
    rw [bsz] at hb
    generalize (Utf8.decode ⟨s.toArray⟩ n).2 = m at *
    have hle : n + m ≤ s.length := by have := (hb (m - 1) (by omega)).1; omega
    have hall : ∀ x ∈ (s.drop n).take m, 128 ≤ x.toNat := by
      intro x hx
      obtain ⟨j, hj, rfl⟩ := List.getElem_of_mem hx
      have hj' : j < m := by rw [List.length_take] at hj; omega
      have := (hb j hj').2
      rw [get_byt _ _ (by omega)] at this
      simpa using this
    have hl : ((s.drop n).take m).length = m := by rw [List.length_take, List.length_drop]; omega
    refine ⟨h1, hle, h2, ?_, ?_⟩
    · have e : s.drop n = (s.drop n).take m ++ s.drop (n + m) := by rw [← List.drop_drop, List.take_append_drop]
      conv => lhs; rw [e]
      rw [skip_hi _ _ hall, hl]
    · have e : s.take (n + m) = s.take n ++ (s.drop n).take m := List.take_add
      rw [e]
      have := nl_hi hall
      unfold nl at *
      rw [List.count_append, this]; omega
end Go.Proofs.YthnlenbfknbmcaaGreatDoor
namespace Go.Proofs.YthnlenbfknbmcaaGreatDoor
open Go.RowKit
set_option maxRecDepth 100000

def TS (t : TypeId) : Bool := t == 3 || t == 4
def stR (c : Bool) (r : Int) : Bool := r == 10 || r == 35 || c || r == 32
def stI (c : Bool) (r : Int) : Bool := r != 10 && (r == 35 || c)
def stL (L r : Int) : Int := if r = 10 then L + 1 else L
/-- the two variables of the closure: the line, and whether a comment is open -/
structure SkAt (w : World) (bl bc : Nat) (L : Int) (c : Bool) : Prop where
  line : w.heap[bl]? = some (.cells #[.int .i64 L] 3 (0, 0))
  note : w.heap[bc]? = some (.cells #[.bool c] 4 (0, 0))
theorem blk1 {w : World} {b : Nat} {x : Value} {t : TypeId} (h : w.heap[b]? = some (.cells #[x] t (0, 0))) : w.cell? ⟨b, 0, none⟩ = some x ∧ w.frozen? ⟨b, 0, none⟩ = false ∧ b < w.heap.size :=
  ⟨by simp [World.cell?, h], by simp [World.frozen?, h], (Array.getElem?_eq_some_iff.1 h).1⟩
theorem SkAt.ne {w : World} {bl bc : Nat} {L : Int} {c : Bool} (h : SkAt w bl bc L c) : bl ≠ bc := by
  rintro rfl
  have h1 := h.line; have h2 := h.note
  rw [h1] at h2; simp at h2
theorem heap_set_same (w : World) (b i : Nat) (cs : Array Value) (t : TypeId) (v : Value) (h : w.heap[b]? = some (.cells cs t (0, 0))) : (w.setCell ⟨b, i, none⟩ v).heap[b]? = some (.cells (cs.setIfInBounds i v) t (0, 0)) := heap_setCell_same w b i cs t v h
theorem heap_set_other (w : World) (b i k : Nat) (v : Value) (h : k ≠ b) : (w.setCell ⟨b, i, none⟩ v).heap[k]? = w.heap[k]? := Below.heap_setCell w ⟨b, i, none⟩ v k h
theorem Turn.setCell {T : TypeId → Bool} {B : Nat} {W : World} {b i : Nat} {xs : Array Value} {t : TypeId} {v : Value} (hB : B ≤ b) (hb : W.heap[b]? = some (.cells xs t (0, 0))) (ht : T t = true) : Turn (keepJ T) B W (W.setCell ⟨b, i, none⟩ v) := by
  refine ⟨(Below.refl B W).setCell hB v, fun k o hk ho => ?_⟩
  by_cases hkb : k = b
  · subst hkb; rw [hb] at hk; cases hk; simp [keepJ, ht] at ho
  · rw [Below.heap_setCell _ _ _ _ (by simpa using hkb)]; exact hk
theorem SkAt.setL {w : World} {bl bc : Nat} {L : Int} {c : Bool} (h : SkAt w bl bc L c) (L' : Int) : SkAt (w.setCell ⟨bl, 0, none⟩ (.int .i64 L')) bl bc L' c :=
  ⟨heap_set_same _ _ _ _ _ _ h.line, (heap_set_other _ _ _ _ _ (Ne.symm h.ne)).trans h.note⟩
theorem SkAt.setC {w : World} {bl bc : Nat} {L : Int} {c : Bool} (h : SkAt w bl bc L c) (c' : Bool) : SkAt (w.setCell ⟨bc, 0, none⟩ (.bool c')) bl bc L c' :=
  ⟨(heap_set_other _ _ _ _ _ h.ne).trans h.line, heap_set_same _ _ _ _ _ _ h.note⟩
def SkEnd (B bl bc : Nat) (L : Int) (c b : Bool) (w : World) (e : Ending) (w' : World) : Prop := e = .returned (.bool b) ∧ SkAt w' bl bc L c ∧ Turn (keepJ TS) B w w'

set_option maxHeartbeats 1000000 in
theorem skipped_any (r : Int) (B bl bc : Nat) (L : Int) (c : Bool) (w : World) (h : SkAt w bl bc L c) (hL : 0 ≤ L ∧ L ≤ 1000000000000000000) (h1 : B ≤ bl) (h2 : B ≤ bc) :
    Calls Tryz.prog 61 #[.int .i32 r, .pointer (some ⟨bl, 0, none⟩), .pointer (some ⟨bc, 0, none⟩)] w (SkEnd B bl bc (stL L r) (stI c r) (stR c r) w) := by
  obtain ⟨l0, l1, l2⟩ := blk1 h.line
  obtain ⟨c0, c1, c2⟩ := blk1 h.note
  have hne := h.ne
  have hne' := Ne.symm hne
  by_cases h10 : r = 10
  · subst h10
    have T1 := Turn.setCell (T := TS) (i := 0) (v := .int .i64 (L + 1)) h1 h.line rfl
    have hA := h.setL (L + 1)
    have T2 := Turn.setCell (T := TS) (i := 0) (v := .bool false) h2 hA.note rfl
    have hB := hA.setC false
    have HT := T1.trans T2
    clear T1 T2 hA h
    go_enter Tryz.func61, Tryz.ntmps61
    go_wp2_with fail
    go_ret
    exact ⟨rfl, hB, HT⟩
  · have e10 : (r == 10) = false := by simpa using h10
    by_cases h35 : r = 35
    · subst h35
      have T2 := Turn.setCell (T := TS) (i := 0) (v := .bool true) h2 h.note rfl
      have hB := h.setC true
      clear h
      go_enter Tryz.func61, Tryz.ntmps61
      go_wp2_with fail
      go_ret
      exact ⟨rfl, hB, T2⟩
    · have e35 : (r == 35) = false := by simpa using h35
      have HS : stL L r = L := if_neg h10
      cases c with
      | true =>
        rw [HS]
        have HI : stI true r = true := by simp [stI, h10]
        have HR : stR true r = true := by simp [stR]
        rw [HI, HR]
        clear HS HI HR
        go_enter Tryz.func61, Tryz.ntmps61
        go_wp2_with fail
        go_ret
        exact ⟨rfl, h, Turn.refl _ _ _⟩
      | false =>
        rw [HS]
        have HI : stI false r = false := by simp [stI, h35]
        rw [HI]
        by_cases h32 : r = 32
        · subst h32
          clear HS HI
          go_enter Tryz.func61, Tryz.ntmps61
          go_wp2_with fail
          go_ret
          exact ⟨rfl, h, Turn.refl _ _ _⟩
        · have e32 : (r == 32) = false := by simpa using h32
          have HR : stR false r = false := by simp [stR, h10, h35, h32]
          rw [HR]
          clear HS HI HR
          go_enter Tryz.func61, Tryz.ntmps61
          go_wp2_with fail
          go_ret
          exact ⟨rfl, h, Turn.refl _ _ _⟩
theorem skipped_at {b c' : Bool} {L' : Int} (r : Int) (B bl bc : Nat) (L : Int) (c : Bool) (w : World) (h : SkAt w bl bc L c) (hL : 0 ≤ L ∧ L ≤ 1000000000000000000) (h1 : B ≤ bl) (h2 : B ≤ bc)
    (e1 : stR c r = b) (e2 : stI c r = c') (e3 : stL L r = L') :
    Calls Tryz.prog 61 #[.int .i32 r, .pointer (some ⟨bl, 0, none⟩), .pointer (some ⟨bc, 0, none⟩)] w (SkEnd B bl bc L' c' b w) := by
  subst e1 e2 e3; exact skipped_any r B bl bc L c w h hL h1 h2

theorem iter_turn {K : Obj → Bool} {B : Nat} {w wr : World} {k : Nat} {s : ByteArray} {pos p : Nat} (h : Turn K B w wr) (hB : B ≤ k) (hk : w.heap.size ≤ k) (_hit : wr.heap[k]? = some (.stringIter s pos)) : Turn K B w (wr.iterAt k s p) :=
  ⟨Lib.below_iterAt h.1 hB s p, fun i o hi ho => (Lib.iterAt_other wr k i s p (by have := (Array.getElem?_eq_some_iff.1 hi).1; omega)).trans (h.2 i o hi ho)⟩
theorem SkAt.iter {w : World} {bl bc : Nat} {L : Int} {c : Bool} (h : SkAt w bl bc L c) {k : Nat} {s : ByteArray} {pos p : Nat} (hit : w.heap[k]? = some (.stringIter s pos)) : SkAt (w.iterAt k s p) bl bc L c := by
  refine ⟨(Lib.iterAt_other w k bl s p ?_).trans h.line, (Lib.iterAt_other w k bc s p ?_).trans h.note⟩
  · rintro rfl; have := h.line; rw [hit] at this; cases this
  · rintro rfl; have := h.note; rw [hit] at this; cases this

/-- behind run: as many bytes were skipped; the line has moved; a comment is open only at the end -/
def RunEnd (B bl bc : Nat) (L : Int) (s : List UInt8) (w : World) (e : Ending) (w' : World) : Prop :=
  e = .returned (.int .i64 (skipF false s)) ∧ (∃ c, SkAt w' bl bc (L + nl (s.take (skipF false s))) c ∧ (skipF false s < s.length → c = false)) ∧ Turn (keepJ TS) B w w'

/-- what one rune does -/
theorem rune_step (s : List UInt8) (n : Nat) (h : n < s.length) (c : Bool) (L : Int) : ∃ b, stR c (Utf8.decode ⟨s.toArray⟩ n).1 = b ∧ (b = true → 1 ≤ (Utf8.decode ⟨s.toArray⟩ n).2 ∧ n + (Utf8.decode ⟨s.toArray⟩ n).2 ≤ s.length ∧
      skipF c (s.drop n) = (Utf8.decode ⟨s.toArray⟩ n).2 + skipF (stI c (Utf8.decode ⟨s.toArray⟩ n).1) (s.drop (n + (Utf8.decode ⟨s.toArray⟩ n).2)) ∧ stL (L + nl (s.take n)) (Utf8.decode ⟨s.toArray⟩ n).1 = L + nl (s.take (n + (Utf8.decode ⟨s.toArray⟩ n).2))) ∧
    (b = false → skipF c (s.drop n) = 0 ∧ stI c (Utf8.decode ⟨s.toArray⟩ n).1 = false ∧ stL (L + nl (s.take n)) (Utf8.decode ⟨s.toArray⟩ n).1 = L + nl (s.take n)) := by
  refine ⟨_, rfl, ?_⟩
  have hr := skip_rune s n h
  have hd : s.drop n = s[n] :: s.drop (n + 1) := List.drop_eq_getElem_cons h
  have hs : ∀ i, skipF i (s.drop n) = if skB i s[n] then 1 + skipF (nxI i s[n]) (s.drop (n + 1)) else 0 := fun i => by rw [hd, skip_cons]
  have ht : nl (s.take (n + 1)) = nl (s.take n) + if s[n] = 10 then 1 else 0 := by
    rw [List.take_succ_eq_append_getElem h, nl_app, nl_cons]; simp [nl]
  generalize hch : s[n] = ch at *
  split at hr
  · next hlo =>
    rw [hr]
    have q : ∀ k : Nat, k < 256 → (((ch.toNat : Nat) : Int) = (k : Int) ↔ ch = UInt8.ofNat k) := by
      intro k hk
      constructor
      · intro e; have e : ch.toNat = k := by omega
        rw [← e]; simp
      · rintro rfl; simp; omega
    have q10 : ((ch.toNat : Nat) : Int) = 10 ↔ ch = 10 := q 10 (by omega)
    have q35 : ((ch.toNat : Nat) : Int) = 35 ↔ ch = 35 := q 35 (by omega)
    have q32 : ((ch.toNat : Nat) : Int) = 32 ↔ ch = 32 := q 32 (by omega)
    clear q
    have eR : stR c (ch.toNat : Int) = skB c ch := by
      unfold stR skB
      rw [Bool.eq_iff_iff]
      simp only [Bool.or_eq_true, beq_iff_eq]
      rw [q10, q35, q32]
    have eI : stI c (ch.toNat : Int) = nxI c ch := by
      unfold stI nxI
      rw [Bool.eq_iff_iff]
      simp only [Bool.and_eq_true, Bool.or_eq_true, beq_iff_eq, bne_iff_ne]
      rw [ne_eq, q10, q35]
    simp only
    rw [eR, eI, hs c]
    refine ⟨fun hb => ⟨Nat.le_refl _, by omega, by rw [if_pos hb], ?_⟩, fun hb => ⟨by rw [hb]; rfl, ?_, ?_⟩⟩
    · rw [ht]; unfold stL
      by_cases h10 : ch = 10
      · rw [if_pos (q10.2 h10), if_pos h10]; push_cast; omega
      · rw [if_neg (fun e => h10 (q10.1 e)), if_neg h10]; rfl
    · unfold skB at hb; unfold nxI
      simp only [Bool.or_eq_false_iff] at hb
      simp [hb.1.1.2, hb.1.2]
    · unfold stL
      rw [if_neg (fun e => ?_)]
      have := q10.1 e; subst this; revert hb; simp [skB]
  · next hhi =>
    obtain ⟨g1, g2, g3, g4, g5⟩ := hr
    generalize (Utf8.decode ⟨s.toArray⟩ n).2 = m at *
    generalize (Utf8.decode ⟨s.toArray⟩ n).1 = r at *
    have n10 : ((r : Int) == 10) = false := by simp; omega
    have n35 : ((r : Int) == 35) = false := by simp; omega
    have n32 : ((r : Int) == 32) = false := by simp; omega
    have eR : stR c (r : Int) = c := by simp [stR, n10, n35, n32]
    have eI : stI c (r : Int) = c := by unfold stI; rw [n35, bne, n10]; simp
    have eL : stL (L + nl (s.take n)) (r : Int) = L + nl (s.take n) := by unfold stL; rw [if_neg (by omega)]
    rw [eR, eI, eL]
    refine ⟨fun hb => ?_, fun hb => ?_⟩
    · subst hb; exact ⟨g3, g2, g4, by rw [g5]⟩
    · subst hb
      refine ⟨?_, rfl, rfl⟩
      rw [hs false, if_neg]
      have k : ∀ x : UInt8, x.toNat < 128 → (ch == x) = false := by
        intro x hx; rw [beq_eq_false_iff_ne]; rintro rfl; omega
      simp [skB, k 10 (by decide), k 35 (by decide), k 32 (by decide)]
end Go.Proofs.YthnlenbfknbmcaaGreatDoor
namespace Go.Proofs.YthnlenbfknbmcaaGreatDoor
open Go.RowKit
set_option maxRecDepth 100000

set_option maxHeartbeats 1000000 in
theorem run_skip (s : List UInt8) (hs : s.length ≤ 1000000) (B bl bc : Nat) (L : Int) (w : World) (h : SkAt w bl bc L false) (hL : 0 ≤ L ∧ L ≤ 1000000000000) (h1 : B ≤ bl) (h2 : B ≤ bc) (hB : B ≤ w.heap.size) :
    Calls Tryz.prog 62 #[.string ⟨s.toArray⟩, .func (.func 61) #[] #[.pointer (some ⟨bl, 0, none⟩), .pointer (some ⟨bc, 0, none⟩)]] w (RunEnd B bl bc L s w) := by
  have HZ := Lib.hid (bsz s)
  have HD := fun n hn c => rune_step s n hn c L
  generalize hS : (⟨s.toArray⟩ : ByteArray) = S at *
  clear hS
  have HL := Lib.hid HD
  clear HD
  go_enter Tryz.func62, Tryz.ntmps62
  go_wp2_with fail
  go_loopw [] (fun wr => ∃ (pos : Nat) (c : Bool), wr.heap[w.heap.size]? = some (.stringIter S pos) ∧ SkAt wr bl bc (L + nl (s.take pos)) c ∧ Turn (keepJ TS) B w wr ∧ pos ≤ s.length ∧ skipF false s = pos + skipF c (s.drop pos)) (fun wr => s.length - wr.iterPos w.heap.size)
  case atStart =>
    refine ⟨0, false, ?_, ?_, Turn.of_below hB ((Below.refl _ w).alloc (Nat.le_refl _) _), by omega, by simp⟩
    · have := World.iter_heap w S 0
      simpa using this
    · have hz1 := (blk1 h.line).2.2; have hz2 := (blk1 h.note).2.2
      have e : L + nl (s.take 0) = L := by simp [nl]
      rw [e]
      exact ⟨(Below.heap_alloc _ _ _ hz1).trans h.line, (Below.heap_alloc _ _ _ hz2).trans h.note⟩
  case round =>
    obtain ⟨pos, c, hit, hsk, hbw, hpl, hsum⟩ := hrel
    have hnl : nl (s.take pos) ≤ s.length := by
      have := List.count_le_length (a := (10 : UInt8)) (l := s.take pos); rw [List.length_take] at this; unfold nl; omega
    by_cases hp : pos < s.length
    · have hp' : pos < S.size := by rw [HZ.out]; exact hp
      have hnx : ∀ ty, (Instr.next (.pointer (some ⟨w.heap.size, 0, none⟩)) true ty).run Tryz.prog wr = _ := fun ty => Lib.run_next_any_at wr w.heap.size S pos ty hit hp'
      obtain ⟨b, e1, ht, hf⟩ := HL.out pos hp c
      have hit2 := Lib.iterAt_heap wr w.heap.size S pos (pos + (Utf8.decode S pos).2) hit
      have hbw2 := iter_turn (p := pos + (Utf8.decode S pos).2) hbw hB (Nat.le_refl _) hit
      have hsk2 := hsk.iter (p := pos + (Utf8.decode S pos).2) hit
      have hitp : wr.iterPos w.heap.size = pos := by simp only [World.iterPos, hit]
      have HP := Lib.hid hitp
      clear hitp
      generalize wr.iterAt w.heap.size S (pos + (Utf8.decode S pos).2) = W at *
      generalize (Utf8.decode S pos).2 = m at *
      generalize (((Utf8.decode S pos).1 : Nat) : Int) = r at *
      clear hsk hbw hit
      cases b with
      | true =>
        obtain ⟨q1, q2, q3, q4⟩ := ht rfl
        have HQ := Lib.hid q3
        have HS := Lib.hid hsum
        have hcall := skipped_at r B bl bc (L + nl (s.take pos)) c W hsk2 (by omega) h1 h2 e1 rfl q4
        clear ht hf q3 q4 e1 hsum
        go_wp2_with fail
        refine hcall.mono ?_
        rintro e W2 ⟨rfl, k1, k2⟩
        have hit3 := k2.2 _ _ hit2 rfl
        clear hcall
        go_wp2_with fail
        go_roundw
        case rel => exact ⟨pos + m, _, hit3, k1, hbw2.trans k2, q2, by rw [HS.out, HQ.out]; omega⟩
        case measure =>
          rw [HP.out]
          simp only [World.iterPos, hit3]; omega
      | false =>
        obtain ⟨q1, q2, q3⟩ := hf rfl
        have HQ := Lib.hid q1
        have HS := Lib.hid hsum
        have hcall := skipped_at r B bl bc (L + nl (s.take pos)) c W hsk2 (by omega) h1 h2 e1 q2 q3
        clear ht hf q1 q2 q3 e1 hsum
        go_wp2_with fail
        refine hcall.mono ?_
        rintro e W2 ⟨rfl, k1, k2⟩
        clear hcall
        go_wp2_with fail
        go_ret
        have e : skipF false s = pos := by rw [HS.out, HQ.out]; rfl
        exact ⟨by rw [e]; rfl, ⟨false, by rw [e]; exact k1, fun _ => rfl⟩, hbw2.trans k2⟩
    · have hp' : ¬ pos < S.size := by rw [HZ.out]; exact hp
      have hnx : ∀ ty, (Instr.next (.pointer (some ⟨w.heap.size, 0, none⟩)) true ty).run Tryz.prog wr = _ := fun ty => Lib.run_next_end_at wr w.heap.size S pos ty hit hp'
      have hpe : pos = s.length := by omega
      rw [List.drop_of_length_le (by omega)] at hsum
      have HS := Lib.hid hsum
      have HE := Lib.hid hpe
      clear hsum hpe
      go_wp2_with fail
      go_ret
      have e : skipF false s = s.length := by rw [HS.out, ← HE.out]; simp [skipF]
      refine ⟨by rw [e, HZ.out]; rfl, ⟨c, ?_, fun hlt => by omega⟩, hbw⟩
      rw [e, ← HE.out]; exact hsk

theorem toks_skip (cnt : Nat) : ∀ (s : List UInt8) (i : Bool) (line : Nat), toksF line cnt (if i = true then s.dropWhile (· != 10) else s) = toksF (line + nl (s.take (skipF i s))) cnt (s.drop (skipF i s))
  | [], i, line => by cases i <;> simp [nl, skipF]
  | c :: r, i, line => by
    rw [skip_cons]
    by_cases h : skB i c = true
    · rw [if_pos h, Nat.add_comm 1, List.take_succ_cons, List.drop_succ_cons, nl_cons]
      have ih := toks_skip cnt r (nxI i c)
      by_cases h10 : c = 10
      · subst h10
        have e : nxI i 10 = false := by simp [nxI]
        rw [e] at ih ⊢
        have e2 : (if i = true then (10 :: r).dropWhile (· != 10) else 10 :: r) = 10 :: r := by cases i <;> simp
        rw [e2, toks_feed]
        simp only [Bool.false_eq_true, if_false, if_true] at ih ⊢
        rw [ih, show line + (nl (r.take (skipF false r)) + 1) = line + 1 + nl (r.take (skipF false r)) by omega]
      · rw [if_neg h10]
        by_cases hi : c = 35 ∨ i = true
        · have e : nxI i c = true := by
            unfold nxI
            rcases hi with rfl | rfl
            · rfl
            · simp [h10]
          rw [e] at ih ⊢
          simp only [if_true] at ih
          have e2 : toksF line cnt (if i = true then (c :: r).dropWhile (· != 10) else c :: r) = toksF line cnt (r.dropWhile (· != 10)) := by
            cases i with
            | true => rw [if_pos rfl, List.dropWhile_cons, if_pos (by simpa using h10)]
            | false =>
              rcases hi with rfl | h'
              · rw [if_neg (by simp), toks_note]
              · cases h'
          rw [e2, ih]; rfl
        · have hc : c ≠ 35 ∧ i = false := by
            refine ⟨fun e => hi (.inl e), ?_⟩
            cases i with
            | true => exact absurd (.inr rfl) hi
            | false => rfl
          obtain ⟨h35, rfl⟩ := hc
          have h32 : c = 32 := by simpa [skB, h10, h35] using h
          subst h32
          have e : nxI false 32 = false := by decide
          rw [e] at ih ⊢
          simp only [Bool.false_eq_true, if_false] at ih ⊢
          rw [toks_blank, ih]; rfl
    · rw [if_neg h]
      have h' : skB i c = false := by simpa using h
      have hi : i = false := by simp [skB] at h'; exact h'.1.2
      subst hi
      simp [nl]
theorem skip_stop : ∀ (s : List UInt8) (i : Bool) (c : UInt8) (r : List UInt8), s.drop (skipF i s) = c :: r → c ≠ 32 ∧ c ≠ 10 ∧ c ≠ 35
  | [], i, c, r, h => by simp at h
  | d :: q, i, c, r, h => by
    rw [skip_cons] at h
    by_cases hk : skB i d = true
    · rw [if_pos hk, Nat.add_comm 1, List.drop_succ_cons] at h
      exact skip_stop q _ c r h
    · rw [if_neg hk] at h
      simp only [List.drop_zero, List.cons.injEq] at h
      obtain ⟨rfl, rfl⟩ := h
      have h' : skB i d = false := by simpa using hk
      simp [skB] at h'
      exact ⟨h'.2, h'.1.1.1, h'.1.1.2⟩
end Go.Proofs.YthnlenbfknbmcaaGreatDoor
namespace Go.Proofs
open Go.Shelf
def Tryz.laysAtoi_ren : Go.Shelf.Ren := ⟨fun | 172 => 100 | 244 => 109 | 245 => 110 | 247 => 123 | 279 => 124 | 280 => 125 | 281 => 126 | 282 => 127 | 287 => 137 | 316 => 90 | 171 => 139 | 205 => 138 | 321 => 143 | 322 => 144 | 243 => 145 | 246 => 147 | 283 => 150 | 284 => 151 | 285 => 152 | 286 => 153 | 129 => 156 | 317 => 155 | 318 => 157 | 319 => 158 | 320 => 159 | 337 => 160 | 338 => 161 | n => n, fun | 9 => 9 | 3 => 3 | 75 => 128 | 76 => 129 | 4 => 4 | 5 => 5 | 167 => 149 | 37 => 82 | 0 => 0 | 85 => 150 | 2 => 2 | 168 => 152 | 53 => 157 | 175 => 158 | 46 => 148 | 210 => 161 | 127 => 132 | 145 => 173 | 143 => 171 | 21 => 21 | 171 => 177 | 173 => 180 | 212 => 183 | 51 => 40 | 20 => 20 | 213 => 184 | 232 => 187 | 233 => 188 | 80 => 144 | n => n, fun | 15 => 1 | 16 => 2 | 17 => 5 | 18 => 6 | 19 => 7 | n => n⟩
theorem Tryz.laysAtoi : Go.Proofs.LaysC.n172 Tryz.prog Tryz.laysAtoi_ren := {
  mixed := by kernel_rfl
  f129 := Tryz.func156.trans (congrArg some (by kernel_rfl))
  f171 := Tryz.func139.trans (congrArg some (by kernel_rfl))
  f172 := Tryz.func100.trans (congrArg some (by kernel_rfl))
  f205 := Tryz.func138.trans (congrArg some (by kernel_rfl))
  f243 := Tryz.func145.trans (congrArg some (by kernel_rfl))
  f244 := Tryz.func109.trans (congrArg some (by kernel_rfl))
  f245 := Tryz.func110.trans (congrArg some (by kernel_rfl))
  f246 := Tryz.func147.trans (congrArg some (by kernel_rfl))
  f247 := Tryz.func123.trans (congrArg some (by kernel_rfl))
  f279 := Tryz.func124.trans (congrArg some (by kernel_rfl))
  f280 := Tryz.func125.trans (congrArg some (by kernel_rfl))
  f281 := Tryz.func126.trans (congrArg some (by kernel_rfl))
  f282 := Tryz.func127.trans (congrArg some (by kernel_rfl))
  f283 := Tryz.func150.trans (congrArg some (by kernel_rfl))
  f284 := Tryz.func151.trans (congrArg some (by kernel_rfl))
  f285 := Tryz.func152.trans (congrArg some (by kernel_rfl))
  f286 := Tryz.func153.trans (congrArg some (by kernel_rfl))
  f287 := Tryz.func137.trans (congrArg some (by kernel_rfl))
  f316 := Tryz.func90.trans (congrArg some (by kernel_rfl))
  f317 := Tryz.func155.trans (congrArg some (by kernel_rfl))
  f318 := Tryz.func157.trans (congrArg some (by kernel_rfl))
  f319 := Tryz.func158.trans (congrArg some (by kernel_rfl))
  f320 := Tryz.func159.trans (congrArg some (by kernel_rfl))
  f321 := Tryz.func143.trans (congrArg some (by kernel_rfl))
  f322 := Tryz.func144.trans (congrArg some (by kernel_rfl))
  f337 := Tryz.func160.trans (congrArg some (by kernel_rfl))
  f338 := Tryz.func161.trans (congrArg some (by kernel_rfl))
  t0 := Tryz.underlying0
  a0 := Tryz.isAgg0
  z0 := Tryz.sizeOf0
  v0 := Tryz.zeroValue0
  t2 := Tryz.underlying2
  a2 := Tryz.isAgg2
  z2 := Tryz.sizeOf2
  v2 := Tryz.zeroValue2
  t3 := Tryz.underlying3
  a3 := Tryz.isAgg3
  z3 := Tryz.sizeOf3
  v3 := Tryz.zeroValue3
  t4 := Tryz.underlying4
  a4 := Tryz.isAgg4
  z4 := Tryz.sizeOf4
  v4 := Tryz.zeroValue4
  t5 := Tryz.underlying5
  a5 := Tryz.isAgg5
  z5 := Tryz.sizeOf5
  v5 := Tryz.zeroValue5
  t9 := Tryz.underlying9
  a9 := Tryz.isAgg9
  z9 := Tryz.sizeOf9
  v9 := Tryz.zeroValue9
  t20 := Tryz.underlying20
  a20 := Tryz.isAgg20
  z20 := Tryz.sizeOf20
  v20 := Tryz.zeroValue20
  t21 := Tryz.underlying21
  a21 := Tryz.isAgg21
  z21 := Tryz.sizeOf21
  v21 := Tryz.zeroValue21
  t37 := Tryz.underlying82
  a37 := Tryz.isAgg82
  z37 := Tryz.sizeOf82
  v37 := Tryz.zeroValue82
  t46 := Tryz.underlying148
  a46 := Tryz.isAgg148
  z46 := Tryz.sizeOf148
  v46 := Tryz.zeroValue148
  t51 := Tryz.underlying40
  a51 := Tryz.isAgg40
  z51 := Tryz.sizeOf40
  v51 := Tryz.zeroValue40
  t53 := Tryz.underlying157
  a53 := Tryz.isAgg157
  z53 := Tryz.sizeOf157
  v53 := Tryz.zeroValue157
  t75 := Tryz.underlying128
  a75 := Tryz.isAgg128
  z75 := Tryz.sizeOf128
  v75 := Tryz.zeroValue128
  t76 := Tryz.underlying129
  a76 := Tryz.isAgg129
  z76 := Tryz.sizeOf129
  v76 := Tryz.zeroValue129
  t85 := Tryz.underlying150
  a85 := Tryz.isAgg150
  z85 := Tryz.sizeOf150
  v85 := Tryz.zeroValue150
  t127 := Tryz.underlying132
  a127 := Tryz.isAgg132
  z127 := Tryz.sizeOf132
  v127 := Tryz.zeroValue132
  t143 := Tryz.underlying171
  a143 := Tryz.isAgg171
  z143 := Tryz.sizeOf171
  v143 := Tryz.zeroValue171
  t145 := Tryz.underlying173
  a145 := Tryz.isAgg173
  z145 := Tryz.sizeOf173
  v145 := Tryz.zeroValue173
  t167 := Tryz.underlying149
  a167 := Tryz.isAgg149
  z167 := Tryz.sizeOf149
  v167 := Tryz.zeroValue149
  t168 := Tryz.underlying152
  a168 := Tryz.isAgg152
  z168 := Tryz.sizeOf152
  v168 := Tryz.zeroValue152
  t171 := Tryz.underlying177
  a171 := Tryz.isAgg177
  z171 := Tryz.sizeOf177
  v171 := Tryz.zeroValue177
  t173 := Tryz.underlying180
  a173 := Tryz.isAgg180
  z173 := Tryz.sizeOf180
  v173 := Tryz.zeroValue180
  t175 := Tryz.underlying158
  a175 := Tryz.isAgg158
  z175 := Tryz.sizeOf158
  v175 := Tryz.zeroValue158
  t210 := Tryz.underlying161
  a210 := Tryz.isAgg161
  z210 := Tryz.sizeOf161
  v210 := Tryz.zeroValue161
  t212 := Tryz.underlying183
  a212 := Tryz.isAgg183
  z212 := Tryz.sizeOf183
  v212 := Tryz.zeroValue183
  t213 := Tryz.underlying184
  a213 := Tryz.isAgg184
  z213 := Tryz.sizeOf184
  t232 := Tryz.underlying187
  a232 := Tryz.isAgg187
  z232 := Tryz.sizeOf187
  v232 := Tryz.zeroValue187
  t233 := Tryz.underlying188
  a233 := Tryz.isAgg188
  z233 := Tryz.sizeOf188
  v233 := Tryz.zeroValue188
  g15 := by kernel_rfl
  g16 := by kernel_rfl
  g17 := by kernel_rfl
  g18 := by kernel_rfl
  g19 := by kernel_rfl
  t80 := Tryz.underlying144
  a80 := Tryz.isAgg144
  z80 := Tryz.sizeOf144
  v80 := Tryz.zeroValue144
  i0 := by kernel_rfl
  i2 := by kernel_rfl
  i3 := by kernel_rfl
  i4 := by kernel_rfl
  i5 := by kernel_rfl
  i9 := by kernel_rfl
  i20 := by kernel_rfl
  i21 := by kernel_rfl
  i37 := by kernel_rfl
  i46 := by kernel_rfl
  i51 := by kernel_rfl
  i53 := by kernel_rfl
  i75 := by kernel_rfl
  i76 := by kernel_rfl
  i80 := by kernel_rfl
  i85 := by kernel_rfl
  i127 := by kernel_rfl
  i143 := by kernel_rfl
  i145 := by kernel_rfl
  i167 := by kernel_rfl
  i168 := by kernel_rfl
  i171 := by kernel_rfl
  i173 := by kernel_rfl
  i175 := by kernel_rfl
  i210 := by kernel_rfl
  i212 := by kernel_rfl
  i232 := by kernel_rfl
  i233 := by kernel_rfl
  m15 := by kernel_rfl
  m16 := by kernel_rfl
  m17 := by kernel_rfl
  m18 := by kernel_rfl
  m19 := by kernel_rfl
  c0 := by kernel_rfl
  c2 := by kernel_rfl
  c3 := by kernel_rfl
  c4 := by kernel_rfl
  c5 := by kernel_rfl
  c9 := by kernel_rfl
  c20 := by kernel_rfl
  c21 := by kernel_rfl
  c37 := by kernel_rfl
  c46 := by kernel_rfl
  c51 := by kernel_rfl
  c53 := by kernel_rfl
  c75 := by kernel_rfl
  c76 := by kernel_rfl
  c80 := by kernel_rfl
  c85 := by kernel_rfl
  c127 := by kernel_rfl
  c143 := by kernel_rfl
  c145 := by kernel_rfl
  c167 := by kernel_rfl
  c168 := by kernel_rfl
  c171 := by kernel_rfl
  c173 := by kernel_rfl
  c175 := by kernel_rfl
  c210 := by kernel_rfl
  c212 := by kernel_rfl
  c213 := by kernel_rfl
  c232 := by kernel_rfl
  c233 := by kernel_rfl }
def Tryz.laysCut_ren : Go.Shelf.Ren := ⟨fun | 145 => 84 | 220 => 99 | 219 => 108 | 217 => 119 | 225 => 120 | 224 => 121 | 267 => 122 | 266 => 135 | 314 => 136 | n => n, fun | 9 => 9 | 4 => 4 | 59 => 123 | 3 => 3 | 5 => 5 | 46 => 148 | 146 => 155 | 51 => 40 | n => n, fun | 1 => 0 | n => n⟩
theorem Tryz.laysCut : Go.Proofs.Lays.n145 Tryz.prog Tryz.laysCut_ren := {
  mixed := by kernel_rfl
  f145 := Tryz.func84.trans (congrArg some (by kernel_rfl))
  f217 := Tryz.func119.trans (congrArg some (by kernel_rfl))
  f219 := Tryz.func108.trans (congrArg some (by kernel_rfl))
  f220 := Tryz.func99.trans (congrArg some (by kernel_rfl))
  f224 := Tryz.func121.trans (congrArg some (by kernel_rfl))
  f225 := Tryz.func120.trans (congrArg some (by kernel_rfl))
  f266 := Tryz.func135.trans (congrArg some (by kernel_rfl))
  f267 := Tryz.func122.trans (congrArg some (by kernel_rfl))
  f314 := Tryz.func136.trans (congrArg some (by kernel_rfl))
  t3 := Tryz.underlying3
  a3 := Tryz.isAgg3
  z3 := Tryz.sizeOf3
  v3 := Tryz.zeroValue3
  t4 := Tryz.underlying4
  a4 := Tryz.isAgg4
  z4 := Tryz.sizeOf4
  v4 := Tryz.zeroValue4
  t5 := Tryz.underlying5
  a5 := Tryz.isAgg5
  z5 := Tryz.sizeOf5
  v5 := Tryz.zeroValue5
  t9 := Tryz.underlying9
  a9 := Tryz.isAgg9
  z9 := Tryz.sizeOf9
  v9 := Tryz.zeroValue9
  t46 := Tryz.underlying148
  a46 := Tryz.isAgg148
  z46 := Tryz.sizeOf148
  v46 := Tryz.zeroValue148
  t51 := Tryz.underlying40
  a51 := Tryz.isAgg40
  z51 := Tryz.sizeOf40
  v51 := Tryz.zeroValue40
  t59 := Tryz.underlying123
  a59 := Tryz.isAgg123
  z59 := Tryz.sizeOf123
  v59 := Tryz.zeroValue123
  t146 := Tryz.underlying155
  a146 := Tryz.isAgg155
  z146 := Tryz.sizeOf155
  v146 := Tryz.zeroValue155
  g1 := by kernel_rfl }
def Tryz.laysContains_ren : Go.Shelf.Ren := ⟨fun | 144 => 87 | 143 => 101 | 219 => 108 | 217 => 119 | 225 => 120 | 224 => 121 | 267 => 122 | 266 => 135 | 314 => 136 | n => n, fun | 9 => 9 | 4 => 4 | 3 => 3 | 5 => 5 | 46 => 148 | 146 => 155 | 51 => 40 | n => n, fun | 1 => 0 | n => n⟩
theorem Tryz.laysContains : Go.Proofs.Lays.n144 Tryz.prog Tryz.laysContains_ren := {
  mixed := by kernel_rfl
  f143 := Tryz.func101.trans (congrArg some (by kernel_rfl))
  f144 := Tryz.func87.trans (congrArg some (by kernel_rfl))
  f217 := Tryz.func119.trans (congrArg some (by kernel_rfl))
  f219 := Tryz.func108.trans (congrArg some (by kernel_rfl))
  f224 := Tryz.func121.trans (congrArg some (by kernel_rfl))
  f225 := Tryz.func120.trans (congrArg some (by kernel_rfl))
  f266 := Tryz.func135.trans (congrArg some (by kernel_rfl))
  f267 := Tryz.func122.trans (congrArg some (by kernel_rfl))
  f314 := Tryz.func136.trans (congrArg some (by kernel_rfl))
  t3 := Tryz.underlying3
  a3 := Tryz.isAgg3
  z3 := Tryz.sizeOf3
  v3 := Tryz.zeroValue3
  t4 := Tryz.underlying4
  a4 := Tryz.isAgg4
  z4 := Tryz.sizeOf4
  v4 := Tryz.zeroValue4
  t5 := Tryz.underlying5
  a5 := Tryz.isAgg5
  z5 := Tryz.sizeOf5
  v5 := Tryz.zeroValue5
  t9 := Tryz.underlying9
  a9 := Tryz.isAgg9
  z9 := Tryz.sizeOf9
  v9 := Tryz.zeroValue9
  t46 := Tryz.underlying148
  a46 := Tryz.isAgg148
  z46 := Tryz.sizeOf148
  v46 := Tryz.zeroValue148
  t51 := Tryz.underlying40
  a51 := Tryz.isAgg40
  z51 := Tryz.sizeOf40
  v51 := Tryz.zeroValue40
  t146 := Tryz.underlying155
  a146 := Tryz.isAgg155
  z146 := Tryz.sizeOf155
  v146 := Tryz.zeroValue155
  g1 := by kernel_rfl }
def Tryz.laysPrefix_ren : Go.Shelf.Ren := ⟨fun | 99 => 89 | 206 => 102 | n => n, fun | 9 => 9 | 4 => 4 | 3 => 3 | n => n, fun | n => n⟩
theorem Tryz.laysPrefix : Go.Proofs.Lays.n99 Tryz.prog Tryz.laysPrefix_ren := {
  mixed := by kernel_rfl
  f99 := Tryz.func89.trans (congrArg some (by kernel_rfl))
  f206 := Tryz.func102.trans (congrArg some (by kernel_rfl))
  t3 := Tryz.underlying3
  a3 := Tryz.isAgg3
  z3 := Tryz.sizeOf3
  v3 := Tryz.zeroValue3
  t4 := Tryz.underlying4
  a4 := Tryz.isAgg4
  z4 := Tryz.sizeOf4
  v4 := Tryz.zeroValue4
  t9 := Tryz.underlying9
  a9 := Tryz.isAgg9
  z9 := Tryz.sizeOf9
  v9 := Tryz.zeroValue9 }

def Tryz.laysClone_ren : Go.Shelf.Ren := ⟨fun | 25 => 90 | n => n, fun | 9 => 9 | 3 => 3 | 4 => 4 | 37 => 82 | 0 => 0 | 47 => 132 | 5 => 5 | n => n, fun | n => n⟩
theorem Tryz.laysClone : Go.Proofs.LaysPu.n25 Tryz.prog Tryz.laysClone_ren := {
  mixed := by kernel_rfl
  f25 := Tryz.func90.trans (congrArg some (by kernel_rfl))
  t0 := Tryz.underlying0
  a0 := Tryz.isAgg0
  z0 := Tryz.sizeOf0
  v0 := Tryz.zeroValue0
  i0 := by kernel_rfl
  t3 := Tryz.underlying3
  a3 := Tryz.isAgg3
  z3 := Tryz.sizeOf3
  v3 := Tryz.zeroValue3
  i3 := by kernel_rfl
  t4 := Tryz.underlying4
  a4 := Tryz.isAgg4
  z4 := Tryz.sizeOf4
  v4 := Tryz.zeroValue4
  i4 := by kernel_rfl
  t5 := Tryz.underlying5
  a5 := Tryz.isAgg5
  z5 := Tryz.sizeOf5
  v5 := Tryz.zeroValue5
  i5 := by kernel_rfl
  t9 := Tryz.underlying9
  a9 := Tryz.isAgg9
  z9 := Tryz.sizeOf9
  v9 := Tryz.zeroValue9
  i9 := by kernel_rfl
  t37 := Tryz.underlying82
  a37 := Tryz.isAgg82
  z37 := Tryz.sizeOf82
  v37 := Tryz.zeroValue82
  i37 := by kernel_rfl
  t47 := Tryz.underlying132
  a47 := Tryz.isAgg132
  z47 := Tryz.sizeOf132
  v47 := Tryz.zeroValue132
  i47 := by kernel_rfl }
end Go.Proofs
namespace Go.Proofs.YthnlenbfknbmcaaGreatDoor
open Go.RowKit Go.Shelf
set_option maxRecDepth 100000

/-- what the library reads of the package-level variables -/
structure Lay (w : World) : Prop where
  most : ∃ m, w.cell? ⟨0, 0, none⟩ = some (.int .i64 m)
  syn : ∃ tp p, w.var? Tryz.prog "strconv.ErrSyntax" = some #[.iface tp p]
  rng : ∃ tp p, w.var? Tryz.prog "strconv.ErrRange" = some #[.iface tp p]

theorem var_below {w w1 : World} {s : String} {vs : Array Value} (h : w.var? Tryz.prog s = some vs) (hb : Below w.heap.size w w1) : w1.var? Tryz.prog s = some vs := by
  unfold World.var? at *
  cases hg : Tryz.prog.globalNamed s with
  | none => simp [hg] at h
  | some g =>
    simp only [hg, Option.bind_some] at h ⊢
    have hlt : g < w.heap.size := by
      rcases Nat.lt_or_ge g w.heap.size with hl | hl
      · exact hl
      · rw [Array.getElem?_eq_none hl] at h; simp at h
    rw [hb.block g hlt]; exact h
theorem blk_of_cell {w : World} {b o : Nat} {v : Value} (h : w.cell? ⟨b, o, none⟩ = some v) : b < w.heap.size := World.block_lt_of_cell? _ _ h
theorem Lay.below {w w1 : World} (h : Lay w) (hb : Below w.heap.size w w1) : Lay w1 := by
  obtain ⟨⟨m, h2⟩, ⟨t3, p3, h3⟩, t4, p4, h4⟩ := h
  exact ⟨⟨m, (hb.cell (p := ⟨0, 0, none⟩) (blk_of_cell h2)).trans h2⟩, ⟨t3, p3, var_below h3 hb⟩, t4, p4, var_below h4 hb⟩
theorem sz (s : List UInt8) : (⟨s.toArray⟩ : ByteArray).size = s.length := by simp [ByteArray.size]
theorem below_drewN (w : World) (n : Nat) : Below w.heap.size w (w.drewN n) := ⟨rfl, rfl, rfl, Nat.le_refl _, fun _ _ => rfl⟩

/-- what Atoi gives: the number and no error, or an error -/
def AtoiP (s : List UInt8) (w : World) (e : Ending) (w' : World) : Prop := Below w.heap.size w w' ∧
  ((∃ v, Lib.atoiAll s = .ok v ∧ e = .returned (.tuple #[.int .i64 v, .nilIface])) ∨ ((∀ v, Lib.atoiAll s ≠ .ok v) ∧ ∃ n t p, e = .returned (.tuple #[.int .i64 n, .iface t p])))
theorem atoi_any (s : List UInt8) (hs : s.length ≤ 1000000) (w : World) (hL : Lay w) : Calls Tryz.prog 100 #[.string ⟨s.toArray⟩] w (AtoiP s w) := by
  have hsz := sz s
  cases h : Lib.atoiAll s
  · rename_i v
    refine (Any.strconv_Atoi_ok Tryz.laysAtoi ⟨s.toArray⟩ (by omega) v h w).mono ?_
    rintro e w' ⟨rfl, hw⟩
    refine ⟨?_, .inl ⟨v, h, rfl⟩⟩
    rcases hw with rfl | ⟨t, rfl⟩
    · exact Below.refl _ _
    · exact Lib.bytesWorld_below _ _ _
  · obtain ⟨tp, p, hv⟩ := hL.syn
    refine (Any.strconv_Atoi_syntax_var Tryz.laysAtoi ⟨s.toArray⟩ (by omega) h tp p w hv).mono ?_
    rintro e w' ⟨N, rfl, _, _, hb⟩
    exact ⟨hb, .inr ⟨fun v => by (rw [h]; simp), _, _, _, rfl⟩⟩
  · obtain ⟨tp, p, hv⟩ := hL.rng
    refine (Any.strconv_Atoi_range_var Tryz.laysAtoi ⟨s.toArray⟩ (by omega) h tp p w hv).mono ?_
    rintro e w' ⟨N, rfl, _, _, hb⟩
    exact ⟨hb, .inr ⟨fun v => by (rw [h]; simp), _, _, _, rfl⟩⟩

def cutA (s : List UInt8) : List UInt8 := (Lib.cut s [46]).1
def cutB (s : List UInt8) : List UInt8 := (Lib.cut s [46]).2.1
theorem cut_any (s : List UInt8) (hs : s.length ≤ 1000000) (w : World) (hL : Lay w) :
    Calls Tryz.prog 84 #[.string ⟨s.toArray⟩, .string ⟨#[46]⟩] w (Ret (.tuple #[.string ⟨(cutA s).toArray⟩, .string ⟨(cutB s).toArray⟩, .bool (Lib.cut s [46]).2.2]) w) := by
  obtain ⟨m, hm⟩ := hL.most
  refine (Any.strings_Cut Tryz.laysCut ⟨s.toArray⟩ ⟨#[46]⟩ m w (by have := sz s; omega) hm).mono ?_
  rintro e w' ⟨rfl, n, rfl⟩
  exact ⟨rfl, below_drewN _ _⟩
theorem index_sgn (c : UInt8) : decide (0 ≤ Lib.indexByte signs c) = sgnB c := by
  unfold sgnB
  have key : ∀ l : List UInt8, -1 ≤ Lib.indexByte l c ∧ (0 ≤ Lib.indexByte l c ↔ l.contains c = true) := by
    intro l
    induction l with
    | nil => exact ⟨by simp [Lib.indexByte], by simp [Lib.indexByte]⟩
    | cons b r ih =>
      unfold Lib.indexByte
      by_cases h : b = c
      · subst h; simp
      · have hb : (b == c) = false := by simpa using h
        have hc : (c == b) = false := by simpa using fun e => h e.symm
        rw [hb, List.contains_cons, hc, Bool.false_or]
        by_cases h1 : Lib.indexByte r c = -1
        · rw [h1] at ih ⊢; simpa using ih.2
        · have h1' : (Lib.indexByte r c == -1) = false := by simpa using h1
          rw [h1']; refine ⟨by simp; omega, ?_⟩
          rw [← ih.2]; simp; omega
  rw [Bool.eq_iff_iff, decide_eq_true_eq, (key signs).2]
theorem contains_any (c : UInt8) (w : World) :
    Calls Tryz.prog 87 #[.string ⟨#[123, 125, 40, 41, 59, 44, 43, 45, 42, 47, 60, 61, 37]⟩, .string ⟨#[c]⟩] w (Same (.bool (sgnB c)) w) := by
  refine (Any.strings_Contains_one Tryz.laysContains ⟨#[123, 125, 40, 41, 59, 44, 43, 45, 42, 47, 60, 61, 37]⟩ c w).mono ?_
  rintro e w' ⟨rfl, rfl⟩
  refine ⟨?_, rfl⟩
  rw [← index_sgn]; rfl
def ptB (s : List UInt8) : Bool := s.head? == some 46
theorem prefix_any (s : List UInt8) (w : World) : Calls Tryz.prog 89 #[.string ⟨s.toArray⟩, .string ⟨#[46]⟩] w (Same (.bool (ptB s)) w) := by
  refine (Any.strings_HasPrefix Tryz.laysPrefix ⟨s.toArray⟩ ⟨#[46]⟩ w).mono ?_
  rintro e w' ⟨rfl, rfl⟩
  refine ⟨?_, rfl⟩
  have : Lib.hasPrefix s [46] = ptB s := by
    cases s with
    | nil => rfl
    | cons c r =>
      simp only [Lib.hasPrefix, List.isPrefixOf, ptB, List.head?_cons, Bool.and_true]
      by_cases h : c = 46
      · subst h; rfl
      · have h1 : ((46 : UInt8) == c) = false := by rw [beq_eq_false_iff_ne]; exact fun e => h e.symm
        have h2 : (some c == some (46 : UInt8)) = false := by rw [beq_eq_false_iff_ne]; exact fun e => h (Option.some.inj e)
        rw [h1, h2]
  rw [← this]
theorem rep_ten : ∀ n : Nat, Lib.repeatL [10] n = List.replicate n 10
  | 0 => rfl
  | n + 1 => by rw [Lib.repeatL, rep_ten n]; rfl
theorem lclone_any (s : List UInt8) (hs : s.length ≤ 1000000) (w : World) : Calls Tryz.prog 90 #[.string ⟨s.toArray⟩] w (Ret (.string ⟨s.toArray⟩) w) := by
  refine (AnyPu.stringslite_Clone Tryz.laysClone ⟨s.toArray⟩ w (by have := sz s; omega)).mono ?_
  rintro e w' ⟨rfl, hb⟩
  exact ⟨rfl, hb⟩
theorem clone_any (s : List UInt8) (hs : s.length ≤ 1000000) (w : World) : Calls Tryz.prog 65 #[.string ⟨s.toArray⟩] w (Ret (.string ⟨s.toArray⟩) w) := by
  go_enter Tryz.func65, Tryz.ntmps65
  go_wp2_with fail
  refine (lclone_any s hs w).mono ?_
  rintro e w1 ⟨rfl, hx⟩
  go_wp2_with fail
  go_ret
  exact ⟨rfl, hx⟩
/-- the builder: its bytes -/
def Bld (B b : Nat) (l : List UInt8) (w : World) : Prop := Lib.IsBuilderF 140 5 B b (Lib.byteCells l) w
def BldEnd (B b : Nat) (l : List UInt8) (v : Value) (w : World) (e : Ending) (w' : World) : Prop := e = .returned v ∧ Bld B b l w' ∧ Below B w w' ∧ Lib.OthersKept 5 (some b) w w'
end Go.Proofs.YthnlenbfknbmcaaGreatDoor
