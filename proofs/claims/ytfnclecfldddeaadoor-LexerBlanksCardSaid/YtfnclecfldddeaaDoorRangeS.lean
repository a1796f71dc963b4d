/-
  A range over an iterator that writes memory of its own between two rounds (blocks of cells whose types T names), and whose rounds may leave by a return. The iterator's contract names the list that it yields; what the caller says must abide whatever else but the caller's own blocks changes.
-/
import Derived.RangeFuncNested
import Derived.RangeFuncBound
import Derived.RangeFuncCalls
import Derived.RangeFuncLeaves
import Derived.RangeFuncBox
import Derived.Shelf.Abstract
import Derived.Shelf.RegionOpen
import Derived.WalkKit
import Derived.OwnWalkIn
import Derived.TacticsInMore
import Derived.LoopNIn
import Derived.LoopIn
namespace Go.Proofs.YtfnclecfldddeaaDoor
open Go.RowKit Go.Shelf

def keepJ (T : TypeId → Bool) : Obj → Bool
  | .cells _ t _ => !T t
  | _ => true
def keepI (T : TypeId → Bool) : Obj → Bool
  | .cells _ t _ => !T t
  | _ => false

/-- below B all is as it was, and so is every block that 'keep' names -/
def Turn (keep : Obj → Bool) (B : Nat) (W W' : World) : Prop := Below B W W' ∧ ∀ (k : Nat) (o : Obj), W.heap[k]? = some o → keep o = true → W'.heap[k]? = some o
theorem Turn.of_below {keep : Obj → Bool} {B : Nat} {W W' : World} (hB : B ≤ W.heap.size) (h : Below W.heap.size W W') : Turn keep B W W' :=
  ⟨h.mono hB, fun k _ hk _ => (h.block k (Array.getElem?_eq_some_iff.1 hk).1).trans hk⟩
theorem Turn.toI {T : TypeId → Bool} {B : Nat} {W W' : World} (h : Turn (keepJ T) B W W') : Turn (keepI T) B W W' :=
  ⟨h.1, fun k o hk ho => h.2 k o hk (by cases o <;> simp_all [keepI, keepJ])⟩
theorem Turn.less {keep : Obj → Bool} {B C : Nat} {W W' : World} (h : Turn keep B W W') (hc : C ≤ B) : Turn keep C W W' := ⟨h.1.mono hc, h.2⟩
theorem Turn.trans {keep : Obj → Bool} {B : Nat} {X Y Z : World} (h : Turn keep B X Y) (k : Turn keep B Y Z) : Turn keep B X Z := ⟨h.1.trans k.1, fun i o hi ho => k.2 i o (h.2 i o hi ho) ho⟩
theorem Turn.refl (keep : Obj → Bool) (B : Nat) (W : World) : Turn keep B W W := ⟨Below.refl _ _, fun _ _ h _ => h⟩
theorem Turn.drew {keep : Obj → Bool} {B : Nat} {W W' : World} (h : Turn keep B W W') : Turn keep B W W'.drew := ⟨h.1.drew, h.2⟩
theorem Turn.putObj {T : TypeId → Bool} {B : Nat} {W : World} {l : Nat} {o o' : Obj} (hB : B ≤ l) (hl : W.heap[l]? = some o) (ho : o.isCells = false) : Turn (keepI T) B W (W.putObj l o') := by
  refine ⟨⟨rfl, rfl, rfl, by simp, fun k hk => World.putObj_heap_other (by omega)⟩, fun k o1 hk h1 => ?_⟩
  rw [World.putObj_heap_other (fun e => ?_)]
  · exact hk
  · subst e
    rw [hl] at hk; cases hk
    cases o <;> simp_all [keepI, Obj.isCells]

def Abide {α : Type} (keep : Obj → Bool) (B : Nat) (I : List α → World → Prop) : Prop := ∀ s W W', I s W → Turn keep B W W' → I s W'

/-- what a round keeps: whatever cells from B on are not the caller's own rows -/
def KpM (B : Nat) (Mine : World → Nat → Prop) (W W' : World) : Prop := W.heap.size ≤ W'.heap.size ∧ ∀ (k : Nat) (xs : Array Value) (t : TypeId) (fr : Nat × Nat), B ≤ k → W.heap[k]? = some (.cells xs t fr) → ¬ Mine W k → W'.heap[k]? = some (.cells xs t fr)
/-- what a round may do: go on, or leave -/
def RoundEnd {α : Type} (J Jx : List α → World → Prop) (B : Nat) (Mine : World → Nat → Prop) (pre : List α) (W1 : World) (e : Ending) (W' : World) : Prop :=
  (e = .returned (.bool true) ∧ J pre W' ∧ KpM B Mine W1 W') ∨ (e = .returned (.bool false) ∧ Jx pre W')
def IterEnd {α : Type} (J Jx : List α → World → Prop) (xs : List α) (e : Ending) (W' : World) : Prop :=
  (∃ v, e = .returned v) ∧ (J xs W' ∨ ∃ pre, pre <+: xs ∧ Jx pre W')
/-- the caller's own rows: of type R, named by what the caller's own cells hold -/
structure Minds {α : Type} (R : TypeId) (keep : Obj → Bool) (B : Nat) (J : List α → World → Prop) (Mine : World → Nat → Prop) : Prop where
  kind : ∀ pre W k, J pre W → Mine W k → ∃ xs fr, W.heap[k]? = some (.cells xs R fr)
  low : ∀ pre W k, J pre W → Mine W k → B ≤ k
  stay : ∀ pre W W' k, J pre W → Turn keep B W W' → Mine W' k → Mine W k
/-- THE ITERATOR's CONTRACT -/
def Gives {α : Type} (T : TypeId → Bool) (R : TypeId) (F : Fence) (n : Nat) (P : Program) (g : Nat) (lb : Array Value) (encs : α → Array Value) (Inv : World → Prop) (xs : List α) (w : World) : Prop :=
  ∀ (l : Nat) (J Jx : List α → World → Prop) (Mine : World → Nat → Prop) (W : World), Below w.heap.size w W → Abide (keepJ T) W.heap.size J → Abide (keepJ T) W.heap.size Jx → Minds R (keepJ T) W.heap.size J Mine → (∀ pre W1, J pre W1 → Inv W1) →
    (∀ pre x W1, J pre W1 → (pre ++ [x]) <+: xs → YieldAt F (n - 1) P l (encs x) W1 (RoundEnd J Jx W.heap.size Mine (pre ++ [x]) W1)) →
    J [] W →
    CallsIn F n P g (#[.func (.yield l) #[] #[]] ++ lb) W (IterEnd J Jx xs)

def BodyEnd {α : Type} (B : Nat) (Mine : World → Nat → Prop) (I Ix : List α → World → Prop) (pre : List α) (W W2 : World) (e : Exit) (W3 : World) : Prop :=
  (e = .normal ∧ KeepsFrom B W2 W3 ∧ KpM B Mine W W3 ∧ I pre W3) ∨ (e = .ret ∧ KeepsFrom B W2 W3 ∧ Ix pre W3)

variable {F : Fence} {n : Nat} {P : Program}

theorem range_gives {α : Type} {T : TypeId → Bool} {R0 : TypeId} {g : Operand} {ps : Array Tmp} {assign body : Code} {Q : Exit → Act → World → Prop} {a : Act} {w : World}
    (hro : F.round = none) (h1 : 1 ≤ n) {gf : Nat} {lb : Array Value} (hg : a.eval g = .func (.func gf) #[] lb) (hFg : F.fn gf) (eg : ∀ args w, (callFunc gf args).run P w = .ok (.enter gf args) w)
    {encs : α → Array Value} {Inv : World → Prop} {xs : List α} {w0 : World} (hseq : Gives T R0 F (n - 1) P gf lb encs Inv xs w0) (Mine : World → Nat → Prop) (hb0 : Below w0.heap.size w0 w) (hps : ∀ x, (encs x).size = ps.size)
    (I Ix : List α → World → Prop) (hI : Abide (keepI T) w.heap.size I) (hIx : Abide (keepI T) w.heap.size Ix) (hM : Minds R0 (keepI T) w.heap.size I Mine) (hInv : ∀ pre W, I pre W → Inv W) (h0 : I [] w)
    (hround : ∀ (l : Nat) (pre : List α) (x : α) (W : World), w.heap.size ≤ l → I pre W → (pre ++ [x]) <+: xs →
      assign.wpIn (F.inRound l) (n - 1 - 1) P (Exit.then (fun a' W1 => KeepsFrom w.heap.size W W1 ∧
          ∀ W2, Turn (keepI T) w.heap.size W1 W2 → (∀ (k : Nat) (o : Obj), W1.heap[k]? = some o → o.isCells = true → W2.heap[k]? = some o) →
            body.wpIn (F.inRound l) (n - 1 - 1) P (fun e _ W3 => BodyEnd w.heap.size Mine I Ix (pre ++ [x]) W W2 e W3) a' W2) (fun _ _ _ => False))
        { tmps := (ps.zip (encs x)).foldl (fun t (p, v) => t.setIfInBounds p v) a.tmps, defers := [] } W)
    (hdone : ∀ (D : Nat) (W : World), w.heap.size ≤ D → I xs W → W.heap[D]? = some (.deferred (some [])) → Q .normal { a with defers := { target := .collected D, args := #[] } :: a.defers } W)
    (hstop : ∀ (D : Nat) (pre : List α) (W : World), w.heap.size ≤ D → pre <+: xs → Ix pre W → W.heap[D]? = some (.deferred (some [])) → Code.ret.wpIn F n P Q { a with defers := { target := .collected D, args := #[] } :: a.defers } W) :
    (Code.rangeFunc g ps assign body).wpIn F n P Q a w := by
  refine wpIn_rangeFunc fun fn hfn => ?_
  rw [hro]
  obtain ⟨R, hR⟩ : ∃ R : LoopState → Option Code → Loop, R = fun st pe => { state := st, pending := pe, fn, tmps := a.tmps, params := ps, assign, body, defers := w.heap.size } := ⟨_, rfl⟩
  obtain ⟨W0, hW0⟩ : ∃ W0, (w.alloc (.deferred (some []))).alloc (.loop (R .ready none)) = W0 := ⟨_, rfl⟩
  have hs0 : W0.heap.size = w.heap.size + 2 := by rw [← hW0]; simp
  have hL : W0.heap[w.heap.size + 1]? = some (.loop (R .ready none)) := by
    have := World.alloc_heap_new (w.alloc (.deferred (some []))) (.loop (R .ready none))
    rwa [World.size_alloc, hW0] at this
  have hD : W0.heap[w.heap.size]? = some (.deferred (some [])) := by
    rw [← hW0]; exact (Below.heap_alloc _ _ _ (by simp)).trans (World.alloc_heap_new w _)
  have hbw : Below w.heap.size w W0 := by rw [← hW0]; exact ((Below.refl _ w).alloc (Nat.le_refl _) _).alloc (by simp) _
  have hI0 : I [] W0 := hI _ _ _ h0 (Turn.of_below (Nat.le_refl _) hbw)
  refine ⟨w.heap.size + 1, [{ target := .collected w.heap.size, args := #[] }], W0, { target := .fn (.func gf) lb, args := #[.func (.yield (w.heap.size + 1)) #[] #[]] }, W0, gf, #[.func (.yield (w.heap.size + 1)) #[] #[]] ++ lb, W0, ?_, ?_, ?_, ?_, fun _ => h1, ?_⟩
  · rw [← hW0, hR]; exact run_enterLoop_outer _ _ _ _ _
  · simp only [resolve, hg]; simp [go_sem]
  · intro f' hf'; simp [Target.leads] at hf'; subst hf'; exact hFg
  · simp [invoke, go_sem, eg]
  refine (hseq (w.heap.size + 1) (fun pre W => I pre W ∧ W.heap[w.heap.size + 1]? = some (.loop (R .ready none)) ∧ W.heap[w.heap.size]? = some (.deferred (some [])))
    (fun pre W => Ix pre W ∧ W.heap[w.heap.size + 1]? = some (.loop (R .done (some .ret))) ∧ W.heap[w.heap.size]? = some (.deferred (some []))) Mine W0 (hb0.trans (hbw.mono hb0.size)) ?_ ?_
    ⟨fun pre W k h hm => hM.kind pre W k h.1 hm, fun pre W k h hm => (by
      obtain ⟨xs', fr, hc⟩ := hM.kind pre W k h.1 hm
      have hlo := hM.low pre W k h.1 hm
      have n1 : k ≠ w.heap.size + 1 := fun e => by subst e; rw [h.2.1] at hc; cases hc
      have n2 : k ≠ w.heap.size := fun e => by subst e; rw [h.2.2] at hc; cases hc
      omega), fun pre W W' k h ht hm => hM.stay pre W W' k h.1 ((ht.less (by omega)).toI) hm⟩ (fun pre W h => hInv pre W h.1) ?_ ⟨hI0, hL, hD⟩).mono ?_
  · rintro s A B' ⟨g1, g2, g3⟩ ht
    exact ⟨hI _ _ _ g1 ((ht.less (by omega)).toI), ht.2 _ _ g2 rfl, ht.2 _ _ g3 rfl⟩
  · rintro s A B' ⟨g1, g2, g3⟩ ht
    exact ⟨hIx _ _ _ g1 ((ht.less (by omega)).toI), ht.2 _ _ g2 rfl, ht.2 _ _ g3 rfl⟩
  · rintro pre x W ⟨hi, hl, hd⟩ hlen
    have hy := run_yield (P := P) (args := encs x) hl (by rw [hR]; exact hps x)
    rw [hR] at hy
    refine ⟨fn, _, assign, body, hy, roundIn_of_wpIn hfn (wpIn_mono (hround _ pre x W (by omega) hi hlen) ?_)⟩
    intro e a1 W1 hp
    cases e with
    | normal =>
      obtain ⟨k1, hbody⟩ := hp
      have hl1 := k1.same _ _ (by omega) hl rfl
      have hd1 := k1.same _ _ (Nat.le_refl _) hd rfl
      refine ⟨_, run_beginRound hl1 (by rw [hR]), ?_⟩
      have hl2 : (W1.putObj (w.heap.size + 1) (.loop { R .ready none with state := .busy })).heap[w.heap.size + 1]? = some (.loop { R .ready none with state := .busy }) := World.putObj_heap_same (Array.getElem?_eq_some_iff.1 hl1).1
      have hd2 : (W1.putObj (w.heap.size + 1) (.loop { R .ready none with state := .busy })).heap[w.heap.size]? = some (.deferred (some [])) := (World.putObj_heap_other (by omega)).trans hd1
      refine wpIn_mono (hbody _ (Turn.putObj (by omega) hl1 rfl) (fun k o hk ho => ?_)) ?_
      · rw [World.putObj_heap_other (fun e => by subst e; rw [hl1] at hk; cases hk; cases ho)]; exact hk
      rintro e a3 W3 (⟨rfl, k3, ⟨p3a, p3b⟩, hi3⟩ | ⟨rfl, k3, hi3⟩)
      · have hl3 := k3.same _ _ (by omega) hl2 rfl
        have hd3 := k3.same _ _ (Nat.le_refl _) hd2 rfl
        have hr := run_endRound (P := P) none hl3
        refine ⟨_, _, hr, .inl ⟨rfl, ⟨hI _ _ _ hi3 (Turn.putObj (by omega) hl3 rfl), ?_, (World.putObj_heap_other (by omega)).trans hd3⟩, by simpa using p3a, fun k xs t fr hB hk hm => ?_⟩⟩
        · rw [World.putObj_heap_same (Array.getElem?_eq_some_iff.1 hl3).1, hR]; rfl
        · have hq := p3b k xs t fr (by omega) hk hm
          rw [World.putObj_heap_other (fun e => by subst e; rw [hl3] at hq; cases hq)]
          exact hq
      · have hl3 := k3.same _ _ (by omega) hl2 rfl
        have hd3 := k3.same _ _ (Nat.le_refl _) hd2 rfl
        have hr := run_endRound (P := P) (some .ret) hl3
        refine ⟨_, _, hr, .inr ⟨rfl, hIx _ _ _ hi3 (Turn.putObj (by omega) hl3 rfl), ?_, (World.putObj_heap_other (by omega)).trans hd3⟩⟩
        rw [World.putObj_heap_same (Array.getElem?_eq_some_iff.1 hl3).1, hR]; rfl
    | _ => exact hp.elim
  · rintro e W2 ⟨⟨v, rfl⟩, ⟨hi, hl, hd⟩ | ⟨pre, hpre, hi, hl, hd⟩⟩
    · have hE := run_endLoop (P := P) hl (by rw [hR]; simp)
      rw [show (R .ready none).pending = none from by rw [hR]] at hE
      refine ⟨none, _, hE, hdone _ _ (Nat.le_refl _) (hI _ _ _ hi (Turn.putObj (by omega) hl rfl)) ((World.putObj_heap_other (by omega)).trans hd)⟩
    · have hE := run_endLoop (P := P) hl (by rw [hR]; simp)
      rw [show (R .done (some .ret)).pending = some .ret from by rw [hR]] at hE
      refine ⟨some .ret, _, hE, hstop _ pre _ (Nat.le_refl _) hpre (hIx _ _ _ hi (Turn.putObj (by omega) hl rfl)) ((World.putObj_heap_other (by omega)).trans hd)⟩
end Go.Proofs.YtfnclecfldddeaaDoor
