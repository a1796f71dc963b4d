/-
  Plain lists of bytes, and worlds that have grown.
-/
import Derived.WalkKit
import Derived.WalkSpells
import Derived.WalkLawsBesides
import Derived.Deep.QuietTactic
import Derived.BigQuiet
import Derived.Lib.Hide
import Derived.Laws.EntriesVeiled
namespace Go.Proofs.YthnlenbfknbmcaaGreatDoor
open Go.RowKit

/-- Worlds that have grown since w. -/
structure Grow (w : World) where
  to : World
  below : Below w.heap.size w to

@[simp, go_sem] theorem grow_const (w : World) (p : Prop) : (Grow w → p) = p := propext ⟨fun h => h ⟨w, Below.refl _ _⟩, fun h _ => h⟩

def up (w : World) (g : Grow w) : World := g.to
theorem up_below (w : World) (g : Grow w) : Below w.heap.size w (up w g) := g.below
theorem up_size (w : World) (g : Grow w) : w.heap.size ≤ (up w g).heap.size := g.below.size
@[simp, go_sem] theorem up_cell (w : World) (g : Grow w) (b o : Nat) (h : b < w.heap.size) : (up w g).cell? ⟨b, o, none⟩ = w.cell? ⟨b, o, none⟩ := g.below.cell (p := ⟨b, o, none⟩) h
@[simp, go_sem] theorem up_frozen (w : World) (g : Grow w) (b o : Nat) (h : b < w.heap.size) : (up w g).frozen? ⟨b, o, none⟩ = w.frozen? ⟨b, o, none⟩ := g.below.frozen (p := ⟨b, o, none⟩) h
theorem up_of {w w' : World} (h : Below w.heap.size w w') : ∃ g : Grow w, w' = up w g := ⟨⟨w', h⟩, rfl⟩
theorem up_up {w : World} (g : Grow w) {w' : World} (h : Below (up w g).heap.size (up w g) w') : ∃ g : Grow w, w' = up w g :=
  up_of ((up_below w g).trans (h.mono (up_size w g)))

/-- What every function here does: it returns a value, and leaves what was there. -/
def Ret (v : Value) (w : World) (e : Ending) (w' : World) : Prop := e = .returned v ∧ Below w.heap.size w w'
theorem Ret.mk {v v' : Value} {w w' : World} (h : v' = v) (hb : Below w.heap.size w w') : Ret v w (.returned v') w' := ⟨by rw [h], hb⟩
/-- It returns a value, and changes nothing at all. -/
def Same (v : Value) (w : World) (e : Ending) (w' : World) : Prop := e = .returned v ∧ w = w'
theorem Same.mk {v v' : Value} {w w' : World} (h : v' = v) (hb : w = w') : Same v w (.returned v') w' := ⟨by rw [h], hb⟩
theorem boolV {a b : Bool} (h : a = true ↔ b = true) : Value.bool a = Value.bool b := by rw [Bool.eq_iff_iff.2 h]

section
variable {P : Program} {f : FuncId} {args : Array Value} {w : World} {v : Value}
theorem Ret.out (h : Calls P f args w (Ret v w)) : Calls P f args w fun e w' => e = .returned v ∧ ∃ g : Grow w, w' = up w g :=
  h.mono fun _ _ ⟨he, hb⟩ => ⟨he, up_of hb⟩
theorem Ret.up {g : Grow w} (h : Calls P f args (up w g) (Ret v (up w g))) : Calls P f args (up w g) fun e w' => e = .returned v ∧ ∃ g : Grow w, w' = Go.Proofs.YthnlenbfknbmcaaGreatDoor.up w g :=
  h.mono fun _ _ ⟨he, hb⟩ => ⟨he, up_up g hb⟩
theorem Same.up {g : Grow w} (h : Calls P f args (up w g) (Same v (up w g))) : Calls P f args (up w g) fun e w' => e = .returned v ∧ ∃ g : Grow w, w' = Go.Proofs.YthnlenbfknbmcaaGreatDoor.up w g :=
  h.mono fun _ _ ⟨he, hb⟩ => ⟨he, g, hb.symm⟩

theorem wp_region_up {id : Nat} {Q : Exit → Act → World → Prop} {a : Act} {l : List Oper} (hm : P.follows .mixedOrders = true) (hB : Region.lexB .any l.toArray = true)
    (h : wpQuiet P l.toArray (fun w' => ∃ g : Grow w, w' = up w g) (fun a' => ∀ w', (∃ g : Grow w, w' = up w g) → Q .normal a' w') l a) : (Code.region id l.toArray true).wp P Q a w :=
  wp_region_quiet (C := fun w' => ∃ g : Grow w, w' = up w g) hm hB (up_of (Below.refl _ _).drew) (by simpa using h)
/-- The same where the world is one that has grown already. -/
theorem wp_region_upup {id : Nat} {Q : Exit → Act → World → Prop} {a : Act} {l : List Oper} {g : Grow w} (hm : P.follows .mixedOrders = true) (hB : Region.lexB .any l.toArray = true)
    (h : wpQuiet P l.toArray (fun w' => ∃ g : Grow w, w' = up w g) (fun a' => ∀ w', (∃ g : Grow w, w' = up w g) → Q .normal a' w') l a) : (Code.region id l.toArray true).wp P Q a (up w g) :=
  wp_region_quiet (C := fun w' => ∃ g : Grow w, w' = up w g) hm hB (up_of (up_below w g).drew) (by simpa using h)
end

/-- A block of the call's own, whose cells read so. -/
structure Own (w : World) (B : Nat) (xs : List Value) : Prop where
  cell : ∀ i v, xs[i]? = some v → w.cell? ⟨B, i, none⟩ = some v
  fro : ∀ i v, xs[i]? = some v → w.frozen? ⟨B, i, none⟩ = false
  lt : B < w.heap.size

theorem Own.new (w : World) (xs : Array Value) (t : TypeId) : Own (w.alloc (.cells xs t)) w.heap.size xs.toList :=
  ⟨fun i v h => by simpa using h, fun i v _ => by simp, by simp⟩
theorem Own.at (w : World) (xs : Array Value) (t : TypeId) (n : Nat) (h : n = w.heap.size) : Own (w.alloc (.cells xs t)) n xs.toList := by subst h; exact Own.new w xs t
theorem Own.alloc {w : World} {B : Nat} {xs : List Value} (h : Own w B xs) (o : Obj) : Own (w.alloc o) B xs :=
  ⟨fun i v hi => by rw [World.cell?_alloc_past _ _ _ h.lt]; exact h.cell i v hi, fun i v hi => by rw [World.frozen?_alloc_past _ _ _ h.lt]; exact h.fro i v hi, by have := h.lt; simp; omega⟩
theorem Own.below {w w1 : World} {B : Nat} {xs : List Value} (h : Own w B xs) (hb : Below w.heap.size w w1) : Own w1 B xs :=
  ⟨fun i v hi => (hb.cell (p := ⟨B, i, none⟩) h.lt).trans (h.cell i v hi), fun i v hi => (hb.frozen (p := ⟨B, i, none⟩) h.lt).trans (h.fro i v hi), Nat.lt_of_lt_of_le h.lt hb.size⟩
theorem Own.two {w : World} {B : Nat} {x y : Value} (h : Own w B [x, y]) : w.cell? ⟨B, 0, none⟩ = some x ∧ w.cell? ⟨B, 1, none⟩ = some y ∧ w.frozen? ⟨B, 0, none⟩ = false ∧ w.frozen? ⟨B, 1, none⟩ = false ∧ B < w.heap.size :=
  ⟨h.cell 0 _ rfl, h.cell 1 _ rfl, h.fro 0 _ rfl, h.fro 1 _ rfl, h.lt⟩
theorem Own.one {w : World} {B : Nat} {x : Value} (h : Own w B [x]) : w.cell? ⟨B, 0, none⟩ = some x ∧ w.frozen? ⟨B, 0, none⟩ = false ∧ B < w.heap.size :=
  ⟨h.cell 0 _ rfl, h.fro 0 _ rfl, h.lt⟩
end Go.Proofs.YthnlenbfknbmcaaGreatDoor
namespace Go.Proofs.YthnlenbfknbmcaaGreatDoor
open Go.RowKit

theorem Own.drew {w : World} {B : Nat} {xs : List Value} (h : Own w B xs) : Own w.drew B xs := ⟨h.cell, h.fro, h.lt⟩
theorem Own.setCell {w : World} {B : Nat} {xs : List Value} (h : Own w B xs) {p : Addr} (hp : p.block ≠ B) (v : Value) : Own (w.setCell p v) B xs :=
  ⟨fun i x hi => by rw [World.cell?_setCell_other]; exact h.cell i x hi; intro e; exact hp (by rw [e]), fun i x hi => by rw [World.frozen?_setCell]; exact h.fro i x hi, by have := h.lt; simpa [World.setCell] using this⟩
theorem Own.set2 {w : World} {B : Nat} {x y : Value} (h : Own w B [x, y]) (u v : Value) : Own ((w.setCell ⟨B, 0, none⟩ u).setCell ⟨B, 1, none⟩ v) B [u, v] := by
  have h0 := h.cell 0 _ rfl
  have h1 := h.cell 1 _ rfl
  refine ⟨fun i z hi => ?_, fun i z hi => ?_, by have := h.lt; simpa [World.setCell] using this⟩
  · match i, hi with
    | 0, hi =>
      simp at hi; subst hi
      rw [World.cell?_setCell_other _ _ _ _ (by simp)]
      exact World.cell?_setCell_same _ _ _ h0
    | 1, hi =>
      simp at hi; subst hi
      exact World.cell?_setCell_same _ _ _ (by rw [World.cell?_setCell_other _ _ _ _ (by simp)]; exact h1)
  · rw [World.frozen?_setCell, World.frozen?_setCell]
    match i, hi with
    | 0, _ => exact h.fro 0 _ rfl
    | 1, _ => exact h.fro 1 _ rfl
end Go.Proofs.YthnlenbfknbmcaaGreatDoor
namespace Go.Proofs.YthnlenbfknbmcaaGreatDoor
open Go.RowKit

theorem Own.three {w : World} {B : Nat} {x y z : Value} (h : Own w B [x, y, z]) : w.cell? ⟨B, 0, none⟩ = some x ∧ w.cell? ⟨B, 1, none⟩ = some y ∧ w.cell? ⟨B, 2, none⟩ = some z ∧ w.frozen? ⟨B, 0, none⟩ = false ∧ w.frozen? ⟨B, 1, none⟩ = false ∧ w.frozen? ⟨B, 2, none⟩ = false ∧ B < w.heap.size :=
  ⟨h.cell 0 _ rfl, h.cell 1 _ rfl, h.cell 2 _ rfl, h.fro 0 _ rfl, h.fro 1 _ rfl, h.fro 2 _ rfl, h.lt⟩
end Go.Proofs.YthnlenbfknbmcaaGreatDoor
namespace Go.Proofs.YthnlenbfknbmcaaGreatDoor

def letB (c : UInt8) : Bool := decide (97 ≤ c.toNat ∧ c.toNat ≤ 122)
def digB (c : UInt8) : Bool := decide (48 ≤ c.toNat ∧ c.toNat ≤ 57)
/-- { } ( ) ; , + - * / < = % -/
def signs : List UInt8 := [123, 125, 40, 41, 59, 44, 43, 45, 42, 47, 60, 61, 37]
def sgnB (c : UInt8) : Bool := signs.contains c
def nDig (s : List UInt8) : Nat := (s.takeWhile digB).length
def nLet (s : List UInt8) : Nat := (s.takeWhile letB).length
/-- all digits together, as a number -/
def cents (s : List UInt8) : Nat := (s.filter digB).foldl (fun n c => 10 * n + (c.toNat - 48)) 0
/-- the Kind of which a text is a token, or 0 -/
def kindF (s : List UInt8) : Nat :=
  match s with
  | [] => 0
  | c :: _ =>
    if s.length = 1 ∧ sgnB c = true then 4
    else if letB c then (if s.all letB then 1 else 0)
    else if nDig s < 1 ∨ 9 < nDig s ∨ 1 < nDig s ∧ c = 48 then 0
    else if nDig s = s.length then 2
    else if s[nDig s]? ≠ some 46 ∨ s.length ≠ nDig s + 3 ∨ nDig (s.drop (nDig s + 1)) ≠ 2 then 0
    else if 1000000000 < cents s then 0 else 3
/-- how many bytes belong to the token that begins here, whether it is one or not -/
def sizeF (s : List UInt8) : Nat :=
  match s with
  | [] => 0
  | c :: _ =>
    if letB c then nLet s
    else if nDig s = 0 then 1
    else if s[nDig s]? = some 46 then nDig s + 1 + nDig (s.drop (nDig s + 1))
    else nDig s

theorem tw_len {p : UInt8 → Bool} (s : List UInt8) : (s.takeWhile p).length ≤ s.length := (List.takeWhile_prefix p).length_le
theorem size_pos {s : List UInt8} (h : s ≠ []) : 1 ≤ sizeF s := by
  cases s with
  | nil => exact absurd rfl h
  | cons c r =>
    unfold sizeF
    simp only
    split
    · next hl => simp [nLet, hl]
    · split
      · exact Nat.le_refl _
      · split <;> omega

structure Tok where
  k : Nat
  n : Nat
  t : List UInt8

/-- the tokens from a line on, behind so many: or an error and its line -/
def toksF (line cnt : Nat) (s : List UInt8) : List Tok × Nat × Nat :=
  match s with
  | [] => ([], 0, 0)
  | c :: r =>
    if c = 32 then toksF line cnt r
    else if c = 10 then toksF (line + 1) cnt r
    else if c = 35 then toksF line cnt (r.dropWhile (· != 10))
    else if kindF ((c :: r).take (sizeF (c :: r))) = 0 then ([], 8, line)
    else if cnt = 5000 then ([], 2, line)
    else
      let x := toksF line (cnt + 1) ((c :: r).drop (sizeF (c :: r)))
      if x.2.1 = 0 then (⟨kindF ((c :: r).take (sizeF (c :: r))), line, (c :: r).take (sizeF (c :: r))⟩ :: x.1, 0, 0) else ([], x.2.1, x.2.2)
termination_by s.length
decreasing_by
  all_goals simp_wf
  · have := (List.dropWhile_suffix (l := r) (· != 10)).length_le; omega
  · have := size_pos (s := c :: r) (by simp); omega

/-- what follows a token, or stands at the end -/
def gapB (s : List UInt8) : Bool := match s with | [] => true | c :: _ => c == 32 || c == 10
theorem gap_let {s : List UInt8} (h : gapB s = true) : ∀ c r, s = c :: r → letB c = false ∧ digB c = false ∧ c ≠ 46 := by
  rintro c r rfl
  simp only [gapB, Bool.or_eq_true, beq_iff_eq] at h
  rcases h with rfl | rfl <;> decide
theorem tw_mem {p : UInt8 → Bool} : ∀ {s : List UInt8} {x : UInt8}, x ∈ s.takeWhile p → p x = true
  | [], x, h => by simp at h
  | c :: r, x, h => by
    rw [List.takeWhile_cons] at h
    split at h
    · next hc =>
      rcases List.mem_cons.1 h with rfl | h
      · exact hc
      · exact tw_mem h
    · cases h
theorem tw_gap {p : UInt8 → Bool} {a b : List UInt8} (ha : ∀ x ∈ a, p x = true) (hb : ∀ c r, b = c :: r → p c = false) : (a ++ b).takeWhile p = a := by
  rw [List.takeWhile_append_of_pos ha]
  cases b with
  | nil => simp
  | cons c r => simp [hb c r rfl]

/-- a token's own text is as long as the lexer takes it, where a gap follows -/
theorem size_kind {t s : List UInt8} (hk : kindF t ≠ 0) (hs : gapB s = true) : sizeF (t ++ s) = t.length := by
  have hg := gap_let hs
  cases t with
  | nil => exact absurd rfl hk
  | cons c r =>
    unfold kindF at hk
    simp only at hk
    by_cases h1 : (c :: r).length = 1 ∧ sgnB c = true
    · obtain rfl : r = [] := by have := h1.1; simpa using this
      have hc : letB c = false ∧ digB c = false := by
        have := h1.2
        simp only [sgnB, signs, List.contains_eq_mem, List.mem_cons, List.not_mem_nil, or_false, decide_eq_true_eq] at this
        rcases this with rfl | rfl | rfl | rfl | rfl | rfl | rfl | rfl | rfl | rfl | rfl | rfl | rfl <;> decide
      simp [sizeF, hc.1, nDig, hc.2]
    · rw [if_neg h1] at hk
      by_cases h2 : letB c = true
      · rw [if_pos h2] at hk
        have h3 : (c :: r).all letB = true := by
          cases hh : (c :: r).all letB with
          | true => rfl
          | false => rw [hh] at hk; simp at hk
        have h4 : ((c :: r) ++ s).takeWhile letB = c :: r := tw_gap (fun x hx => (List.all_eq_true.1 h3) x hx) (fun c r e => (hg c r e).1)
        simp only [sizeF, List.cons_append, h2, if_true, nLet]
        rw [List.cons_append] at h4
        rw [h4]
      · rw [if_neg h2] at hk
        by_cases h5 : nDig (c :: r) < 1 ∨ 9 < nDig (c :: r) ∨ 1 < nDig (c :: r) ∧ c = 48
        · rw [if_pos h5] at hk; exact absurd rfl hk
        rw [if_neg h5] at hk
        by_cases h6 : nDig (c :: r) = (c :: r).length
        · have h7 : ∀ x ∈ (c :: r), digB x = true := by
            have e : (c :: r).takeWhile digB = c :: r := (List.takeWhile_prefix digB).eq_of_length h6
            intro x hx
            rw [← e] at hx
            exact (tw_mem hx)
          have h8 : ((c :: r) ++ s).takeWhile digB = c :: r := tw_gap h7 (fun c r e => (hg c r e).2.1)
          have h9 : nDig ((c :: r) ++ s) = (c :: r).length := by unfold nDig; rw [h8]
          have h10 : ((c :: r) ++ s)[(c :: r).length]? ≠ some 46 := by
            rw [List.getElem?_append_right (Nat.le_refl _), Nat.sub_self]
            cases s with
            | nil => simp
            | cons d q => simpa using (hg d q rfl).2.2
          rw [List.cons_append] at h9 h10 ⊢
          simp only [sizeF]
          rw [if_neg h2, h9, if_neg (by simp), if_neg h10]
        · rw [if_neg h6] at hk
          by_cases h11 : (c :: r)[nDig (c :: r)]? ≠ some 46 ∨ (c :: r).length ≠ nDig (c :: r) + 3 ∨ nDig ((c :: r).drop (nDig (c :: r) + 1)) ≠ 2
          · rw [if_pos h11] at hk; exact absurd rfl hk
          · obtain ⟨h12, h13, h14⟩ : (c :: r)[nDig (c :: r)]? = some 46 ∧ (c :: r).length = nDig (c :: r) + 3 ∧ nDig ((c :: r).drop (nDig (c :: r) + 1)) = 2 := by
              refine ⟨?_, ?_, ?_⟩ <;> (apply Classical.byContradiction; intro hn; exact h11 (by simp only [ne_eq, hn, not_false_eq_true, true_or, or_true]))
            obtain ⟨n, hn⟩ : ∃ n, n = nDig (c :: r) := ⟨_, rfl⟩
            rw [← hn] at h5 h12 h13 h14
            have hsp : c :: r = (c :: r).take n ++ 46 :: (c :: r).drop (n + 1) := by
              have hlt : n < (c :: r).length := by omega
              have e46 : (c :: r)[n] = 46 := by rw [List.getElem?_eq_getElem hlt] at h12; exact Option.some.inj h12
              rw [← e46, ← List.drop_eq_getElem_cons hlt, List.take_append_drop]
            have hA : ∀ x ∈ (c :: r).take n, digB x = true := by
              have e : (c :: r).takeWhile digB = (c :: r).take n := by
                have := List.prefix_iff_eq_take.1 (List.takeWhile_prefix digB (l := c :: r))
                rw [this]; unfold nDig at hn; rw [← hn]
              intro x hx; rw [← e] at hx; exact tw_mem hx
            have hBl : ((c :: r).drop (n + 1)).length = 2 := by rw [List.length_drop]; omega
            have hB : ∀ x ∈ (c :: r).drop (n + 1), digB x = true := by
              have e : ((c :: r).drop (n + 1)).takeWhile digB = (c :: r).drop (n + 1) := (List.takeWhile_prefix digB).eq_of_length (by unfold nDig at h14; rw [h14, hBl])
              intro x hx; rw [← e] at hx; exact tw_mem hx
            have hAl : ((c :: r).take n).length = n := by rw [List.length_take]; omega
            generalize (c :: r).take n = A at *
            generalize (c :: r).drop (n + 1) = B at *
            have hne : A ≠ [] := by intro e; rw [e] at hAl; simp at hAl; omega
            have k1 : nDig ((c :: r) ++ s) = n := by
              rw [hsp, List.append_assoc]
              unfold nDig
              rw [tw_gap hA (by intro c r e; simp at e; rw [← e.1]; decide), hAl]
            have k2 : ((c :: r) ++ s)[n]? = some 46 := by
              rw [hsp, List.append_assoc, List.getElem?_append_right (by omega), hAl]; simp
            have k3 : nDig (((c :: r) ++ s).drop (n + 1)) = 2 := by
              have e : ((c :: r) ++ s).drop (n + 1) = B ++ s := by
                rw [hsp, List.append_assoc, ← hAl]; simp
              rw [e]; unfold nDig
              rw [tw_gap hB (fun c r e => (hg c r e).2.1), hBl]
            rw [List.cons_append] at k1 k2 k3 ⊢
            simp only [sizeF]
            rw [if_neg h2, k1, if_neg (by omega), if_pos k2, k3]
            omega

/-- no token begins with a blank, a line feed or a comment's sign -/
theorem kind_head {c : UInt8} {r : List UInt8} (hk : kindF (c :: r) ≠ 0) : c ≠ 32 ∧ c ≠ 10 ∧ c ≠ 35 := by
  refine ⟨?_, ?_, ?_⟩ <;>
  · rintro rfl
    refine hk ?_
    unfold kindF
    simp only
    rw [if_neg (by rintro ⟨_, h⟩; revert h; decide), if_neg (by decide), if_pos (.inl (by simp [nDig, show digB 32 = false by decide, show digB 10 = false by decide, show digB 35 = false by decide]))]

/-- one token more in front of what follows -/
def consF (x : Tok) (y : List Tok × Nat × Nat) : List Tok × Nat × Nat := if y.2.1 = 0 then (x :: y.1, 0, 0) else ([], y.2.1, y.2.2)
theorem toks_nil (line cnt : Nat) : toksF line cnt [] = ([], 0, 0) := by rw [toksF]
theorem toks_blank (line cnt : Nat) (s : List UInt8) : toksF line cnt (32 :: s) = toksF line cnt s := by rw [toksF, if_pos rfl]
theorem toks_feed (line cnt : Nat) (s : List UInt8) : toksF line cnt (10 :: s) = toksF (line + 1) cnt s := by rw [toksF, if_neg (by decide), if_pos rfl]
theorem toks_note (line cnt : Nat) (s : List UInt8) : toksF line cnt (35 :: s) = toksF line cnt (s.dropWhile (· != 10)) := by rw [toksF, if_neg (by decide), if_neg (by decide), if_pos rfl]
theorem toks_tok (line cnt : Nat) {t s : List UInt8} (hk : kindF t ≠ 0) (hs : gapB s = true) (hc : cnt < 5000) : toksF line cnt (t ++ s) = consF ⟨kindF t, line, t⟩ (toksF line (cnt + 1) s) := by
  have hz := size_kind hk hs
  cases t with
  | nil => exact absurd rfl hk
  | cons c r =>
    obtain ⟨h1, h2, h3⟩ := kind_head hk
    have e1 : ((c :: r) ++ s).take (sizeF ((c :: r) ++ s)) = c :: r := by rw [hz]; simp
    have e2 : ((c :: r) ++ s).drop (sizeF ((c :: r) ++ s)) = s := by rw [hz]; simp
    rw [List.cons_append] at e1 e2 ⊢
    rw [toksF, if_neg h1, if_neg h2, if_neg h3, e1, e2, if_neg hk, if_neg (by omega)]
    rfl
end Go.Proofs.YthnlenbfknbmcaaGreatDoor
namespace Go.Proofs.YthnlenbfknbmcaaGreatDoor

theorem cents_snoc (l : List UInt8) (d : UInt8) : cents (l ++ [d]) = if digB d then 10 * cents l + (d.toNat - 48) else cents l := by
  unfold cents
  rw [List.filter_append, List.filter_cons, List.filter_nil]
  split
  · rw [List.foldl_append]; rfl
  · rw [List.append_nil]
end Go.Proofs.YthnlenbfknbmcaaGreatDoor
namespace Go.Proofs.YthnlenbfknbmcaaGreatDoor

/-- what follows begins alike, or is a gap both times -/
def likeB (a b : List UInt8) : Prop := a.head? = b.head? ∨ gapB a = true ∧ gapB b = true
theorem tw_split (p : UInt8 → Bool) (s : List UInt8) : s = s.takeWhile p ++ s.drop (s.takeWhile p).length ∧ (∀ x ∈ s.takeWhile p, p x = true) ∧ ∀ c r, s.drop (s.takeWhile p).length = c :: r → p c = false := by
  refine ⟨?_, fun x hx => tw_mem hx, ?_⟩
  · have h := List.prefix_iff_eq_take.1 (List.takeWhile_prefix p (l := s))
    conv => lhs; rw [← List.take_append_drop (s.takeWhile p).length s]
    rw [← h]
  · induction s with
    | nil => intro c r h; simp at h
    | cons d q ih =>
      intro c r h
      rw [List.takeWhile_cons] at h
      split at h
      · next hd => exact ih c r (by simpa using h)
      · next hd => simp at h; rw [← h.1]; simpa using hd
theorem like_not {p : UInt8 → Bool} {a b : List UInt8} (h : likeB a b) (hp : p 32 = false ∧ p 10 = false) (ha : ∀ c r, a = c :: r → p c = false) : ∀ c r, b = c :: r → p c = false := by
  rintro c r rfl
  rcases h with h | ⟨_, h⟩
  · cases a with
    | nil => simp at h
    | cons d q => simp at h; rw [← h]; exact ha d q rfl
  · simp only [gapB, Bool.or_eq_true, beq_iff_eq] at h
    rcases h with rfl | rfl
    · exact hp.1
    · exact hp.2
theorem like_pt {a b : List UInt8} (h : likeB a b) (ha : a.head? ≠ some 46) : b.head? ≠ some 46 := by
  rcases h with h | ⟨_, h⟩
  · rw [← h]; exact ha
  · cases b with
    | nil => simp
    | cons c r =>
      simp only [gapB, Bool.or_eq_true, beq_iff_eq] at h
      rcases h with rfl | rfl <;> simp
theorem get_app {A b : List UInt8} {n : Nat} (hA : A.length = n) : (A ++ b)[n]? = b.head? := by
  rw [List.getElem?_append_right (by omega), hA, Nat.sub_self]
  cases b <;> rfl
theorem size_local {s b : List UInt8} (h : likeB (s.drop (sizeF s)) b) (hs : s ≠ []) : sizeF (s.take (sizeF s) ++ b) = sizeF s := by
  cases s with
  | nil => exact absurd rfl hs
  | cons c r =>
    have unf : ∀ q, sizeF (c :: q) = if letB c then nLet (c :: q) else if nDig (c :: q) = 0 then 1 else if (c :: q)[nDig (c :: q)]? = some 46 then nDig (c :: q) + 1 + nDig ((c :: q).drop (nDig (c :: q) + 1)) else nDig (c :: q) := fun _ => rfl
    by_cases h1 : letB c = true
    · have e : sizeF (c :: r) = nLet (c :: r) := by rw [unf, if_pos h1]
      rw [e] at h ⊢
      obtain ⟨t1, t2, t3⟩ := tw_split letB (c :: r)
      have hne : ∃ q, (c :: r).take (nLet (c :: r)) = c :: q := by
        have : 1 ≤ nLet (c :: r) := by simp [nLet, h1]
        obtain ⟨m, hm⟩ : ∃ m, nLet (c :: r) = m + 1 := ⟨nLet (c :: r) - 1, by omega⟩
        exact ⟨r.take m, by rw [hm]; rfl⟩
      have htk : (c :: r).take (nLet (c :: r)) = (c :: r).takeWhile letB := (List.prefix_iff_eq_take.1 (List.takeWhile_prefix letB)).symm
      obtain ⟨q, hq⟩ := hne
      have key : nLet ((c :: r).take (nLet (c :: r)) ++ b) = nLet (c :: r) := by
        rw [htk]; unfold nLet
        rw [tw_gap t2 (like_not h ⟨by decide, by decide⟩ t3)]
      rw [hq] at key ⊢
      rw [List.cons_append] at key ⊢
      rw [unf, if_pos h1, key]
    · by_cases h2 : nDig (c :: r) = 0
      · have e : sizeF (c :: r) = 1 := by rw [unf, if_neg h1, if_pos h2]
        rw [e] at h ⊢
        have hd : digB c = false := by
          cases hh : digB c with
          | false => rfl
          | true => simp [nDig, hh] at h2
        show sizeF (c :: b) = 1
        rw [unf, if_neg h1, if_pos (by simp [nDig, hd])]
      · obtain ⟨t1, t2, t3⟩ := tw_split digB (c :: r)
        obtain ⟨A, hA⟩ : ∃ A, A = (c :: r).takeWhile digB := ⟨_, rfl⟩
        have hAl : A.length = nDig (c :: r) := by rw [hA]; rfl
        rw [← hA] at t1 t2 t3
        obtain ⟨R, hR⟩ : ∃ R, R = (c :: r).drop A.length := ⟨_, rfl⟩
        rw [← hR] at t1 t3
        have hAne : A ≠ [] := by intro e; rw [e] at hAl; exact h2 hAl.symm
        have hd0 : ∀ x, (A ++ x) ≠ [] ∧ ∃ q, A ++ x = c :: q := by
          intro x
          cases hAA : A with
          | nil => exact absurd hAA hAne
          | cons d q =>
            rw [hAA] at t1
            simp only [List.cons_append, List.cons.injEq] at t1
            exact ⟨by simp, q ++ x, by rw [t1.1]; rfl⟩
        have hg : (c :: r)[nDig (c :: r)]? = R.head? := by rw [← hAl, t1]; exact get_app rfl
        by_cases h3 : R.head? = some 46
        · obtain ⟨R2, rfl⟩ : ∃ R2, R = 46 :: R2 := by
            cases R with
            | nil => simp at h3
            | cons d q => simp at h3; exact ⟨q, by rw [h3]⟩
          have e : sizeF (c :: r) = A.length + 1 + nDig R2 := by
            rw [unf, if_neg h1, if_neg h2, if_pos (by rw [hg]; rfl), ← hAl]
            have : (c :: r).drop (A.length + 1) = R2 := by rw [t1]; simp
            rw [this]
          rw [e] at h ⊢
          obtain ⟨u1, u2, u3⟩ := tw_split digB R2
          obtain ⟨B, hB⟩ : ∃ B, B = R2.takeWhile digB := ⟨_, rfl⟩
          have hBl : B.length = nDig R2 := by rw [hB]; rfl
          rw [← hB] at u1 u2 u3
          have htake : (c :: r).take (A.length + 1 + nDig R2) = A ++ 46 :: B := by
            rw [t1, ← hBl]
            conv => lhs; rw [u1]
            rw [show A ++ 46 :: (B ++ R2.drop B.length) = (A ++ 46 :: B) ++ R2.drop B.length by simp]
            rw [List.take_append_of_le_length (by simp; omega), List.take_of_length_le (by simp; omega)]
          have hdrop : (c :: r).drop (A.length + 1 + nDig R2) = R2.drop B.length := by
            rw [t1, ← hBl]
            rw [show A.length + 1 + B.length = A.length + (1 + B.length) by omega, List.drop_append]
            rw [Nat.add_comm 1 B.length]; simp
          rw [hdrop] at h
          rw [htake, List.append_assoc]
          obtain ⟨q, hq⟩ := (hd0 ((46 :: B) ++ b)).2
          have k1 : nDig (A ++ (46 :: B ++ b)) = A.length := by
            unfold nDig; rw [tw_gap t2 (by intro c r e; simp at e; rw [← e.1]; decide)]
          have k2 : (A ++ (46 :: B ++ b))[A.length]? = some 46 := by rw [get_app rfl]; rfl
          have k3 : nDig ((A ++ (46 :: B ++ b)).drop (A.length + 1)) = nDig R2 := by
            have : (A ++ (46 :: B ++ b)).drop (A.length + 1) = B ++ b := by simp
            rw [this]; unfold nDig
            rw [tw_gap u2 (like_not h ⟨by decide, by decide⟩ u3), hBl]; rfl
          rw [hq] at k1 k2 k3 ⊢
          rw [unf, if_neg h1, k1, if_neg (by rw [hAl]; exact h2), if_pos k2, k3]
        · have e : sizeF (c :: r) = A.length := by rw [unf, if_neg h1, if_neg h2, if_neg (by rw [hg]; exact h3), hAl]
          rw [e] at h ⊢
          have htake : (c :: r).take A.length = A := by rw [t1]; simp
          rw [← hR] at h
          rw [htake]
          obtain ⟨q, hq⟩ := (hd0 b).2
          have k1 : nDig (A ++ b) = A.length := by
            unfold nDig; rw [tw_gap t2 (like_not h ⟨by decide, by decide⟩ t3)]
          have k2 : (A ++ b)[A.length]? ≠ some 46 := by rw [get_app rfl]; exact like_pt h h3
          rw [hq] at k1 k2 ⊢
          rw [unf, if_neg h1, k1, if_neg (by rw [hAl]; exact h2), if_neg k2]

/-! ### There and back -/
def joinS (b : Bool) (line : Nat) : List Tok → List UInt8
  | [] => []
  | x :: r => (if b = false ∧ x.n = line then [32] else List.replicate (x.n - line) 10) ++ (x.t ++ joinS false x.n r)
def RightF (line : Nat) : List Tok → Prop
  | [] => True
  | x :: r => kindF x.t ≠ 0 ∧ x.k = kindF x.t ∧ line ≤ x.n ∧ RightF x.n r
theorem toks_feeds (cnt : Nat) (s : List UInt8) : ∀ (m line : Nat), toksF line cnt (List.replicate m 10 ++ s) = toksF (line + m) cnt s
  | 0, line => rfl
  | m + 1, line => by rw [List.replicate_succ, List.cons_append, toks_feed, toks_feeds cnt s m (line + 1), show line + 1 + m = line + (m + 1) by omega]
theorem join_gap (line : Nat) (l : List Tok) (h : RightF line l) : gapB (joinS false line l) = true := by
  cases l with
  | nil => rfl
  | cons x r =>
    unfold joinS
    split
    · rfl
    · next hn =>
      obtain ⟨m, hm⟩ : ∃ m, x.n - line = m + 1 := ⟨x.n - line - 1, by have := h.2.2.1; have : x.n ≠ line := fun e => hn ⟨rfl, e⟩; omega⟩
      rw [hm]; rfl
/-- the text of tokens is read as these tokens -/
theorem toks_join : ∀ (l : List Tok) (b : Bool) (line cnt : Nat), RightF line l → cnt + l.length ≤ 5000 → toksF line cnt (joinS b line l) = (l, 0, 0)
  | [], b, line, cnt, _, _ => toks_nil line cnt
  | x :: r, b, line, cnt, h, hc => by
    obtain ⟨h1, h2, h3, h4⟩ := h
    have hc' : cnt + 1 + r.length ≤ 5000 := by simp at hc; omega
    have key : toksF x.n cnt (x.t ++ joinS false x.n r) = (x :: r, 0, 0) := by
      rw [toks_tok x.n cnt h1 (join_gap x.n r h4) (by omega), toks_join r false x.n (cnt + 1) h4 hc']
      obtain ⟨xk, xn, xt⟩ := x
      simp only at h2
      simp [consF, h2]
    unfold joinS
    split
    · next hn => rw [List.cons_append, List.nil_append, toks_blank, ← hn.2, key]
    · rw [toks_feeds, show line + (x.n - line) = x.n by omega, key]

/-! ### What is read is right -/
/-- each step of the lexer, told by its case -/
theorem toks_cases (P : Nat → Nat → List UInt8 → Prop) (hnil : ∀ line cnt, P line cnt [])
    (hblank : ∀ line cnt r, P line cnt r → P line cnt (32 :: r)) (hfeed : ∀ line cnt r, P (line + 1) cnt r → P line cnt (10 :: r)) (hnote : ∀ line cnt r, P line cnt (r.dropWhile (· != 10)) → P line cnt (35 :: r))
    (hbad : ∀ line cnt c r, c ≠ 32 → c ≠ 10 → c ≠ 35 → (kindF ((c :: r).take (sizeF (c :: r))) = 0 ∨ cnt = 5000) → P line cnt (c :: r))
    (htok : ∀ line cnt c r, c ≠ 32 → c ≠ 10 → c ≠ 35 → kindF ((c :: r).take (sizeF (c :: r))) ≠ 0 → cnt ≠ 5000 → P line (cnt + 1) ((c :: r).drop (sizeF (c :: r))) → P line cnt (c :: r)) :
    ∀ (k : Nat) (line cnt : Nat) (s : List UInt8), s.length ≤ k → P line cnt s
  | k, line, cnt, [], _ => hnil line cnt
  | 0, _, _, c :: r, h => by simp at h
  | k + 1, line, cnt, c :: r, h => by
    have ih := toks_cases P hnil hblank hfeed hnote hbad htok k
    have hr : r.length ≤ k := by simpa using h
    by_cases h1 : c = 32
    · subst h1; exact hblank line cnt r (ih _ _ _ hr)
    by_cases h2 : c = 10
    · subst h2; exact hfeed line cnt r (ih _ _ _ hr)
    by_cases h3 : c = 35
    · subst h3; exact hnote line cnt r (ih _ _ _ (Nat.le_trans (List.dropWhile_suffix (l := r) (· != 10)).length_le hr))
    by_cases h4 : kindF ((c :: r).take (sizeF (c :: r))) = 0
    · exact hbad line cnt c r h1 h2 h3 (.inl h4)
    by_cases h5 : cnt = 5000
    · exact hbad line cnt c r h1 h2 h3 (.inr h5)
    · refine htok line cnt c r h1 h2 h3 h4 h5 (ih _ _ _ ?_)
      have := size_pos (s := c :: r) (by simp)
      rw [List.length_drop]; simp only [List.length_cons]; omega
theorem toks_step (line cnt : Nat) {c : UInt8} {r : List UInt8} (h1 : c ≠ 32) (h2 : c ≠ 10) (h3 : c ≠ 35) (hk : kindF ((c :: r).take (sizeF (c :: r))) ≠ 0) (hc : cnt ≠ 5000) :
    toksF line cnt (c :: r) = consF ⟨kindF ((c :: r).take (sizeF (c :: r))), line, (c :: r).take (sizeF (c :: r))⟩ (toksF line (cnt + 1) ((c :: r).drop (sizeF (c :: r)))) := by
  rw [toksF, if_neg h1, if_neg h2, if_neg h3, if_neg hk, if_neg hc]; rfl
theorem toks_err (line cnt : Nat) {c : UInt8} {r : List UInt8} (h1 : c ≠ 32) (h2 : c ≠ 10) (h3 : c ≠ 35) (hk : kindF ((c :: r).take (sizeF (c :: r))) = 0 ∨ cnt = 5000) :
    ∃ e, (e = 8 ∨ e = 2) ∧ toksF line cnt (c :: r) = ([], e, line) := by
  rw [toksF, if_neg h1, if_neg h2, if_neg h3]
  by_cases h4 : kindF ((c :: r).take (sizeF (c :: r))) = 0
  · rw [if_pos h4]; exact ⟨8, .inl rfl, rfl⟩
  · rw [if_neg h4]
    rcases hk with h | h
    · exact absurd h h4
    · rw [if_pos h]; exact ⟨2, .inr rfl, rfl⟩
theorem right_mono {line line2 : Nat} (h : line2 ≤ line) : ∀ {l : List Tok}, RightF line l → RightF line2 l
  | [], _ => trivial
  | _ :: _, ⟨h1, h2, h3, h4⟩ => ⟨h1, h2, by omega, h4⟩
/-- an error comes with no tokens, and no error with the line 0; tokens that are read are right, and no more than 5000 -/
theorem toks_right (line cnt : Nat) (s : List UInt8) (hc : cnt ≤ 5000) : ((toksF line cnt s).2.1 = 0 → (toksF line cnt s).2.2 = 0 ∧ RightF line (toksF line cnt s).1 ∧ cnt + (toksF line cnt s).1.length ≤ 5000) ∧
    ((toksF line cnt s).2.1 ≠ 0 → (toksF line cnt s).1 = [] ∧ line ≤ (toksF line cnt s).2.2) := by
  refine toks_cases (fun line cnt s => cnt ≤ 5000 → ((toksF line cnt s).2.1 = 0 → (toksF line cnt s).2.2 = 0 ∧ RightF line (toksF line cnt s).1 ∧ cnt + (toksF line cnt s).1.length ≤ 5000) ∧
    ((toksF line cnt s).2.1 ≠ 0 → (toksF line cnt s).1 = [] ∧ line ≤ (toksF line cnt s).2.2)) ?_ ?_ ?_ ?_ ?_ ?_ s.length line cnt s (Nat.le_refl _) hc
  · intro line cnt hc
    rw [toks_nil]
    exact ⟨fun _ => ⟨rfl, trivial, by simpa using hc⟩, fun h => absurd rfl h⟩
  · intro line cnt r ih hc; rw [toks_blank]; exact ih hc
  · intro line cnt r ih hc
    rw [toks_feed]
    obtain ⟨i1, i2⟩ := ih hc
    exact ⟨fun h => ⟨(i1 h).1, right_mono (by omega) (i1 h).2.1, (i1 h).2.2⟩, fun h => ⟨(i2 h).1, by have := (i2 h).2; omega⟩⟩
  · intro line cnt r ih hc; rw [toks_note]; exact ih hc
  · intro line cnt c r h1 h2 h3 hk hc
    obtain ⟨e, he, hq⟩ := toks_err line cnt h1 h2 h3 hk
    rw [hq]
    exact ⟨fun h => by simp only at h; omega, fun _ => ⟨rfl, Nat.le_refl _⟩⟩
  · intro line cnt c r h1 h2 h3 hk h5 ih hc
    rw [toks_step line cnt h1 h2 h3 hk h5]
    obtain ⟨i1, i2⟩ := ih (by omega)
    generalize toksF line (cnt + 1) ((c :: r).drop (sizeF (c :: r))) = y at *
    unfold consF
    by_cases hy : y.2.1 = 0
    · rw [if_pos hy]
      refine ⟨fun _ => ⟨rfl, ⟨hk, rfl, Nat.le_refl _, (i1 hy).2.1⟩, ?_⟩, fun h => absurd rfl h⟩
      have := (i1 hy).2.2
      simp only [List.length_cons]; omega
    · rw [if_neg hy]
      exact ⟨fun h => absurd h hy, fun _ => ⟨rfl, (i2 hy).2⟩⟩
end Go.Proofs.YthnlenbfknbmcaaGreatDoor
namespace Go.Proofs.YthnlenbfknbmcaaGreatDoor

theorem kind_shape {t : List UInt8} (hk : kindF t ≠ 0) : (∃ c, t = [c] ∧ sgnB c = true) ∨ (∀ x ∈ t, letB x = true) ∨ (∀ x ∈ t, digB x = true) ∨ ∃ A B, t = A ++ 46 :: B ∧ (∀ x ∈ A, digB x = true) ∧ (∀ x ∈ B, digB x = true) := by
  cases t with
  | nil => exact absurd rfl hk
  | cons c r =>
    unfold kindF at hk
    simp only at hk
    by_cases h1 : (c :: r).length = 1 ∧ sgnB c = true
    · obtain rfl : r = [] := by have := h1.1; simpa using this
      exact .inl ⟨c, rfl, h1.2⟩
    · rw [if_neg h1] at hk
      by_cases h2 : letB c = true
      · rw [if_pos h2] at hk
        refine .inr (.inl ?_)
        cases hh : (c :: r).all letB with
        | true => exact fun x hx => (List.all_eq_true.1 hh) x hx
        | false => rw [hh] at hk; simp at hk
      · rw [if_neg h2] at hk
        by_cases h5 : nDig (c :: r) < 1 ∨ 9 < nDig (c :: r) ∨ 1 < nDig (c :: r) ∧ c = 48
        · rw [if_pos h5] at hk; exact absurd rfl hk
        rw [if_neg h5] at hk
        by_cases h6 : nDig (c :: r) = (c :: r).length
        · refine .inr (.inr (.inl fun x hx => ?_))
          have e : (c :: r).takeWhile digB = c :: r := (List.takeWhile_prefix digB).eq_of_length h6
          rw [← e] at hx; exact tw_mem hx
        · rw [if_neg h6] at hk
          by_cases h11 : (c :: r)[nDig (c :: r)]? ≠ some 46 ∨ (c :: r).length ≠ nDig (c :: r) + 3 ∨ nDig ((c :: r).drop (nDig (c :: r) + 1)) ≠ 2
          · rw [if_pos h11] at hk; exact absurd rfl hk
          · obtain ⟨h12, h13, h14⟩ : (c :: r)[nDig (c :: r)]? = some 46 ∧ (c :: r).length = nDig (c :: r) + 3 ∧ nDig ((c :: r).drop (nDig (c :: r) + 1)) = 2 := by
              refine ⟨?_, ?_, ?_⟩ <;> (apply Classical.byContradiction; intro hn; exact h11 (by simp only [ne_eq, hn, not_false_eq_true, true_or, or_true]))
            refine .inr (.inr (.inr ⟨(c :: r).takeWhile digB, (c :: r).drop (nDig (c :: r) + 1), ?_, fun x hx => tw_mem hx, fun x hx => ?_⟩))
            · have hlt : nDig (c :: r) < (c :: r).length := by omega
              have e46 : (c :: r)[nDig (c :: r)] = 46 := by rw [List.getElem?_eq_getElem hlt] at h12; exact Option.some.inj h12
              have e := (tw_split digB (c :: r)).1
              rw [show ((c :: r).takeWhile digB).length = nDig (c :: r) from rfl, List.drop_eq_getElem_cons hlt, e46] at e
              exact e
            · have hl : ((c :: r).drop (nDig (c :: r) + 1)).length = 2 := by rw [List.length_drop]; omega
              have e : ((c :: r).drop (nDig (c :: r) + 1)).takeWhile digB = (c :: r).drop (nDig (c :: r) + 1) := (List.takeWhile_prefix digB).eq_of_length (by show nDig _ = _; rw [h14, hl])
              rw [← e] at hx; exact tw_mem hx
theorem kind_bytes {t : List UInt8} (hk : kindF t ≠ 0) : ∀ x ∈ t, x ≠ 32 ∧ x ≠ 10 ∧ x ≠ 35 := by
  have hl : ∀ x, letB x = true → x ≠ 32 ∧ x ≠ 10 ∧ x ≠ 35 := fun x h => ⟨by rintro rfl; revert h; decide, by rintro rfl; revert h; decide, by rintro rfl; revert h; decide⟩
  have hd : ∀ x, digB x = true → x ≠ 32 ∧ x ≠ 10 ∧ x ≠ 35 := fun x h => ⟨by rintro rfl; revert h; decide, by rintro rfl; revert h; decide, by rintro rfl; revert h; decide⟩
  intro x hx
  rcases kind_shape hk with ⟨c, rfl, hc⟩ | h | h | ⟨A, B, rfl, hA, hB⟩
  · obtain rfl := List.mem_singleton.1 hx
    exact ⟨by rintro rfl; revert hc; decide, by rintro rfl; revert hc; decide, by rintro rfl; revert hc; decide⟩
  · exact hl x (h x hx)
  · exact hd x (h x hx)
  · rcases List.mem_append.1 hx with hx | hx
    · exact hd x (hA x hx)
    · rcases List.mem_cons.1 hx with rfl | hx
      · exact ⟨by decide, by decide, by decide⟩
      · exact hd x (hB x hx)

/-- how many line feeds -/
def nl (s : List UInt8) : Nat := s.count 10
theorem nl_cons (c : UInt8) (s : List UInt8) : nl (c :: s) = nl s + if c = 10 then 1 else 0 := by
  unfold nl; rw [List.count_cons]; simp
theorem nl_ne {c : UInt8} {s : List UInt8} (h : c ≠ 10) : nl (c :: s) = nl s := by rw [nl_cons, if_neg h]; rfl
theorem nl_app (a b : List UInt8) : nl (a ++ b) = nl a + nl b := by unfold nl; exact List.count_append
theorem nl_none {s : List UInt8} (h : ∀ x ∈ s, x ≠ 10) : nl s = 0 := by
  unfold nl; rw [List.count_eq_zero]; intro hm; exact h 10 hm rfl
theorem nl_note : ∀ s : List UInt8, nl (s.dropWhile (· != 10)) = nl s
  | [] => rfl
  | c :: r => by
    rw [List.dropWhile_cons]
    by_cases h : c = 10
    · subst h; simp
    · rw [if_pos (by simpa using h), nl_note r, nl_cons, if_neg h]; rfl
theorem note_app (t : List UInt8) : ∀ s : List UInt8, (s ++ 10 :: t).dropWhile (· != 10) = s.dropWhile (· != 10) ++ 10 :: t
  | [] => by simp
  | c :: r => by
    rw [List.cons_append, List.dropWhile_cons, List.dropWhile_cons]
    by_cases h : c = 10
    · subst h; simp
    · rw [if_pos (by simpa using h), if_pos (by simpa using h), note_app t r]
theorem toks_eq (line cnt : Nat) {c : UInt8} {r : List UInt8} (h1 : c ≠ 32) (h2 : c ≠ 10) (h3 : c ≠ 35) :
    toksF line cnt (c :: r) = if kindF ((c :: r).take (sizeF (c :: r))) = 0 then ([], 8, line) else if cnt = 5000 then ([], 2, line) else
      consF ⟨kindF ((c :: r).take (sizeF (c :: r))), line, (c :: r).take (sizeF (c :: r))⟩ (toksF line (cnt + 1) ((c :: r).drop (sizeF (c :: r)))) := by
  rw [toksF, if_neg h1, if_neg h2, if_neg h3]; rfl
theorem size_le (s : List UInt8) (hs : s ≠ []) : sizeF s ≤ s.length := by
  cases s with
  | nil => exact absurd rfl hs
  | cons c r =>
    unfold sizeF
    simp only
    split
    · exact tw_len _
    · split
      · simp
      · split
        · next h3 h4 =>
          have hlt : nDig (c :: r) < (c :: r).length := by
            rcases Nat.lt_or_ge (nDig (c :: r)) (c :: r).length with h | h
            · exact h
            · rw [List.getElem?_eq_none h] at h4; cases h4
          have h5 := tw_len (p := digB) ((c :: r).drop (nDig (c :: r) + 1))
          rw [List.length_drop] at h5
          have h6 : nDig ((c :: r).drop (nDig (c :: r) + 1)) ≤ (c :: r).length - (nDig (c :: r) + 1) := h5
          omega
        · exact tw_len _
/-- a source's first token where something else follows behind what follows it -/
theorem size_more {s t : List UInt8} (hs : s ≠ []) (h : likeB (s.drop (sizeF s)) (s.drop (sizeF s) ++ t)) : sizeF (s ++ t) = sizeF s ∧ (s ++ t).take (sizeF (s ++ t)) = s.take (sizeF s) ∧ (s ++ t).drop (sizeF (s ++ t)) = s.drop (sizeF s) ++ t := by
  have e := size_local h hs
  have e2 : s.take (sizeF s) ++ (s.drop (sizeF s) ++ t) = s ++ t := by rw [← List.append_assoc, List.take_append_drop]
  rw [e2] at e
  have hle := size_le s hs
  rw [e]
  exact ⟨rfl, List.take_append_of_le_length hle, List.drop_append_of_le_length hle⟩
theorem like_feed (a t : List UInt8) : likeB a (a ++ 10 :: t) := by
  cases a with
  | nil => exact .inr ⟨rfl, rfl⟩
  | cons c r => exact .inl rfl

/-- tokens in front of what is read behind them -/
def appF (l : List Tok) (y : List Tok × Nat × Nat) : List Tok × Nat × Nat := if y.2.1 = 0 then (l ++ y.1, 0, 0) else ([], y.2.1, y.2.2)
theorem app_nil {line cnt : Nat} {s : List UInt8} (hc : cnt ≤ 5000) : appF [] (toksF line cnt s) = toksF line cnt s := by
  obtain ⟨h1, h2⟩ := toks_right line cnt s hc
  generalize toksF line cnt s = y at *
  obtain ⟨y1, y2, y3⟩ := y
  unfold appF
  by_cases h : y2 = 0
  · have := (h1 h).1
    simp only at this ⊢
    rw [if_pos h, this, h]; rfl
  · rw [if_neg h]; have := (h2 h).1; simp only at this ⊢; rw [this]
theorem cons_app (x : Tok) (l : List Tok) (y : List Tok × Nat × Nat) : consF x (appF l y) = appF (x :: l) y := by
  unfold consF appF
  by_cases h : y.2.1 = 0
  · rw [if_pos h, if_pos rfl, if_pos h]; rfl
  · rw [if_neg h, if_neg h, if_neg h]
/-- two sources with a line feed between them -/
theorem toks_parts (t : List UInt8) (line cnt : Nat) (s : List UInt8) (hc : cnt ≤ 5000) : toksF line cnt (s ++ 10 :: t) =
    if (toksF line cnt s).2.1 = 0 then appF (toksF line cnt s).1 (toksF (line + nl s + 1) (cnt + (toksF line cnt s).1.length) t) else toksF line cnt s := by
  refine toks_cases (fun line cnt s => cnt ≤ 5000 → toksF line cnt (s ++ 10 :: t) =
    if (toksF line cnt s).2.1 = 0 then appF (toksF line cnt s).1 (toksF (line + nl s + 1) (cnt + (toksF line cnt s).1.length) t) else toksF line cnt s) ?_ ?_ ?_ ?_ ?_ ?_ s.length line cnt s (Nat.le_refl _) hc
  · intro line cnt hc
    rw [List.nil_append, toks_feed, toks_nil, if_pos rfl]
    exact (app_nil hc).symm
  · intro line cnt r ih hc
    rw [List.cons_append, toks_blank, toks_blank, ih hc, nl_ne (by decide)]
  · intro line cnt r ih hc
    rw [List.cons_append, toks_feed, toks_feed, ih hc, nl_cons, if_pos rfl, show line + 1 + nl r + 1 = line + (nl r + 1) + 1 by omega]
  · intro line cnt r ih hc
    rw [List.cons_append, toks_note, toks_note, note_app, ih hc, nl_note, nl_ne (by decide)]
  · intro line cnt c r h1 h2 h3 hk hc
    obtain ⟨e1, e2, e3⟩ := size_more (s := c :: r) (t := 10 :: t) (by simp) (like_feed _ _)
    obtain ⟨e, he, hq⟩ := toks_err line cnt h1 h2 h3 hk
    rw [hq, if_neg (by simp only; omega), ← hq, List.cons_append, toks_eq line cnt h1 h2 h3, ← List.cons_append, e2, e3, toks_eq line cnt h1 h2 h3]
    rcases hk with hk | hk
    · rw [if_pos hk, if_pos hk]
    · rw [if_pos hk]; split <;> rfl
  · intro line cnt c r h1 h2 h3 hk h5 ih hc
    obtain ⟨e1, e2, e3⟩ := size_more (s := c :: r) (t := 10 :: t) (by simp) (like_feed _ _)
    have hn : nl (c :: r) = nl ((c :: r).drop (sizeF (c :: r))) := by
      conv => lhs; rw [← List.take_append_drop (sizeF (c :: r)) (c :: r)]
      rw [nl_app, nl_none (fun x hx => (kind_bytes hk x hx).2.1), Nat.zero_add]
    rw [toks_step line cnt h1 h2 h3 hk h5, hn, List.cons_append, toks_eq line cnt h1 h2 h3, ← List.cons_append, e2, e3, if_neg hk, if_neg h5, ih (by omega)]
    generalize toksF line (cnt + 1) ((c :: r).drop (sizeF (c :: r))) = y
    by_cases hy : y.2.1 = 0
    · rw [if_pos hy, cons_app]
      unfold consF
      rw [if_pos hy, if_pos rfl]
      simp only [List.length_cons]
      rw [show cnt + 1 + y.1.length = cnt + (y.1.length + 1) by omega]
    · rw [if_neg hy]
      unfold consF
      rw [if_neg hy, if_neg hy]
end Go.Proofs.YthnlenbfknbmcaaGreatDoor
namespace Go.Proofs.YthnlenbfknbmcaaGreatDoor

/-- the bytes that are neither blanks nor line feeds, nor in a comment -/
def restF : Bool → List UInt8 → List UInt8
  | _, [] => []
  | i, c :: r => if ((i || c == 35) && c != 10) = true then restF true r else (if c = 32 ∨ c = 10 then [] else [c]) ++ restF false r
theorem rest_note : ∀ s : List UInt8, restF true s = restF false (s.dropWhile (· != 10))
  | [] => rfl
  | c :: r => by
    rw [List.dropWhile_cons]
    by_cases h : c = 10
    · subst h; rfl
    · rw [if_pos (by simpa using h), ← rest_note r]
      have : ((true || c == 35) && c != 10) = true := by simp [h]
      rw [restF, if_pos this]
theorem rest_app (b : List UInt8) : ∀ a : List UInt8, (∀ x ∈ a, x ≠ 32 ∧ x ≠ 10 ∧ x ≠ 35) → restF false (a ++ b) = a ++ restF false b
  | [], _ => rfl
  | c :: r, h => by
    obtain ⟨h1, h2, h3⟩ := h c (by simp)
    rw [List.cons_append, restF, if_neg (by simp [h3]), if_neg (by simp [h1, h2]), rest_app b r (fun x hx => h x (by simp [hx]))]
    rfl
theorem toks_texts (line cnt : Nat) (s : List UInt8) : (toksF line cnt s).2.1 = 0 → (toksF line cnt s).1.flatMap (·.t) = restF false s := by
  refine toks_cases (fun line cnt s => (toksF line cnt s).2.1 = 0 → (toksF line cnt s).1.flatMap (·.t) = restF false s) ?_ ?_ ?_ ?_ ?_ ?_ s.length line cnt s (Nat.le_refl _)
  · intro line cnt _; rw [toks_nil]; rfl
  · intro line cnt r ih; rw [toks_blank]; exact ih
  · intro line cnt r ih; rw [toks_feed]; exact ih
  · intro line cnt r ih; rw [toks_note]; intro h; rw [ih h, ← rest_note]; rfl
  · intro line cnt c r h1 h2 h3 hk h
    obtain ⟨e, he, hq⟩ := toks_err line cnt h1 h2 h3 hk
    rw [hq] at h; simp only at h; omega
  · intro line cnt c r h1 h2 h3 hk h5 ih
    rw [toks_step line cnt h1 h2 h3 hk h5]
    have hr : restF false (c :: r) = (c :: r).take (sizeF (c :: r)) ++ restF false ((c :: r).drop (sizeF (c :: r))) := by
      conv => lhs; rw [← List.take_append_drop (sizeF (c :: r)) (c :: r)]
      exact rest_app _ _ (kind_bytes hk)
    rw [hr]
    generalize toksF line (cnt + 1) ((c :: r).drop (sizeF (c :: r))) = y at *
    unfold consF
    by_cases hy : y.2.1 = 0
    · rw [if_pos hy]; intro _; simp only [List.flatMap_cons]; rw [ih hy]
    · rw [if_neg hy]; exact fun h => absurd h hy
/-- the lines: from the first on to the last one -/
theorem toks_lines (line cnt : Nat) (s : List UInt8) : (∀ x ∈ (toksF line cnt s).1, x.n ≤ line + nl s) ∧ ((toksF line cnt s).2.1 ≠ 0 → (toksF line cnt s).2.2 ≤ line + nl s) := by
  refine toks_cases (fun line cnt s => (∀ x ∈ (toksF line cnt s).1, x.n ≤ line + nl s) ∧ ((toksF line cnt s).2.1 ≠ 0 → (toksF line cnt s).2.2 ≤ line + nl s)) ?_ ?_ ?_ ?_ ?_ ?_ s.length line cnt s (Nat.le_refl _)
  · intro line cnt; rw [toks_nil]; exact ⟨fun x hx => (by cases hx), fun h => absurd rfl h⟩
  · intro line cnt r ih; rw [toks_blank, nl_ne (by decide)]; exact ih
  · intro line cnt r ih
    rw [toks_feed, nl_cons, if_pos rfl]
    exact ⟨fun x hx => by have := ih.1 x hx; omega, fun h => by have := ih.2 h; omega⟩
  · intro line cnt r ih; rw [toks_note, nl_ne (by decide), ← nl_note]; exact ih
  · intro line cnt c r h1 h2 h3 hk
    obtain ⟨e, he, hq⟩ := toks_err line cnt h1 h2 h3 hk
    rw [hq]
    exact ⟨fun x hx => (by cases hx), fun _ => Nat.le_add_right _ _⟩
  · intro line cnt c r h1 h2 h3 hk h5 ih
    rw [toks_step line cnt h1 h2 h3 hk h5]
    have hn : nl ((c :: r).drop (sizeF (c :: r))) ≤ nl (c :: r) := by
      conv => rhs; rw [← List.take_append_drop (sizeF (c :: r)) (c :: r)]
      rw [nl_app]; omega
    generalize toksF line (cnt + 1) ((c :: r).drop (sizeF (c :: r))) = y at *
    unfold consF
    by_cases hy : y.2.1 = 0
    · rw [if_pos hy]
      refine ⟨fun x hx => ?_, fun h => absurd rfl h⟩
      rcases List.mem_cons.1 hx with rfl | hx
      · exact Nat.le_add_right _ _
      · have := ih.1 x hx; omega
    · rw [if_neg hy]
      exact ⟨fun x hx => (by cases hx), fun _ => by have := ih.2 hy; simp only at this ⊢; omega⟩

/-! ### More blanks -/
def wideF (m : Nat) : List UInt8 → List UInt8
  | [] => []
  | c :: r => if c = 32 ∨ c = 10 then c :: (List.replicate m 32 ++ wideF m r) else c :: wideF m r
theorem wide_cons (m : Nat) (c : UInt8) (r : List UInt8) : wideF m (c :: r) = if c = 32 ∨ c = 10 then c :: (List.replicate m 32 ++ wideF m r) else c :: wideF m r := rfl
theorem wide_app (m : Nat) (b : List UInt8) : ∀ a : List UInt8, (∀ x ∈ a, x ≠ 32 ∧ x ≠ 10) → wideF m (a ++ b) = a ++ wideF m b
  | [], _ => rfl
  | c :: r, h => by
    obtain ⟨h1, h2⟩ := h c (by simp)
    rw [List.cons_append, wide_cons, if_neg (by simp [h1, h2]), wide_app m b r (fun x hx => h x (by simp [hx]))]; rfl
theorem wide_head (m : Nat) (s : List UInt8) : (wideF m s).head? = s.head? := by
  cases s with
  | nil => rfl
  | cons c r => unfold wideF; split <;> rfl
theorem note_rep (b : List UInt8) : ∀ m : Nat, (List.replicate m 32 ++ b).dropWhile (· != 10) = b.dropWhile (· != (10 : UInt8))
  | 0 => rfl
  | m + 1 => by rw [List.replicate_succ, List.cons_append, List.dropWhile_cons, if_pos (by decide), note_rep b m]
theorem wide_note (m : Nat) : ∀ s : List UInt8, (wideF m s).dropWhile (· != 10) = wideF m (s.dropWhile (· != 10))
  | [] => rfl
  | c :: r => by
    have ih := wide_note m r
    by_cases h : c = 10
    · subst h; simp [wideF]
    · have e1 : (c :: r).dropWhile (· != 10) = r.dropWhile (· != 10) := by rw [List.dropWhile_cons, if_pos (by simpa using h)]
      rw [e1, ← ih, wide_cons]
      split
      · rw [List.dropWhile_cons, if_pos (by simpa using h), note_rep]
      · rw [List.dropWhile_cons, if_pos (by simpa using h)]
theorem toks_blanks (line cnt : Nat) (b : List UInt8) : ∀ m : Nat, toksF line cnt (List.replicate m 32 ++ b) = toksF line cnt b
  | 0 => rfl
  | m + 1 => by rw [List.replicate_succ, List.cons_append, toks_blank, toks_blanks line cnt b m]
/-- the bytes of what the lexer takes first: none is a blank or a line feed, unless it stands first -/
theorem take_bytes {c : UInt8} {r : List UInt8} (h1 : c ≠ 32) (h2 : c ≠ 10) : ∀ x ∈ (c :: r).take (sizeF (c :: r)), x ≠ 32 ∧ x ≠ 10 := by
  have hl : ∀ x, letB x = true → x ≠ 32 ∧ x ≠ 10 := fun x h => ⟨by rintro rfl; revert h; decide, by rintro rfl; revert h; decide⟩
  have hd : ∀ x, digB x = true → x ≠ 32 ∧ x ≠ 10 := fun x h => ⟨by rintro rfl; revert h; decide, by rintro rfl; revert h; decide⟩
  have unf : sizeF (c :: r) = if letB c then nLet (c :: r) else if nDig (c :: r) = 0 then 1 else if (c :: r)[nDig (c :: r)]? = some 46 then nDig (c :: r) + 1 + nDig ((c :: r).drop (nDig (c :: r) + 1)) else nDig (c :: r) := rfl
  have tk : ∀ (p : UInt8 → Bool) (s : List UInt8), s.take (s.takeWhile p).length = s.takeWhile p := fun p s => (List.prefix_iff_eq_take.1 (List.takeWhile_prefix p)).symm
  intro x hx
  rw [unf] at hx
  split at hx
  · unfold nLet at hx; rw [tk] at hx; exact hl x (tw_mem hx)
  · split at hx
    · simp at hx; subst hx; exact ⟨h1, h2⟩
    · split at hx
      · next h46 =>
        have hlt : nDig (c :: r) < (c :: r).length := by
          rcases Nat.lt_or_ge (nDig (c :: r)) (c :: r).length with h | h
          · exact h
          · rw [List.getElem?_eq_none h] at h46; cases h46
        have e46 : (c :: r)[nDig (c :: r)] = 46 := by rw [List.getElem?_eq_getElem hlt] at h46; exact Option.some.inj h46
        have e := (tw_split digB (c :: r)).1
        rw [show ((c :: r).takeWhile digB).length = nDig (c :: r) from rfl, List.drop_eq_getElem_cons hlt, e46] at e
        generalize hN : nDig (c :: r) = N at *
        have hal : ((c :: r).takeWhile digB).length = N := hN
        generalize hA : (c :: r).takeWhile digB = A at *
        generalize (c :: r).drop (N + 1) = R at *
        have hA2 : ∀ y ∈ A, digB y = true := fun y hy => by rw [← hA] at hy; exact tw_mem hy
        rw [e] at hx
        have e3 : (A ++ 46 :: R).take (N + 1 + nDig R) = A ++ 46 :: R.takeWhile digB := by
          rw [← hal, show A.length + 1 + nDig R = A.length + (nDig R + 1) by omega, List.take_length_add_append, List.take_succ_cons]
          unfold nDig; rw [tk]
        rw [e3] at hx
        rcases List.mem_append.1 hx with hx | hx
        · exact hd x (hA2 x hx)
        · rcases List.mem_cons.1 hx with rfl | hx
          · exact ⟨by decide, by decide⟩
          · exact hd x (tw_mem hx)
      · unfold nDig at hx; rw [tk] at hx; exact hd x (tw_mem hx)
/-- a source's first token where something else stands behind it -/
theorem size_other {s b : List UInt8} (hs : s ≠ []) (h : likeB (s.drop (sizeF s)) b) : sizeF (s.take (sizeF s) ++ b) = sizeF s ∧ (s.take (sizeF s) ++ b).take (sizeF (s.take (sizeF s) ++ b)) = s.take (sizeF s) ∧ (s.take (sizeF s) ++ b).drop (sizeF (s.take (sizeF s) ++ b)) = b := by
  have e := size_local h hs
  have hle := size_le s hs
  have hl : (s.take (sizeF s)).length = sizeF s := by rw [List.length_take]; omega
  rw [e]
  exact ⟨rfl, by rw [List.take_append_of_le_length (by omega), List.take_of_length_le (by omega)], by rw [List.drop_append_of_le_length (by omega), List.drop_of_length_le (by omega), List.nil_append]⟩
theorem like_wide (m : Nat) (s : List UInt8) : likeB s (wideF m s) := .inl (wide_head m s).symm
/-- more blanks next to blanks and line feeds change nothing -/
theorem toks_wide (m line cnt : Nat) (s : List UInt8) : toksF line cnt (wideF m s) = toksF line cnt s := by
  refine toks_cases (fun line cnt s => toksF line cnt (wideF m s) = toksF line cnt s) ?_ ?_ ?_ ?_ ?_ ?_ s.length line cnt s (Nat.le_refl _)
  · intro line cnt; rfl
  · intro line cnt r ih; rw [wide_cons, if_pos (.inl rfl), toks_blank, toks_blanks, toks_blank, ih]
  · intro line cnt r ih; rw [wide_cons, if_pos (.inr rfl), toks_feed, toks_blanks, toks_feed, ih]
  · intro line cnt r ih; rw [wide_cons, if_neg (by decide), toks_note, toks_note, wide_note, ih]
  · intro line cnt c r h1 h2 h3 hk
    obtain ⟨e1, e2, e3⟩ := size_other (s := c :: r) (b := wideF m ((c :: r).drop (sizeF (c :: r)))) (by simp) (like_wide m _)
    have e : wideF m (c :: r) = (c :: r).take (sizeF (c :: r)) ++ wideF m ((c :: r).drop (sizeF (c :: r))) := by
      conv => lhs; rw [← List.take_append_drop (sizeF (c :: r)) (c :: r)]
      exact wide_app m _ _ (take_bytes h1 h2)
    have e0 : wideF m (c :: r) = c :: wideF m r := by rw [wide_cons, if_neg (by simp [h1, h2])]
    rw [← e] at e2 e3
    rw [e0] at e2 e3 ⊢
    rw [toks_eq line cnt h1 h2 h3, toks_eq line cnt h1 h2 h3, e2]
    rcases hk with hk | hk
    · rw [if_pos hk, if_pos hk]
    · rw [if_pos hk, if_pos hk]
  · intro line cnt c r h1 h2 h3 hk h5 ih
    obtain ⟨e1, e2, e3⟩ := size_other (s := c :: r) (b := wideF m ((c :: r).drop (sizeF (c :: r)))) (by simp) (like_wide m _)
    have e : wideF m (c :: r) = (c :: r).take (sizeF (c :: r)) ++ wideF m ((c :: r).drop (sizeF (c :: r))) := by
      conv => lhs; rw [← List.take_append_drop (sizeF (c :: r)) (c :: r)]
      exact wide_app m _ _ (take_bytes h1 h2)
    have e0 : wideF m (c :: r) = c :: wideF m r := by rw [wide_cons, if_neg (by simp [h1, h2])]
    rw [← e] at e2 e3
    rw [e0] at e2 e3 ⊢
    rw [toks_eq line cnt h1 h2 h3, toks_eq line cnt h1 h2 h3, e2, e3, ih]
end Go.Proofs.YthnlenbfknbmcaaGreatDoor
namespace Go.Proofs.YthnlenbfknbmcaaGreatDoor

def gapF (k : Bool) : List UInt8 := if k then [32, 35, 32, 55, 46, 32, 59] else []
def longF (k : Bool) : Bool → List UInt8 → List UInt8
  | _, [] => []
  | i, c :: r => if c ≠ 32 ∨ ((i || c == 35) && c != 10) = true then c :: longF k ((i || c == 35) && c != 10) r else gapF k ++ 10 :: longF k ((i || c == 35) && c != 10) r
theorem long_cons (k i : Bool) (c : UInt8) (r : List UInt8) : longF k i (c :: r) = if c ≠ 32 ∨ ((i || c == 35) && c != 10) = true then c :: longF k ((i || c == 35) && c != 10) r else gapF k ++ 10 :: longF k ((i || c == 35) && c != 10) r := rfl
theorem long_blank (k : Bool) (r : List UInt8) : longF k false (32 :: r) = gapF k ++ 10 :: longF k false r := by
  rw [long_cons, if_neg (by decide)]; rfl
theorem long_feed (k i : Bool) (r : List UInt8) : longF k i (10 :: r) = 10 :: longF k false r := by
  rw [long_cons, if_pos (.inl (by decide))]; simp
theorem long_note (k : Bool) (r : List UInt8) : longF k false (35 :: r) = 35 :: longF k true r := by
  rw [long_cons, if_pos (.inl (by decide))]; rfl
theorem long_in (k : Bool) {c : UInt8} (r : List UInt8) (h : c ≠ 10) : longF k true (c :: r) = c :: longF k true r := by
  have : ((true || c == 35) && c != 10) = true := by simp [h]
  rw [long_cons, if_pos (.inr this), this]
theorem long_other (k : Bool) {c : UInt8} (r : List UInt8) (h1 : c ≠ 32) (h3 : c ≠ 35) : longF k false (c :: r) = c :: longF k false r := by
  have : ((false || c == 35) && c != 10) = false := by simp [h3]
  rw [long_cons, if_pos (.inl h1), this]
theorem long_skip (k : Bool) : ∀ s : List UInt8, (longF k true s).dropWhile (· != 10) = longF k false (s.dropWhile (· != 10))
  | [] => rfl
  | c :: r => by
    by_cases h : c = 10
    · subst h
      rw [long_feed]
      have e : ∀ z : List UInt8, (10 :: z).dropWhile (· != (10 : UInt8)) = 10 :: z := fun z => by rw [List.dropWhile_cons, if_neg (by decide)]
      rw [e, e, long_feed]
    · rw [long_in k r h, List.dropWhile_cons, if_pos (by simpa using h), List.dropWhile_cons, if_pos (by simpa using h), long_skip k r]
theorem long_app (k : Bool) (b : List UInt8) : ∀ a : List UInt8, (∀ x ∈ a, x ≠ 32 ∧ x ≠ 10 ∧ x ≠ 35) → longF k false (a ++ b) = a ++ longF k false b
  | [], _ => rfl
  | c :: r, h => by
    obtain ⟨h1, h2, h3⟩ := h c (by simp)
    rw [List.cons_append, long_other k _ h1 h3, long_app k b r (fun x hx => h x (by simp [hx]))]; rfl
theorem like_long (k : Bool) (s : List UInt8) : likeB s (longF k false s) := by
  cases s with
  | nil => exact .inl rfl
  | cons c r =>
    by_cases h1 : c = 32
    · subst h1; rw [long_blank]; exact .inr ⟨rfl, by cases k <;> rfl⟩
    · by_cases h3 : c = 35
      · subst h3; rw [long_note]; exact .inl rfl
      · rw [long_other k r h1 h3]; exact .inl rfl

/-- the same but for the lines -/
def sameF (y z : List Tok × Nat × Nat) : Prop := y.1.map (fun x => (x.k, x.t)) = z.1.map (fun x => (x.k, x.t)) ∧ y.2.1 = z.2.1
theorem same_cons {y z : List Tok × Nat × Nat} (k l m : Nat) (t : List UInt8) (h : sameF y z) : sameF (consF ⟨k, l, t⟩ y) (consF ⟨k, m, t⟩ z) := by
  unfold consF
  by_cases hz : z.2.1 = 0
  · rw [if_pos hz, if_pos (h.2.trans hz)]; exact ⟨by simp only [List.map_cons]; rw [h.1], rfl⟩
  · rw [if_neg hz, if_neg (by rw [h.2]; exact hz)]; exact ⟨rfl, h.2⟩
/-- the bytes of the first piece, where it isn't one of the kinds: no number sign behind the first byte -/
theorem take_more {c : UInt8} {r : List UInt8} (h1 : c ≠ 32) (h2 : c ≠ 10) (h3 : c ≠ 35) : ∀ x ∈ (c :: r).take (sizeF (c :: r)), x ≠ 32 ∧ x ≠ 10 ∧ x ≠ 35 := by
  have hl : ∀ x, letB x = true → x ≠ 35 := fun x h => by rintro rfl; revert h; decide
  have hd : ∀ x, digB x = true → x ≠ 35 := fun x h => by rintro rfl; revert h; decide
  have unf : sizeF (c :: r) = if letB c then nLet (c :: r) else if nDig (c :: r) = 0 then 1 else if (c :: r)[nDig (c :: r)]? = some 46 then nDig (c :: r) + 1 + nDig ((c :: r).drop (nDig (c :: r) + 1)) else nDig (c :: r) := rfl
  have tk : ∀ (p : UInt8 → Bool) (s : List UInt8), s.take (s.takeWhile p).length = s.takeWhile p := fun p s => (List.prefix_iff_eq_take.1 (List.takeWhile_prefix p)).symm
  intro x hx
  obtain ⟨a, b⟩ := take_bytes h1 h2 x hx
  refine ⟨a, b, ?_⟩
  rw [unf] at hx
  split at hx
  · unfold nLet at hx; rw [tk] at hx; exact hl x (tw_mem hx)
  · split at hx
    · simp at hx; subst hx; exact h3
    · split at hx
      · next h46 =>
        have hlt : nDig (c :: r) < (c :: r).length := by
          rcases Nat.lt_or_ge (nDig (c :: r)) (c :: r).length with h | h
          · exact h
          · rw [List.getElem?_eq_none h] at h46; cases h46
        have e46 : (c :: r)[nDig (c :: r)] = 46 := by rw [List.getElem?_eq_getElem hlt] at h46; exact Option.some.inj h46
        have e := (tw_split digB (c :: r)).1
        rw [show ((c :: r).takeWhile digB).length = nDig (c :: r) from rfl, List.drop_eq_getElem_cons hlt, e46] at e
        generalize hN : nDig (c :: r) = N at *
        have hal : ((c :: r).takeWhile digB).length = N := hN
        generalize hA : (c :: r).takeWhile digB = A at *
        generalize (c :: r).drop (N + 1) = R at *
        have hA2 : ∀ y ∈ A, digB y = true := fun y hy => by rw [← hA] at hy; exact tw_mem hy
        rw [e] at hx
        have e3 : (A ++ 46 :: R).take (N + 1 + nDig R) = A ++ 46 :: R.takeWhile digB := by
          rw [← hal, show A.length + 1 + nDig R = A.length + (nDig R + 1) by omega, List.take_length_add_append, List.take_succ_cons]
          unfold nDig; rw [tk]
        rw [e3] at hx
        rcases List.mem_append.1 hx with hx | hx
        · exact hd x (hA2 x hx)
        · rcases List.mem_cons.1 hx with rfl | hx
          · decide
          · exact hd x (tw_mem hx)
      · unfold nDig at hx; rw [tk] at hx; exact hd x (tw_mem hx)
theorem toks_gap (k : Bool) (line cnt : Nat) (z : List UInt8) : toksF line cnt (gapF k ++ 10 :: z) = toksF (line + 1) cnt z := by
  cases k with
  | false => exact toks_feed line cnt z
  | true =>
    show toksF line cnt (32 :: 35 :: 32 :: 55 :: 46 :: 32 :: 59 :: 10 :: z) = _
    rw [toks_blank, toks_note]
    have : ((32 : UInt8) :: 55 :: 46 :: 32 :: 59 :: 10 :: z).dropWhile (· != 10) = 10 :: z := by
      simp
    rw [this, toks_feed]
/-- line feeds, or comments with line feeds, in place of blanks: all but the lines is the same -/
theorem toks_long (k : Bool) (line cnt : Nat) (s : List UInt8) : ∀ m, sameF (toksF m cnt (longF k false s)) (toksF line cnt s) := by
  refine toks_cases (fun line cnt s => ∀ m, sameF (toksF m cnt (longF k false s)) (toksF line cnt s)) ?_ ?_ ?_ ?_ ?_ ?_ s.length line cnt s (Nat.le_refl _)
  · intro line cnt m; exact ⟨by rw [longF, toks_nil, toks_nil], by rw [longF, toks_nil, toks_nil]⟩
  · intro line cnt r ih m; rw [long_blank, toks_gap, toks_blank]; exact ih _
  · intro line cnt r ih m; rw [long_feed, toks_feed, toks_feed]; exact ih _
  · intro line cnt r ih m; rw [long_note, toks_note, toks_note, long_skip]; exact ih _
  · intro line cnt c r h1 h2 h3 hk m
    obtain ⟨e1, e2, e3⟩ := size_other (s := c :: r) (b := longF k false ((c :: r).drop (sizeF (c :: r)))) (by simp) (like_long k _)
    have e : longF k false (c :: r) = (c :: r).take (sizeF (c :: r)) ++ longF k false ((c :: r).drop (sizeF (c :: r))) := by
      conv => lhs; rw [← List.take_append_drop (sizeF (c :: r)) (c :: r)]
      exact long_app k _ _ (take_more h1 h2 h3)
    rw [← e, long_other k r h1 h3] at e2
    rw [long_other k r h1 h3, toks_eq m cnt h1 h2 h3, toks_eq line cnt h1 h2 h3, e2]
    rcases hk with hk | hk
    · rw [if_pos hk, if_pos hk]; exact ⟨rfl, rfl⟩
    · rw [if_pos hk, if_pos hk]; split <;> exact ⟨rfl, rfl⟩
  · intro line cnt c r h1 h2 h3 hk h5 ih m
    obtain ⟨e1, e2, e3⟩ := size_other (s := c :: r) (b := longF k false ((c :: r).drop (sizeF (c :: r)))) (by simp) (like_long k _)
    have e : longF k false (c :: r) = (c :: r).take (sizeF (c :: r)) ++ longF k false ((c :: r).drop (sizeF (c :: r))) := by
      conv => lhs; rw [← List.take_append_drop (sizeF (c :: r)) (c :: r)]
      exact long_app k _ _ (take_more h1 h2 h3)
    rw [← e, long_other k r h1 h3] at e2 e3
    rw [long_other k r h1 h3, toks_eq m cnt h1 h2 h3, toks_eq line cnt h1 h2 h3, e2, e3, if_neg hk, if_neg hk, if_neg h5, if_neg h5]
    exact same_cons _ _ _ _ (ih m)
end Go.Proofs.YthnlenbfknbmcaaGreatDoor
namespace Go.Proofs.YthnlenbfknbmcaaGreatDoor

theorem drop_len (s : List UInt8) : (s.dropWhile (· != 10)).length ≤ s.length := (List.dropWhile_suffix _).length_le
/-- the text of what was read is at most twice as long -/
theorem join_len (line cnt : Nat) (s : List UInt8) : ∀ (b : Bool) (l0 : Nat), l0 ≤ line → (joinS b l0 (toksF line cnt s).1).length ≤ 2 * s.length + (line - l0) := by
  refine toks_cases (fun line cnt s => ∀ (b : Bool) (l0 : Nat), l0 ≤ line → (joinS b l0 (toksF line cnt s).1).length ≤ 2 * s.length + (line - l0)) ?_ ?_ ?_ ?_ ?_ ?_ s.length line cnt s (Nat.le_refl _)
  · intro line cnt b l0 h; rw [toks_nil]; exact Nat.zero_le _
  · intro line cnt r ih b l0 h
    rw [toks_blank]; have := ih b l0 h; simp only [List.length_cons]; omega
  · intro line cnt r ih b l0 h
    rw [toks_feed]; have := ih b l0 (by omega); simp only [List.length_cons]; omega
  · intro line cnt r ih b l0 h
    rw [toks_note]; have := ih b l0 h; have := drop_len r; simp only [List.length_cons]; omega
  · intro line cnt c r h1 h2 h3 hk b l0 h
    obtain ⟨e, he, hq⟩ := toks_err line cnt h1 h2 h3 hk
    rw [hq]; exact Nat.zero_le _
  · intro line cnt c r h1 h2 h3 hk h5 ih b l0 h
    rw [toks_step line cnt h1 h2 h3 hk h5]
    have hp := size_pos (s := c :: r) (by simp)
    have hle := size_le (c :: r) (by simp)
    have hi := ih false line (Nat.le_refl _)
    rw [List.length_drop] at hi
    generalize toksF line (cnt + 1) ((c :: r).drop (sizeF (c :: r))) = y at *
    unfold consF
    by_cases hy : y.2.1 = 0
    · rw [if_pos hy]
      simp only [joinS, List.length_append, List.length_take]
      have hg : (if b = false ∧ line = l0 then [32] else List.replicate (line - l0) (10 : UInt8)).length ≤ 1 + (line - l0) := by
        split
        · simp
        · rw [List.length_replicate]; omega
      omega
    · rw [if_neg hy]; exact Nat.zero_le _
/-- there are not more tokens than bytes -/
theorem toks_count (line cnt : Nat) (s : List UInt8) : (toksF line cnt s).1.length ≤ s.length := by
  refine toks_cases (fun line cnt s => (toksF line cnt s).1.length ≤ s.length) ?_ ?_ ?_ ?_ ?_ ?_ s.length line cnt s (Nat.le_refl _)
  · intro line cnt; rw [toks_nil]; exact Nat.zero_le _
  · intro line cnt r ih; rw [toks_blank]; simp only [List.length_cons]; omega
  · intro line cnt r ih; rw [toks_feed]; simp only [List.length_cons]; omega
  · intro line cnt r ih; rw [toks_note]; have := drop_len r; simp only [List.length_cons]; omega
  · intro line cnt c r h1 h2 h3 hk
    obtain ⟨e, he, hq⟩ := toks_err line cnt h1 h2 h3 hk
    rw [hq]; exact Nat.zero_le _
  · intro line cnt c r h1 h2 h3 hk h5 ih
    rw [toks_step line cnt h1 h2 h3 hk h5]
    have hp := size_pos (s := c :: r) (by simp)
    have hle := size_le (c :: r) (by simp)
    rw [List.length_drop] at ih
    generalize toksF line (cnt + 1) ((c :: r).drop (sizeF (c :: r))) = y at *
    unfold consF
    by_cases hy : y.2.1 = 0
    · rw [if_pos hy]; simp only [List.length_cons] at *; omega
    · rw [if_neg hy]; exact Nat.zero_le _
end Go.Proofs.YthnlenbfknbmcaaGreatDoor
