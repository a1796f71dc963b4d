/-
  The parser's block and its small methods.
-/
import Derived.Test.YthnlenbfknbmcaaGreatDoorQg
import Derived.Test.YthnlenbfknbmcaaGreatDoorQa
import Derived.Test.YthnlenbfknbmcaaGreatDoorProg
import Derived.Laws.StructEq
import Derived.DeepKeys
import Derived.Maps.Own
import Derived.KernelRfl
import Derived.Shelf.Strings.Replace
import Derived.Lib.Replace
import Derived.Test.YthnlenbfknbmcaaGreatDoorQc
import Derived.Test.YthnlenbfknbmcaaGreatDoorQf
namespace Go.Proofs.YthnlenbfknbmcaaGreatDoor
open Go.RowKit Go.Shelf
set_option maxRecDepth 100000

/-- all is as it was, but for what lies in block q -/
structure Kept (q : Option Nat) (w w' : World) : Prop where
  os : w'.os = w.os
  tape : w'.tape = w.tape
  output : w'.output = w.output
  size : w.heap.size ≤ w'.heap.size
  block : ∀ k, k < w.heap.size → q ≠ some k → w'.heap[k]? = w.heap[k]?
theorem Kept.refl (q : Option Nat) (w : World) : Kept q w w := ⟨rfl, rfl, rfl, Nat.le_refl _, fun _ _ _ => rfl⟩
theorem Kept.of {q : Option Nat} {w w' : World} (h : Below w.heap.size w w') : Kept q w w' := ⟨h.os, h.tape, h.output, h.size, fun k hk _ => h.block k hk⟩
theorem Kept.trans {q : Option Nat} {a b c : World} (h : Kept q a b) (k : Kept q b c) : Kept q a c :=
  ⟨k.os.trans h.os, k.tape.trans h.tape, k.output.trans h.output, Nat.le_trans h.size k.size, fun i hi hq => (k.block i (Nat.lt_of_lt_of_le hi h.size) hq).trans (h.block i hi hq)⟩
theorem Kept.drew {q : Option Nat} {a w : World} (h : Kept q a w) : Kept q a w.drew := ⟨h.os, h.tape, h.output, h.size, h.block⟩
theorem Kept.alloc {q : Option Nat} {a w : World} (h : Kept q a w) (o : Obj) : Kept q a (w.alloc o) := h.trans (.of (Below.alloc (Below.refl _ _) (Nat.le_refl _) o))
theorem Kept.set {p : Nat} {a w : World} (h : Kept (some p) a w) {b : Addr} (hb : b.block = p ∨ a.heap.size ≤ b.block) (u : Value) : Kept (some p) a (w.setCell b u) := by
  refine ⟨h.os, h.tape, h.output, by have := h.size; simpa [World.setCell] using this, fun k hk hq => (Below.heap_setCell _ _ _ _ ?_).trans (h.block k hk hq)⟩
  rcases hb with hb | hb
  · rintro rfl; exact hq (by rw [hb])
  · omega
theorem Kept.later {q : Option Nat} {a w w' : World} (h : Kept q a w) (hb : Below w.heap.size w w') : Kept q a w' := h.trans (.of hb)
theorem Kept.below {p B : Nat} {w w' : World} (h : Kept (some p) w w') (hp : B ≤ p) (hw : B ≤ w.heap.size) : Below B w w' :=
  ⟨h.os, h.tape, h.output, h.size, fun k hk => h.block k (by omega) (by simp; omega)⟩
theorem Kept.out {w w' : World} (h : Kept none w w') : Below w.heap.size w w' := ⟨h.os, h.tape, h.output, h.size, fun k hk => h.block k hk (by simp)⟩
theorem Kept.cell {q : Option Nat} {w w' : World} (h : Kept q w w') {a : Addr} (ha : a.block < w.heap.size) (hq : q ≠ some a.block) : w'.cell? a = w.cell? a := World.cell?_of_block (w := w) (h.block a.block ha hq)
theorem Kept.fro {q : Option Nat} {w w' : World} (h : Kept q w w') {a : Addr} (ha : a.block < w.heap.size) (hq : q ≠ some a.block) : w'.frozen? a = w.frozen? a := World.frozen?_of_block (w := w) (h.block a.block ha hq)
theorem Kept.own {q : Option Nat} {w w' : World} (h : Kept q w w') {B : Nat} {xs : List Value} (ho : Own w B xs) (hq : q ≠ some B) : Own w' B xs :=
  ⟨fun i v hi => (h.cell (a := ⟨B, i, none⟩) ho.lt hq).trans (ho.cell i v hi), fun i v hi => (h.fro (a := ⟨B, i, none⟩) ho.lt hq).trans (ho.fro i v hi), Nat.lt_of_lt_of_le ho.lt h.size⟩

theorem tblk_add (a : Addr) (m : Nat) : (a.add m).block = a.block := by unfold Addr.add; split <;> rfl

/-! ### Trees -/
mutual
/-- v reads e, and lies in no cell of a block that Q bars -/
def Tree (Q : Nat → Prop) (w : World) : Xp → Value → Prop
  | .mk o n kids, v => ∃ ad cap, v = .agg #[.int .i64 o, .int .i64 n, .slice ad kids.length cap] ∧ kids.length ≤ min cap 9223372036854775807 ∧ Trees Q w kids ad 0
/-- the places from i on read so -/
def Trees (Q : Nat → Prop) (w : World) : List Xp → Option Addr → Nat → Prop
  | [], _, _ => True
  | e :: r, ad, i => (∃ a v0 v1 v2, ad = some a ∧ a.block < w.heap.size ∧ ¬ Q a.block ∧ w.cell? (a.add (i * 3)) = some v0 ∧ w.cell? (a.add (i * 3 + 1)) = some v1 ∧ w.cell? (a.add (i * 3 + 2)) = some v2 ∧ Tree Q w e (.agg #[v0, v1, v2])) ∧ Trees Q w r ad (i + 1)
end
theorem tree_mk {Q : Nat → Prop} {w : World} {o n : Int} {kids : List Xp} {v : Value} : Tree Q w (.mk o n kids) v ↔ ∃ ad cap, v = .agg #[.int .i64 o, .int .i64 n, .slice ad kids.length cap] ∧ kids.length ≤ min cap 9223372036854775807 ∧ Trees Q w kids ad 0 := by simp only [Tree]
theorem trees_cons {Q : Nat → Prop} {w : World} {e : Xp} {r : List Xp} {ad : Option Addr} {i : Nat} : Trees Q w (e :: r) ad i ↔ (∃ a v0 v1 v2, ad = some a ∧ a.block < w.heap.size ∧ ¬ Q a.block ∧ w.cell? (a.add (i * 3)) = some v0 ∧ w.cell? (a.add (i * 3 + 1)) = some v1 ∧ w.cell? (a.add (i * 3 + 2)) = some v2 ∧ Tree Q w e (.agg #[v0, v1, v2])) ∧ Trees Q w r ad (i + 1) := by simp only [Trees]
mutual
/-- in another world, with other bars -/
theorem Tree.go {Q R : Nat → Prop} {w w' : World} (hz : w.heap.size ≤ w'.heap.size) (h : ∀ k, k < w.heap.size → ¬ Q k → w'.heap[k]? = w.heap[k]? ∧ ¬ R k) : ∀ {e : Xp} {v : Value}, Tree Q w e v → Tree R w' e v
  | .mk o n kids, v, ht => by
    obtain ⟨ad, cap, hv, hs, hk⟩ := tree_mk.1 ht
    exact tree_mk.2 ⟨ad, cap, hv, hs, Trees.go hz h hk⟩
theorem Trees.go {Q R : Nat → Prop} {w w' : World} (hz : w.heap.size ≤ w'.heap.size) (h : ∀ k, k < w.heap.size → ¬ Q k → w'.heap[k]? = w.heap[k]? ∧ ¬ R k) : ∀ {l : List Xp} {ad : Option Addr} {i : Nat}, Trees Q w l ad i → Trees R w' l ad i
  | [], _, _, _ => by simp only [Trees]
  | e :: r, ad, i, ht => by
    obtain ⟨⟨a, v0, v1, v2, h0, h1, h2, h3, h4, h5, h6⟩, hr⟩ := trees_cons.1 ht
    have hc : ∀ m, w'.cell? (a.add m) = w.cell? (a.add m) := fun m => World.cell?_of_block (w := w) (by rw [tblk_add]; exact (h a.block h1 h2).1)
    exact trees_cons.2 ⟨⟨a, v0, v1, v2, h0, Nat.lt_of_lt_of_le h1 hz, (h a.block h1 h2).2, (hc _).trans h3, (hc _).trans h4, (hc _).trans h5, Tree.go hz h h6⟩, Trees.go hz h hr⟩
end
theorem Tree.below {Q : Nat → Prop} {w w' : World} {e : Xp} {v : Value} (ht : Tree Q w e v) (h : Below w.heap.size w w') : Tree Q w' e v := Tree.go h.size (fun k hk hq => ⟨h.block k hk, hq⟩) ht
theorem Tree.alloc {Q : Nat → Prop} {w : World} {e : Xp} {v : Value} (ht : Tree Q w e v) (o : Obj) : Tree Q (w.alloc o) e v := ht.below (Below.alloc (Below.refl _ _) (Nat.le_refl _) o)
theorem Tree.keep {Q : Nat → Prop} {p : Nat} {w w' : World} {e : Xp} {v : Value} (ht : Tree Q w e v) (h : Kept (some p) w w') (hq : Q p) : Tree Q w' e v := Tree.go h.size (fun k hk hk2 => ⟨h.block k hk (by rintro e; cases e; exact hk2 hq), hk2⟩) ht
theorem Tree.set {Q : Nat → Prop} {w : World} {e : Xp} {v : Value} (ht : Tree Q w e v) {b : Addr} (u : Value) (hq : Q b.block) : Tree Q (w.setCell b u) e v :=
  Tree.go (by simp [World.setCell]) (fun k _ hk2 => ⟨Below.heap_setCell _ _ _ _ (by rintro rfl; exact hk2 hq), hk2⟩) ht
theorem Tree.bars {Q R : Nat → Prop} {w : World} {e : Xp} {v : Value} (ht : Tree Q w e v) (h : ∀ k, k < w.heap.size → R k → Q k) : Tree R w e v := Tree.go (Nat.le_refl _) (fun k hk hk2 => ⟨rfl, fun hr => hk2 (h k hk hr)⟩) ht
theorem Tree.drew {Q : Nat → Prop} {w : World} {e : Xp} {v : Value} (ht : Tree Q w e v) : Tree Q w.drew e v := ht.below (Below.refl _ _).drew
/-- the blocks that were there before -/
abbrev Lo (n : Nat) : Nat → Prop := fun k => k < n
theorem Tree.lo {a b : Nat} {w : World} {e : Xp} {v : Value} (ht : Tree (Lo a) w e v) (h : b ≤ a) : Tree (Lo b) w e v := ht.bars fun _ _ hk => Nat.lt_of_lt_of_le hk h
theorem Tree.free {Q : Nat → Prop} {w : World} {e : Xp} {v : Value} (ht : Tree Q w e v) : Tree (fun _ => False) w e v := ht.bars fun _ _ h => h.elim
def Xp.o : Xp → Int | .mk o _ _ => o
def Xp.n : Xp → Int | .mk _ n _ => n
def Xp.ks : Xp → List Xp | .mk _ _ l => l
theorem Tree.shape {Q : Nat → Prop} {w : World} {e : Xp} {v : Value} (h : Tree Q w e v) : ∃ ad cap, v = .agg #[.int .i64 e.o, .int .i64 e.n, .slice ad e.ks.length cap] ∧ e.ks.length ≤ min cap 9223372036854775807 ∧ Trees Q w e.ks ad 0 := by
  cases e; exact tree_mk.1 h
theorem tree_leaf (Q : Nat → Prop) (w : World) (o n : Int) (ad : Option Addr) (cap : Nat) : Tree Q w (leafE o n) (.agg #[.int .i64 o, .int .i64 n, .slice ad 0 cap]) := tree_mk.2 ⟨ad, cap, rfl, Nat.zero_le _, by simp only [Trees]⟩
/-- the kid at a place -/
theorem Trees.at {Q : Nat → Prop} {w : World} : ∀ {l : List Xp} {ad : Option Addr} {i : Nat}, Trees Q w l ad i → ∀ (k : Nat) (hk : k < l.length), ∃ a v0 v1 v2, ad = some a ∧ a.block < w.heap.size ∧ ¬ Q a.block ∧ w.cell? (a.add ((i + k) * 3)) = some v0 ∧ w.cell? (a.add ((i + k) * 3 + 1)) = some v1 ∧
    w.cell? (a.add ((i + k) * 3 + 2)) = some v2 ∧ Tree Q w l[k] (.agg #[v0, v1, v2])
  | e :: r, ad, i, h, 0, _ => (trees_cons.1 h).1
  | e :: r, ad, i, h, k + 1, hk => by
    have := Trees.at (trees_cons.1 h).2 k (by simpa using hk)
    rw [show i + 1 + k = i + (k + 1) by omega] at this
    exact this
theorem trees_of {Q : Nat → Prop} {w : World} {a : Addr} (h1 : a.block < w.heap.size) (h2 : ¬ Q a.block) : ∀ {l : List Xp} {i : Nat}, (∀ (k : Nat) (hk : k < l.length), ∃ v0 v1 v2, w.cell? (a.add ((i + k) * 3)) = some v0 ∧ w.cell? (a.add ((i + k) * 3 + 1)) = some v1 ∧
    w.cell? (a.add ((i + k) * 3 + 2)) = some v2 ∧ Tree Q w l[k] (.agg #[v0, v1, v2])) → Trees Q w l (some a) i
  | [], _, _ => by simp only [Trees]
  | e :: r, i, h => by
    refine trees_cons.2 ⟨?_, trees_of h1 h2 fun k hk => ?_⟩
    · obtain ⟨v0, v1, v2, h3, h4, h5, h6⟩ := h 0 (by simp)
      exact ⟨a, v0, v1, v2, rfl, h1, h2, h3, h4, h5, h6⟩
    · have := h (k + 1) (by simpa using hk)
      rw [show i + 1 + k = i + (k + 1) by omega]
      exact this
/-- a node over a new block of the call's own -/
theorem tree_node {Q : Nat → Prop} {w : World} {B : Nat} {o : Int} {l : List Xp} {vs : List (Value × Value × Value)} (hq : ¬ Q B) (h : Own w B (vs.flatMap fun x => [x.1, x.2.1, x.2.2])) (hl : vs.length = l.length) (hs : l.length ≤ 9223372036854775807)
    (ht : ∀ (k : Nat) (h1 : k < l.length) (h2 : k < vs.length), Tree Q w l[k] (.agg #[vs[k].1, vs[k].2.1, vs[k].2.2])) (cap : Nat) (hc : l.length ≤ cap) : Tree Q w (nodeE o l) (.agg #[.int .i64 o, .int .i64 0, .slice (some ⟨B, 0, none⟩) l.length cap]) := by
  have ha : ∀ m, (⟨B, 0, none⟩ : Addr).add m = ⟨B, m, none⟩ := fun m => by simp [Addr.add]; exact fun e => e.symm
  have flat : ∀ (vs : List (Value × Value × Value)) (k : Nat) (hk : k < vs.length), (vs.flatMap fun x => [x.1, x.2.1, x.2.2])[k * 3]? = some vs[k].1 ∧ (vs.flatMap fun x => [x.1, x.2.1, x.2.2])[k * 3 + 1]? = some vs[k].2.1 ∧ (vs.flatMap fun x => [x.1, x.2.1, x.2.2])[k * 3 + 2]? = some vs[k].2.2 := by
    intro vs
    induction vs with
    | nil => intro k hk; simp at hk
    | cons x d ih =>
      intro k hk
      cases k with
      | zero => simp
      | succ k =>
        obtain ⟨g0, g1, g2⟩ := ih k (by simpa using hk)
        have key : ∀ j, (List.flatMap (fun x : Value × Value × Value => [x.1, x.2.1, x.2.2]) (x :: d))[(k + 1) * 3 + j]? = (List.flatMap (fun x : Value × Value × Value => [x.1, x.2.1, x.2.2]) d)[k * 3 + j]? := fun j => by
          rw [List.flatMap_cons, List.getElem?_append_right (by simp; omega)]
          congr 1
          simp; omega
        exact ⟨(key 0).trans g0, (key 1).trans g1, (key 2).trans g2⟩
  refine tree_mk.2 ⟨_, cap, rfl, by omega, trees_of h.lt hq fun k hk => ?_⟩
  obtain ⟨g0, g1, g2⟩ := flat vs k (by omega)
  simp only [Nat.zero_add, ha]
  exact ⟨_, _, _, h.cell _ _ g0, h.cell _ _ g1, h.cell _ _ g2, ht k hk (by omega)⟩
/-- a node of two -/
theorem tree_two {Q : Nat → Prop} {w : World} {B : Nat} {o : Int} {x y : Xp} {a0 a1 a2 b0 b1 b2 : Value} (hq : ¬ Q B) (h : Own w B [a0, a1, a2, b0, b1, b2]) (hx : Tree Q w x (.agg #[a0, a1, a2])) (hy : Tree Q w y (.agg #[b0, b1, b2])) (cap : Nat) (hc : 2 ≤ cap := by decide) :
    Tree Q w (nodeE o [x, y]) (.agg #[.int .i64 o, .int .i64 0, .slice (some ⟨B, 0, none⟩) 2 cap]) :=
  tree_node (vs := [(a0, a1, a2), (b0, b1, b2)]) hq h rfl (by simp) (fun k h1 h2 => by
    match k, h1 with
    | 0, _ => exact hx
    | 1, _ => exact hy) cap hc
theorem tree_one {Q : Nat → Prop} {w : World} {B : Nat} {o : Int} {x : Xp} {a0 a1 a2 : Value} (hq : ¬ Q B) (h : Own w B [a0, a1, a2]) (hx : Tree Q w x (.agg #[a0, a1, a2])) (cap : Nat) (hc : 1 ≤ cap := by decide) :
    Tree Q w (nodeE o [x]) (.agg #[.int .i64 o, .int .i64 0, .slice (some ⟨B, 0, none⟩) 1 cap]) :=
  tree_node (vs := [(a0, a1, a2)]) hq h rfl (by simp) (fun k h1 h2 => by
    match k, h1 with
    | 0, _ => exact hx) cap hc
theorem tree_three {Q : Nat → Prop} {w : World} {B : Nat} {o : Int} {x y z : Xp} {a0 a1 a2 b0 b1 b2 c0 c1 c2 : Value} (hq : ¬ Q B) (h : Own w B [a0, a1, a2, b0, b1, b2, c0, c1, c2]) (hx : Tree Q w x (.agg #[a0, a1, a2])) (hy : Tree Q w y (.agg #[b0, b1, b2])) (hz : Tree Q w z (.agg #[c0, c1, c2])) (cap : Nat) (hc : 3 ≤ cap := by decide) :
    Tree Q w (nodeE o [x, y, z]) (.agg #[.int .i64 o, .int .i64 0, .slice (some ⟨B, 0, none⟩) 3 cap]) :=
  tree_node (vs := [(a0, a1, a2), (b0, b1, b2), (c0, c1, c2)]) hq h rfl (by simp) (fun k h1 h2 => by
    match k, h1 with
    | 0, _ => exact hx
    | 1, _ => exact hy
    | 2, _ => exact hz) cap hc
theorem Xp.ind {P : Xp → Prop} (h : ∀ o n kids, (∀ k ∈ kids, P k) → P (.mk o n kids)) : ∀ e, P e
  | .mk o n kids => h o n kids (fun k _ => Xp.ind h k)
termination_by e => SizeOf.sizeOf e
decreasing_by
  have := List.sizeOf_lt_of_mem ‹_ ∈ _›
  simp
  omega
/-- the cells of a kid, as a load reads them -/
theorem Trees.reads {Q : Nat → Prop} {w : World} {l : List Xp} {ad : Option Addr} (h : Trees Q w l ad 0) (k : Nat) (hk : k < l.length) : ∃ a ad2 cap2, ad = some a ∧ w.cell? (a.add (k * 3)) = some (.int .i64 (l[k]).o) ∧ w.cell? { block := (a.add (k * 3)).block, off := (a.add (k * 3)).off + 1 } = some (.int .i64 (l[k]).n) ∧
    w.cell? { block := (a.add (k * 3)).block, off := (a.add (k * 3)).off + 2 } = some (.slice ad2 (l[k]).ks.length cap2) ∧ Tree Q w l[k] (.agg #[.int .i64 (l[k]).o, .int .i64 (l[k]).n, .slice ad2 (l[k]).ks.length cap2]) ∧ (a.add (k * 3)).block < w.heap.size := by
  obtain ⟨a, v0, v1, v2, h0, h1, _, h3, h4, h5, ht⟩ := h.at k hk
  obtain ⟨ad2, cap, hv, _⟩ := ht.shape
  have e0 : v0 = .int .i64 (l[k]).o := by simp at hv; exact hv.1
  have e1 : v1 = .int .i64 (l[k]).n := by simp at hv; exact hv.2.1
  have e2 : v2 = .slice ad2 (l[k]).ks.length cap := by simp at hv; exact hv.2.2
  subst e0 e1 e2
  rw [Nat.zero_add] at h3 h4 h5
  have s1 : ∀ m, a.add (m + 1) = { block := (a.add m).block, off := (a.add m).off + 1 } := fun m => by
    unfold Addr.add; split <;> split <;> simp_all <;> omega
  have s2 : ∀ m, a.add (m + 2) = { block := (a.add m).block, off := (a.add m).off + 2 } := fun m => by
    unfold Addr.add; split <;> split <;> simp_all <;> omega
  exact ⟨a, ad2, cap, h0, h3, by rw [← s1]; exact h4, by rw [← s2]; exact h5, ht, by rw [tblk_add]; exact h1⟩
theorem Own.setAt {w : World} {B i : Nat} {xs : List Value} (h : Own w B xs) (v : Value) (hi : i < xs.length) : Own (w.setCell ⟨B, i, none⟩ v) B (xs.set i v) := by
  refine ⟨fun j x hj => ?_, fun j x hj => ?_, by simpa using h.lt⟩
  · by_cases e : i = j
    · subst e
      rw [List.getElem?_set_self hi] at hj
      cases hj
      exact World.cell?_setCell_same _ _ _ (h.cell i xs[i] (List.getElem?_eq_getElem hi))
    · rw [List.getElem?_set_ne e] at hj
      rw [World.cell?_setCell_other _ _ _ _ (by simp)]
      exact h.cell j x hj
  · have hj' : j < xs.length := by
      have := (List.getElem?_eq_some_iff.1 hj).1
      simpa using this
    rw [World.frozen?_setCell]
    exact h.fro j xs[j] (List.getElem?_eq_getElem hj')
theorem xadd_zero0 (B i : Nat) : (⟨B, 0, none⟩ : Addr).add i = ⟨B, i, none⟩ := by simp [Addr.add]; exact fun e => e.symm
theorem results_cell_at {P : Program} {fn : Func} {p : Tmp} {ty : TypeId} (h : fn.results = #[.cell p ty]) (tmps : Array Value) (w : World) (B : Nat) (vs : List Value) {d : TypeDesc}
    (hp : tmps.getD p undef = .pointer (some ⟨B, 0, none⟩)) (hc : ∀ j v, vs[j]? = some v → w.cell? ⟨B, j, none⟩ = some v)
    (hu : P.underlying ty = some d) (hd : (match d with | .struct _ | .array _ _ => true | _ => false) = true) (hi : (P.info? ty).map (·.size) = some vs.length) :
    (results fn tmps).run P w = .ok (.agg vs.toArray) w := by
  have hp' : tmps[p]?.getD undef = .pointer (some ⟨B, 0, none⟩) := by simpa using hp
  have hl : (loadCells ⟨B, 0, none⟩ vs.length).run P w = .ok vs.toArray w :=
    run_loadCells_list (P := P) w ⟨B, 0, none⟩ vs (fun j v hv => by rw [xadd_zero0]; exact hc j v hv)
  have hv : (loadVar ty ⟨B, 0, none⟩).run P w = .ok (.agg vs.toArray) w := by
    cases hq : P.info? ty with
    | none => simp [hq] at hi
    | some i =>
      have hs : i.size = vs.length := by simpa [hq] using hi
      have hagg : (isAgg ty).run P w = .ok true w := by
        unfold isAgg
        rw [Sem.run_bind, run_underlying hu w]
        cases d <;> simp_all
      simp [loadVar, Sem.run_bind, hagg, sizeOf, typeInfo, hq, hs, hl]
  simp [results, h, hp', asAddr, hv]

theorem ret_cells {P : Program} {fn : Func} {p : Tmp} {ty : TypeId} {d : TypeDesc} {vs : List Value} (h : fn.results = #[.cell p ty]) (hu : P.underlying ty = some d) (hd : (match d with | .struct _ | .array _ _ => true | _ => false) = true) (hi : (P.info? ty).map (·.size) = some vs.length)
    {B : Nat} {a : Act} {w : World} (ho : Own w B vs) (hp : a.tmps.getD p undef = .pointer (some ⟨B, 0, none⟩)) (hdef : a.defers = []) {R : Ending → World → Prop} (hR : R (.returned (.agg vs.toArray)) w) : bodyPost P fn R Exit.ret a w :=
  bodyPost_ret (results_cell_at h _ _ B vs hp ho.cell hu hd hi) hdef hR
end Go.Proofs.YthnlenbfknbmcaaGreatDoor
namespace Go.Proofs.YthnlenbfknbmcaaGreatDoor
open Go.RowKit Go.Shelf
set_option maxRecDepth 100000

theorem loadVar_at {P : Program} {ty : TypeId} {d : TypeDesc} {vs : List Value} (hu : P.underlying ty = some d) (hd : (match d with | .struct _ | .array _ _ => true | _ => false) = true) (hi : (P.info? ty).map (·.size) = some vs.length)
    {B : Nat} {w : World} (ho : Own w B vs) : (loadVar ty ⟨B, 0, none⟩).run P w = .ok (.agg vs.toArray) w := by
  have hl : (loadCells ⟨B, 0, none⟩ vs.length).run P w = .ok vs.toArray w := run_loadCells_list (P := P) w ⟨B, 0, none⟩ vs (fun j v hv => by rw [xadd_zero0]; exact ho.cell j v hv)
  cases hq : P.info? ty with
  | none => simp [hq] at hi
  | some i =>
    have hs : i.size = vs.length := by simpa [hq] using hi
    have hagg : (isAgg ty).run P w = .ok true w := by
      unfold isAgg
      rw [Sem.run_bind, run_underlying hu w]
      cases d <;> simp_all
    simp [loadVar, Sem.run_bind, hagg, sizeOf, typeInfo, hq, hs, hl]
theorem results_cc {P : Program} {fn : Func} {p p2 : Tmp} {ty ty2 : TypeId} {B B2 : Nat} {a b : Value} {w : World} {tmps : Array Value} (h : fn.results = #[.cell p ty, .cell p2 ty2]) (hp : tmps.getD p undef = .pointer (some ⟨B, 0, none⟩)) (hp2 : tmps.getD p2 undef = .pointer (some ⟨B2, 0, none⟩))
    (h1 : (loadVar ty ⟨B, 0, none⟩).run P w = .ok a w) (h2 : (loadVar ty2 ⟨B2, 0, none⟩).run P w = .ok b w) : (results fn tmps).run P w = .ok (.tuple #[a, b]) w := by
  have hp' : tmps[p]?.getD undef = .pointer (some ⟨B, 0, none⟩) := by simpa using hp
  have hp2' : tmps[p2]?.getD undef = .pointer (some ⟨B2, 0, none⟩) := by simpa using hp2
  simp [results, h, hp', hp2', asAddr, h1, h2]
theorem results_ct {P : Program} {fn : Func} {p t : Tmp} {ty : TypeId} {B : Nat} {a : Value} {w : World} {tmps : Array Value} (h : fn.results = #[.cell p ty, .tmp t]) (hp : tmps.getD p undef = .pointer (some ⟨B, 0, none⟩))
    (h1 : (loadVar ty ⟨B, 0, none⟩).run P w = .ok a w) : (results fn tmps).run P w = .ok (.tuple #[a, tmps.getD t undef]) w := by
  have hp' : tmps[p]?.getD undef = .pointer (some ⟨B, 0, none⟩) := by simpa using hp
  simp [results, h, hp', asAddr, h1]
theorem results_tc {P : Program} {fn : Func} {p t : Tmp} {ty : TypeId} {B : Nat} {a : Value} {w : World} {tmps : Array Value} (h : fn.results = #[.tmp t, .cell p ty]) (hp : tmps.getD p undef = .pointer (some ⟨B, 0, none⟩))
    (h1 : (loadVar ty ⟨B, 0, none⟩).run P w = .ok a w) : (results fn tmps).run P w = .ok (.tuple #[tmps.getD t undef, a]) w := by
  have hp' : tmps[p]?.getD undef = .pointer (some ⟨B, 0, none⟩) := by simpa using hp
  simp [results, h, hp', asAddr, h1]
end Go.Proofs.YthnlenbfknbmcaaGreatDoor
namespace Go.Proofs.YthnlenbfknbmcaaGreatDoor
open Go.RowKit
set_option maxRecDepth 100000

structure Oe where
  l : Int
  t : List UInt8
  o : Int
def keyO (a : Int) (t : List UInt8) : Value := .agg #[.int .i64 a, .string ⟨t.toArray⟩]
def entO (i : Nat) (x : Oe) : MapEntry := { key := keyO x.l x.t, val := .int .i64 x.o, born := i }
def entsO : Nat → List Oe → List MapEntry
  | _, [] => []
  | i, x :: r => entO i x :: entsO (i + 1) r
theorem entsO_app : ∀ (i : Nat) (a b : List Oe), entsO i (a ++ b) = entsO i a ++ entsO (i + a.length) b
  | _, [], _ => rfl
  | i, x :: a, b => by simp only [List.cons_append, entsO, entsO_app (i + 1) a b, List.length_cons]; rw [show i + 1 + a.length = i + (a.length + 1) by omega]
def hitO (a : Int) (t : List UInt8) (x : Oe) : Bool := a == x.l && t == x.t
def findO (l : List Oe) (a : Int) (t : List UInt8) : Option Int := (l.find? (hitO a t)).map Oe.o

theorem opr_held : Tryz.prog.stoodInHeld 112 = false := by kernel_rfl
theorem opr_under : Tryz.prog.underlying 112 = some (.struct (Tryz.prog.fieldsOf 112)) := by kernel_rfl
theorem run_equal_opr (a b : Int) (s t : List UInt8) (w : World) : (Op.equal 112 (keyO a s) (keyO b t)).run Tryz.prog w = .ok (a == b && s == t) w := by
  by_cases h1 : a = b <;> by_cases h2 : s = t <;> simp [keyO, Op.equal, Op.maxDepth, run_equalIn_struct _ _ _ _ _ opr_under opr_held, Op.eqFields, go_sem, h1, h2]
theorem run_check_opr' (em : Bool) (n : Nat) (a : Int) (s : List UInt8) (w : World) : (Instr.checkKey em (n + 1 + 1) 112 (keyO a s)).run Tryz.prog w = .ok () w := by
  have h : ∀ z : Int, (Instr.checkKey em (n + 1) 3 (.int .i64 z)).run Tryz.prog w = .ok () w := fun z => by simp [Instr.checkKey, run_underlying Tryz.underlying3]
  have h2 : ∀ z : ByteArray, (Instr.checkKey em (n + 1) 9 (.string z)).run Tryz.prog w = .ok () w := fun z => by simp [Instr.checkKey, run_underlying Tryz.underlying9]
  unfold keyO
  rw [Instr.checkKey]
  simp [Sem.run_bind, run_underlying opr_under, Result.andThen_ok, go_sem, h, h2]
theorem run_check_opr (em : Bool) (a : Int) (s : List UInt8) (w : World) : (Instr.checkKey em 10000 112 (keyO a s)).run Tryz.prog w = .ok () w := run_check_opr' em 9998 a s w
theorem run_askO (a : Int) (t : List UInt8) (w : World) : ∀ (l : List Oe) (j i : Nat), ∃ r, (Instr.findAsking 112 (keyO a t) (entsO j l) i).run Tryz.prog w = .ok r w ∧
    (match findO l a t with | none => r = none | some x => ∃ k, r = some (k, .int .i64 x))
  | [], _, _ => ⟨none, by simp [entsO, Instr.findAsking, go_sem], rfl⟩
  | x :: l, j, i => by
    have he := run_equal_opr a x.l t x.t w
    cases hk : hitO a t x with
    | true =>
      have hk2 : (a == x.l && t == x.t) = true := hk
      refine ⟨some (i, .int .i64 x.o), ?_, ?_⟩
      · rw [hk2] at he
        simp [entsO, entO, Instr.findAsking, he, go_sem, Result.andThen]
      · unfold findO; rw [List.find?_cons, hk]; exact ⟨i, rfl⟩
    | false =>
      have hk2 : (a == x.l && t == x.t) = false := hk
      obtain ⟨r, hr, hm⟩ := run_askO a t w l (j + 1) (i + 1)
      refine ⟨r, ?_, ?_⟩
      · rw [hk2] at he
        simp [entsO, entO, Instr.findAsking, he, go_sem, Result.andThen, hr]
      · unfold findO at *
        rw [List.find?_cons, hk]
        exact hm
theorem findNow_opr (fs : Array Field) (a : Int) (t : List UInt8) (j i : Nat) : ∀ (l : List Oe), Instr.findNow (.struct fs) (keyO a t) (entsO j l) i = none ∨ l = []
  | [] => .inr rfl
  | x :: l => .inl (by simp [entsO, Instr.findNow, Instr.sameNow])
theorem run_findO (a : Int) (t : List UInt8) (w : World) (l : List Oe) : ∃ r, (Instr.findKey 112 (keyO a t) (entsO 0 l)).run Tryz.prog w = .ok r w ∧
    (match findO l a t with | none => r = none | some x => ∃ k, r = some (k, .int .i64 x)) := by
  obtain ⟨r, hr, hm⟩ := run_askO a t w l 0 0
  rcases findNow_opr (Tryz.prog.fieldsOf 112) a t 0 0 l with h | rfl
  · exact ⟨r, by simp [Instr.findKey, run_underlying opr_under, h, hr, Result.andThen], hm⟩
  · exact ⟨none, by simp [Instr.findKey, run_underlying opr_under, entsO, Instr.findNow, Result.andThen, go_sem], rfl⟩

/-- the block of the map -/
def MapO (w : World) (b : Nat) (l : List Oe) : Prop := w.heap[b]? = some (.map (entsO 0 l).toArray l.length)
theorem MapO.below {w w1 : World} {b : Nat} {l : List Oe} (h : MapO w b l) (hb : Below w.heap.size w w1) : MapO w1 b l :=
  (hb.block b (Array.getElem?_eq_some_iff.1 h).1).trans h
theorem under_mapO : Tryz.prog.underlying 88 = some (.map 112 3) := by kernel_rfl
/-- what a look-up gives -/
def lookV : Option Int → Value
  | some x => .tuple #[.int .i64 x, .bool true]
  | none => .tuple #[.int .i64 0, .bool false]
theorem look_opr {w : World} {b : Nat} {l : List Oe} (h : MapO w b l) (a : Int) (t : List UInt8) :
    (Instr.lookup 88 (.map (some b)) (.agg #[.int .i64 a, .string ⟨t.toArray⟩]) true).run Tryz.prog w = .ok (lookV (findO l a t)) w := by
  obtain ⟨r, hf, hm⟩ := run_findO a t w l
  have hc := fun em => run_check_opr em a t w
  have hz : (zeroValue 3).run Tryz.prog w = .ok (.int .i64 0) w := by kernel_rfl
  unfold keyO at hc hf
  cases hr : findO l a t with
  | none =>
    rw [hr] at hm
    subst hm
    simp [Instr.lookup, run_underlying under_mapO, MapKept.run_getObj_map h, hc, hf, Result.andThen, hz, lookV]
  | some x =>
    rw [hr] at hm
    obtain ⟨k, rfl⟩ := hm
    simp [Instr.lookup, run_underlying under_mapO, MapKept.run_getObj_map h, hc, hf, Result.andThen, lookV]
/-- the world behind an insertion into the map that was made last -/
theorem put_opr (w0 : World) (l : List Oe) (a : Int) (t : List UInt8) (v : Int) (hr : findO l a t = none) :
    (Instr.mapUpdate 88 (.map (some w0.heap.size)) (.agg #[.int .i64 a, .string ⟨t.toArray⟩]) (.int .i64 v)).run Tryz.prog (w0.alloc (.map (entsO 0 l).toArray l.length)) = .ok () (w0.alloc (.map (entsO 0 (l ++ [⟨a, t, v⟩])).toArray (l ++ [(⟨a, t, v⟩ : Oe)]).length)) := by
  have h : (w0.alloc (.map (entsO 0 l).toArray l.length)).heap[w0.heap.size]? = some (.map (entsO 0 l).toArray l.length) := (MapKept.heap_alloc w0 _).1
  obtain ⟨r, hf, hm⟩ := run_findO a t (w0.alloc (.map (entsO 0 l).toArray l.length)) l
  rw [hr] at hm
  subst hm
  have hc := fun em => run_check_opr em a t (w0.alloc (.map (entsO 0 l).toArray l.length))
  have hps : ∀ (x y : Obj), (w0.heap.push x).setIfInBounds w0.heap.size y = w0.heap.push y := fun x y => by
    apply Array.ext_getElem?
    intro i
    rw [Array.getElem?_setIfInBounds, Array.getElem?_push, Array.getElem?_push]
    by_cases h : i = w0.heap.size
    · subst h; simp
    · simp [h, Ne.symm h]
  have hs : ({ w0.alloc (.map (entsO 0 l).toArray l.length) with heap := (w0.alloc (.map (entsO 0 l).toArray l.length)).heap.setIfInBounds w0.heap.size (.map ((entsO 0 l).toArray.push { key := keyO a t, val := .int .i64 v, born := l.length }) (l.length + 1)) } : World) = w0.alloc (.map (entsO 0 (l ++ [⟨a, t, v⟩])).toArray (l ++ [(⟨a, t, v⟩ : Oe)]).length) := by
    rw [entsO_app, Nat.zero_add]
    show ({ w0 with heap := (w0.heap.push _).setIfInBounds w0.heap.size _ } : World) = { w0 with heap := w0.heap.push _ }
    rw [hps]
    simp [entsO, entO]
  rw [← hs]
  unfold keyO at hc hf
  simp [Instr.mapUpdate, run_underlying under_mapO, MapKept.run_getObj_map h, hc, hf, Result.andThen, MapKept.run_setObj_map _ h, keyO]

def opsO : List Oe := [⟨0, [111, 114], 14⟩, ⟨1, [97, 110, 100], 13⟩, ⟨2, [60], 11⟩, ⟨2, [61], 12⟩, ⟨3, [43], 4⟩, ⟨3, [45], 5⟩, ⟨4, [42], 6⟩, ⟨4, [47], 7⟩, ⟨5, [109, 105, 110], 8⟩, ⟨5, [109, 97, 120], 9⟩]
end Go.Proofs.YthnlenbfknbmcaaGreatDoor
namespace Go.Proofs.YthnlenbfknbmcaaGreatDoor
open Go.RowKit
set_option maxRecDepth 100000

deriving instance DecidableEq for Oe
def opA (k : Nat) : Oe := opsO.getD k ⟨0, [], 0⟩
theorem opA_mem {x : Oe} : x ∈ opsO ↔ ∃ k, k < 10 ∧ x = opA k := by
  constructor
  · intro h
    simp only [opsO, List.mem_cons, List.not_mem_nil, or_false] at h
    rcases h with rfl | rfl | rfl | rfl | rfl | rfl | rfl | rfl | rfl | rfl
    · exact ⟨0, by decide, rfl⟩
    · exact ⟨1, by decide, rfl⟩
    · exact ⟨2, by decide, rfl⟩
    · exact ⟨3, by decide, rfl⟩
    · exact ⟨4, by decide, rfl⟩
    · exact ⟨5, by decide, rfl⟩
    · exact ⟨6, by decide, rfl⟩
    · exact ⟨7, by decide, rfl⟩
    · exact ⟨8, by decide, rfl⟩
    · exact ⟨9, by decide, rfl⟩
  · rintro ⟨k, hk, rfl⟩
    match k, hk with
    | 0, _ => exact (by decide : opA 0 ∈ opsO)
    | 1, _ => exact (by decide : opA 1 ∈ opsO)
    | 2, _ => exact (by decide : opA 2 ∈ opsO)
    | 3, _ => exact (by decide : opA 3 ∈ opsO)
    | 4, _ => exact (by decide : opA 4 ∈ opsO)
    | 5, _ => exact (by decide : opA 5 ∈ opsO)
    | 6, _ => exact (by decide : opA 6 ∈ opsO)
    | 7, _ => exact (by decide : opA 7 ∈ opsO)
    | 8, _ => exact (by decide : opA 8 ∈ opsO)
    | 9, _ => exact (by decide : opA 9 ∈ opsO)
theorem key_one : ∀ x ∈ opsO, ∀ y ∈ opsO, x.l = y.l → x.t = y.t → x = y := by decide
theorem find_none {l : List Oe} (hs : ∀ x ∈ l, x ∈ opsO) {y : Oe} (hy : y ∈ opsO) (hn : y ∉ l) : findO l y.l y.t = none := by
  unfold findO
  rw [Option.map_eq_none_iff, List.find?_eq_none]
  intro x hx h
  unfold hitO at h
  simp only [Bool.and_eq_true, beq_iff_eq] at h
  exact hn (key_one y hy x (hs x hx) h.1 h.2 ▸ hx)
theorem find_same {l : List Oe} (hs : ∀ x ∈ l, x ∈ opsO) (hc : ∀ x ∈ opsO, x ∈ l) (a : Int) (t : List UInt8) : findO l a t = findO opsO a t := by
  unfold findO
  cases h : opsO.find? (hitO a t) with
  | none =>
    rw [List.find?_eq_none] at h
    rw [show l.find? (hitO a t) = none from List.find?_eq_none.2 fun x hx => h x (hs x hx)]
  | some y =>
    have hy := List.mem_of_find?_eq_some h
    have hh := List.find?_some h
    cases h2 : l.find? (hitO a t) with
    | none =>
      rw [List.find?_eq_none] at h2
      exact absurd hh (h2 y (hc y hy))
    | some z =>
      have hz := hs z (List.mem_of_find?_eq_some h2)
      have hh2 := List.find?_some h2
      unfold hitO at hh hh2
      simp only [Bool.and_eq_true, beq_iff_eq] at hh hh2
      rw [key_one z hz y hy (hh2.1.symm.trans hh.1) (hh2.2.symm.trans hh.2)]
def mkF9 (f : Nat → Bool) : Array Bool := #[true, true, f 0, true, f 1, true, f 2, true, f 3, true, f 4, true, f 5, true, f 6, true, f 7, true, f 8, true, f 9, false, false]
theorem mkF9_set (f : Nat → Bool) (k : Nat) (hk : k < 10) : (mkF9 f).setIfInBounds (2 * k + 2) true = mkF9 (fun j => if j = k then true else f j) := by
  match k, hk with
  | 0, _ => rfl
  | 1, _ => rfl
  | 2, _ => rfl
  | 3, _ => rfl
  | 4, _ => rfl
  | 5, _ => rfl
  | 6, _ => rfl
  | 7, _ => rfl
  | 8, _ => rfl
  | 9, _ => rfl
theorem mkF9_ext {f g : Nat → Bool} (h : ∀ k, k < 10 → f k = g k) : mkF9 f = mkF9 g := by
  unfold mkF9
  rw [h 0 (by decide), h 1 (by decide), h 2 (by decide), h 3 (by decide), h 4 (by decide), h 5 (by decide), h 6 (by decide), h 7 (by decide), h 8 (by decide), h 9 (by decide)]
def allB (p : Bool → Bool) : Bool := p false && p true
theorem allB_at {p : Bool → Bool} (h : allB p = true) (b : Bool) : p b = true := by
  unfold allB at h
  rw [Bool.and_eq_true] at h
  cases b
  · exact h.1
  · exact h.2
def chkR (rs : List Nat) (bs : List Bool) : Bool := bs.all id || (!rs.isEmpty && rs.all fun i => decide (2 ≤ i) && decide (i % 2 = 0) && decide (i ≤ 20) && !(bs.getD ((i - 2) / 2) true))
def chk10 (md : Region.Mode) (ops : Array Oper) : Bool := allB fun b0 => allB fun b1 => allB fun b2 => allB fun b3 => allB fun b4 => allB fun b5 => allB fun b6 => allB fun b7 => allB fun b8 => allB fun b9 => chkR (Region.ready md ops #[true, true, b0, true, b1, true, b2, true, b3, true, b4, true, b5, true, b6, true, b7, true, b8, true, b9, false, false]) [b0, b1, b2, b3, b4, b5, b6, b7, b8, b9]
def bsF (f : Nat → Bool) : List Bool := [f 0, f 1, f 2, f 3, f 4, f 5, f 6, f 7, f 8, f 9]
theorem chk_at {md : Region.Mode} {ops : Array Oper} (h : chk10 md ops = true) (f : Nat → Bool) : chkR (Region.ready md ops (mkF9 f)) (bsF f) = true := by
  unfold chk10 at h
  have h0 := allB_at h (f 0)
  have h1 := allB_at h0 (f 1)
  have h2 := allB_at h1 (f 2)
  have h3 := allB_at h2 (f 3)
  have h4 := allB_at h3 (f 4)
  have h5 := allB_at h4 (f 5)
  have h6 := allB_at h5 (f 6)
  have h7 := allB_at h6 (f 7)
  have h8 := allB_at h7 (f 8)
  have h9 := allB_at h8 (f 9)
  exact h9
theorem bsF_getD (f : Nat → Bool) (k : Nat) (hk : k < 10) : (bsF f).getD k true = f k := by
  match k, hk with
  | 0, _ => rfl
  | 1, _ => rfl
  | 2, _ => rfl
  | 3, _ => rfl
  | 4, _ => rfl
  | 5, _ => rfl
  | 6, _ => rfl
  | 7, _ => rfl
  | 8, _ => rfl
  | 9, _ => rfl
theorem bsF_all {f : Nat → Bool} (h : (bsF f).all id = true) (k : Nat) (hk : k < 10) : f k = true := by
  simp only [bsF, List.all_cons, List.all_nil, Bool.and_true, Bool.and_eq_true, id] at h
  match k, hk with
  | 0, _ => exact h.1
  | 1, _ => exact h.2.1
  | 2, _ => exact h.2.2.1
  | 3, _ => exact h.2.2.2.1
  | 4, _ => exact h.2.2.2.2.1
  | 5, _ => exact h.2.2.2.2.2.1
  | 6, _ => exact h.2.2.2.2.2.2.1
  | 7, _ => exact h.2.2.2.2.2.2.2.1
  | 8, _ => exact h.2.2.2.2.2.2.2.2.1
  | 9, _ => exact h.2.2.2.2.2.2.2.2.2
theorem ready_at {md : Region.Mode} {ops : Array Oper} (h : chk10 md ops = true) (f : Nat → Bool) (hf : ∃ k, k < 10 ∧ f k = false) : Region.ready md ops (mkF9 f) ≠ [] ∧ ∀ i ∈ Region.ready md ops (mkF9 f), ∃ k, k < 10 ∧ i = 2 * k + 2 ∧ f k = false := by
  have hc := chk_at h f
  unfold chkR at hc
  rw [Bool.or_eq_true] at hc
  rcases hc with hc | hc
  · obtain ⟨k, hk, h0⟩ := hf
    rw [bsF_all hc k hk] at h0
    cases h0
  · rw [Bool.and_eq_true, List.all_eq_true] at hc
    refine ⟨by rintro e; rw [e] at hc; simp at hc, fun i hi => ?_⟩
    have := hc.2 i hi
    simp only [Bool.and_eq_true, decide_eq_true_eq, Bool.not_eq_true'] at this
    obtain ⟨⟨⟨h1, h2⟩, h3⟩, h4⟩ := this
    rw [bsF_getD f _ (by omega)] at h4
    exact ⟨(i - 2) / 2, by omega, by omega, h4⟩
/-- how many insertions are still to come -/
def nb : Bool → Nat
  | true => 0
  | false => 1
def leftF (f : Nat → Bool) : Nat := nb (f 0) + nb (f 1) + nb (f 2) + nb (f 3) + nb (f 4) + nb (f 5) + nb (f 6) + nb (f 7) + nb (f 8) + nb (f 9)
theorem leftF_set (f : Nat → Bool) (k : Nat) (hk : k < 10) (h : f k = false) : leftF (fun j => if j = k then true else f j) + 1 = leftF f := by
  match k, hk, h with
  | 0, _, h => rw [show leftF (fun j => if j = 0 then true else f j) = nb true + nb (f 1) + nb (f 2) + nb (f 3) + nb (f 4) + nb (f 5) + nb (f 6) + nb (f 7) + nb (f 8) + nb (f 9) from rfl, show leftF f = nb (f 0) + nb (f 1) + nb (f 2) + nb (f 3) + nb (f 4) + nb (f 5) + nb (f 6) + nb (f 7) + nb (f 8) + nb (f 9) from rfl, h]; simp only [nb]; (try omega)
  | 1, _, h => rw [show leftF (fun j => if j = 1 then true else f j) = nb (f 0) + nb true + nb (f 2) + nb (f 3) + nb (f 4) + nb (f 5) + nb (f 6) + nb (f 7) + nb (f 8) + nb (f 9) from rfl, show leftF f = nb (f 0) + nb (f 1) + nb (f 2) + nb (f 3) + nb (f 4) + nb (f 5) + nb (f 6) + nb (f 7) + nb (f 8) + nb (f 9) from rfl, h]; simp only [nb]; (try omega)
  | 2, _, h => rw [show leftF (fun j => if j = 2 then true else f j) = nb (f 0) + nb (f 1) + nb true + nb (f 3) + nb (f 4) + nb (f 5) + nb (f 6) + nb (f 7) + nb (f 8) + nb (f 9) from rfl, show leftF f = nb (f 0) + nb (f 1) + nb (f 2) + nb (f 3) + nb (f 4) + nb (f 5) + nb (f 6) + nb (f 7) + nb (f 8) + nb (f 9) from rfl, h]; simp only [nb]; (try omega)
  | 3, _, h => rw [show leftF (fun j => if j = 3 then true else f j) = nb (f 0) + nb (f 1) + nb (f 2) + nb true + nb (f 4) + nb (f 5) + nb (f 6) + nb (f 7) + nb (f 8) + nb (f 9) from rfl, show leftF f = nb (f 0) + nb (f 1) + nb (f 2) + nb (f 3) + nb (f 4) + nb (f 5) + nb (f 6) + nb (f 7) + nb (f 8) + nb (f 9) from rfl, h]; simp only [nb]; (try omega)
  | 4, _, h => rw [show leftF (fun j => if j = 4 then true else f j) = nb (f 0) + nb (f 1) + nb (f 2) + nb (f 3) + nb true + nb (f 5) + nb (f 6) + nb (f 7) + nb (f 8) + nb (f 9) from rfl, show leftF f = nb (f 0) + nb (f 1) + nb (f 2) + nb (f 3) + nb (f 4) + nb (f 5) + nb (f 6) + nb (f 7) + nb (f 8) + nb (f 9) from rfl, h]; simp only [nb]; (try omega)
  | 5, _, h => rw [show leftF (fun j => if j = 5 then true else f j) = nb (f 0) + nb (f 1) + nb (f 2) + nb (f 3) + nb (f 4) + nb true + nb (f 6) + nb (f 7) + nb (f 8) + nb (f 9) from rfl, show leftF f = nb (f 0) + nb (f 1) + nb (f 2) + nb (f 3) + nb (f 4) + nb (f 5) + nb (f 6) + nb (f 7) + nb (f 8) + nb (f 9) from rfl, h]; simp only [nb]; (try omega)
  | 6, _, h => rw [show leftF (fun j => if j = 6 then true else f j) = nb (f 0) + nb (f 1) + nb (f 2) + nb (f 3) + nb (f 4) + nb (f 5) + nb true + nb (f 7) + nb (f 8) + nb (f 9) from rfl, show leftF f = nb (f 0) + nb (f 1) + nb (f 2) + nb (f 3) + nb (f 4) + nb (f 5) + nb (f 6) + nb (f 7) + nb (f 8) + nb (f 9) from rfl, h]; simp only [nb]; (try omega)
  | 7, _, h => rw [show leftF (fun j => if j = 7 then true else f j) = nb (f 0) + nb (f 1) + nb (f 2) + nb (f 3) + nb (f 4) + nb (f 5) + nb (f 6) + nb true + nb (f 8) + nb (f 9) from rfl, show leftF f = nb (f 0) + nb (f 1) + nb (f 2) + nb (f 3) + nb (f 4) + nb (f 5) + nb (f 6) + nb (f 7) + nb (f 8) + nb (f 9) from rfl, h]; simp only [nb]; (try omega)
  | 8, _, h => rw [show leftF (fun j => if j = 8 then true else f j) = nb (f 0) + nb (f 1) + nb (f 2) + nb (f 3) + nb (f 4) + nb (f 5) + nb (f 6) + nb (f 7) + nb true + nb (f 9) from rfl, show leftF f = nb (f 0) + nb (f 1) + nb (f 2) + nb (f 3) + nb (f 4) + nb (f 5) + nb (f 6) + nb (f 7) + nb (f 8) + nb (f 9) from rfl, h]; simp only [nb]; (try omega)
  | 9, _, h => rw [show leftF (fun j => if j = 9 then true else f j) = nb (f 0) + nb (f 1) + nb (f 2) + nb (f 3) + nb (f 4) + nb (f 5) + nb (f 6) + nb (f 7) + nb (f 8) + nb true from rfl, show leftF f = nb (f 0) + nb (f 1) + nb (f 2) + nb (f 3) + nb (f 4) + nb (f 5) + nb (f 6) + nb (f 7) + nb (f 8) + nb (f 9) from rfl, h]; simp only [nb]; (try omega)
section
variable {md : Region.Mode} {ops : Array Oper} {Q : Exit → Act → World → Prop}
abbrev mapO (l : List Oe) : Obj := .map (entsO 0 l).toArray l.length
theorem wpAny_ins {a : Act} {base : World} (hr : chk10 md ops = true)
    (hs : ∀ k, k < 10 → ∀ (l : List Oe), findO l (opA k).l (opA k).t = none → ∀ K : Act → World → Prop, K a (base.alloc (mapO (l ++ [opA k]))) → wpOp Tryz.prog ops Q (2 * k + 2) K a (base.alloc (mapO l)))
    (hd : ∀ l, (∀ x ∈ l, x ∈ opsO) → (∀ x ∈ opsO, x ∈ l) → wpAny Tryz.prog md ops Q 2 (mkF9 fun _ => true) a (base.alloc (mapO l))) :
    ∀ (c : Nat) (f : Nat → Bool) (l : List Oe), leftF f = c → (∀ x ∈ l, x ∈ opsO) → (∀ k, k < 10 → (f k = true ↔ opA k ∈ l)) → wpAny Tryz.prog md ops Q (c + 2) (mkF9 f) a (base.alloc (mapO l)) := by
  intro c
  induction c with
  | zero =>
    intro f l hc hl hk
    have hall : ∀ k, k < 10 → f k = true := by
      intro k hk10
      cases hf : f k with
      | true => rfl
      | false => have := leftF_set f k hk10 hf; omega
    rw [mkF9_ext (g := fun _ => true) hall]
    exact hd l hl fun x hx => by
      obtain ⟨k, hk10, rfl⟩ := opA_mem.1 hx
      exact (hk k hk10).1 (hall k hk10)
  | succ c ih =>
    intro f l hc hl hk
    have hex : ∃ k, k < 10 ∧ f k = false := by
      apply Classical.byContradiction
      intro hn
      have hall : ∀ k, k < 10 → f k = true := fun k hk10 => by
        cases hf : f k with
        | true => rfl
        | false => exact absurd ⟨k, hk10, hf⟩ hn
      have : leftF f = 0 := by
        unfold leftF
        rw [hall 0 (by decide), hall 1 (by decide), hall 2 (by decide), hall 3 (by decide), hall 4 (by decide), hall 5 (by decide), hall 6 (by decide), hall 7 (by decide), hall 8 (by decide), hall 9 (by decide)]
        rfl
      omega
    obtain ⟨h0, h1⟩ := ready_at hr f hex
    refine wpAny_all (rs := Region.ready md ops (mkF9 f)) rfl h0 fun i hi => ?_
    obtain ⟨k, hk10, rfl, hf⟩ := h1 i hi
    have hnl : opA k ∉ l := fun h => by rw [(hk k hk10).2 h] at hf; cases hf
    refine hs k hk10 l (find_none hl (opA_mem.2 ⟨k, hk10, rfl⟩) hnl) _ ?_
    rw [mkF9_set f k hk10]
    refine ih _ _ (by have := leftF_set f k hk10 hf; omega) (fun x hx => ?_) fun j hj => ?_
    · rcases List.mem_append.1 hx with hx | hx
      · exact hl x hx
      · rw [List.mem_singleton.1 hx]; exact opA_mem.2 ⟨k, hk10, rfl⟩
    · rw [List.mem_append, List.mem_singleton]
      by_cases e : j = k
      · subst e; simp
      · rw [if_neg e, hk j hj]
        refine ⟨.inl, fun h => h.elim id fun h2 => ?_⟩
        exfalso
        revert h2
        exact (by decide : ∀ j, j < 10 → ∀ k, k < 10 → j ≠ k → opA j ≠ opA k) j hj k hk10 e
theorem wpAny_ins0 {fuel : Nat} {listed : Array Bool} {a : Act} {w base : World} (hfu : fuel = 12) (hl : listed = mkF9 fun _ => false) (hw : w = base.alloc (.map #[] 0)) (hr : chk10 md ops = true)
    (hs : ∀ k, k < 10 → ∀ (l : List Oe), findO l (opA k).l (opA k).t = none → ∀ K : Act → World → Prop, K a (base.alloc (mapO (l ++ [opA k]))) → wpOp Tryz.prog ops Q (2 * k + 2) K a (base.alloc (mapO l)))
    (hd : ∀ l, (∀ x ∈ l, x ∈ opsO) → (∀ x ∈ opsO, x ∈ l) → wpAny Tryz.prog md ops Q 2 (mkF9 fun _ => true) a (base.alloc (mapO l))) : wpAny Tryz.prog md ops Q fuel listed a w := by
  subst hfu hl hw
  exact wpAny_ins hr hs hd 10 (fun _ => false) [] rfl (by simp) (fun k _ => by simp)
end
end Go.Proofs.YthnlenbfknbmcaaGreatDoor
namespace Go.Proofs
open Go.Shelf
def Tryz.laysReplace_ren : Go.Shelf.Ren := ⟨fun | 154 => 105 | 138 => 112 | 165 => 113 | 143 => 101 | 166 => 114 | 197 => 115 | 169 => 116 | 195 => 129 | 218 => 130 | 240 => 131 | 241 => 132 | 219 => 108 | 260 => 133 | 276 => 141 | 277 => 142 | 217 => 119 | 225 => 120 | 224 => 121 | 267 => 122 | 266 => 135 | 314 => 136 | n => n, fun | 9 => 9 | 3 => 3 | 4 => 4 | 72 => 140 | 0 => 0 | 76 => 129 | 105 => 142 | 21 => 21 | 5 => 5 | 70 => 138 | 20 => 20 | 37 => 82 | 75 => 128 | 127 => 132 | 164 => 163 | 46 => 148 | 119 => 166 | 139 => 169 | 138 => 168 | 146 => 155 | 51 => 40 | 80 => 144 | n => n, fun | 1 => 0 | 3 => 3 | 4 => 4 | n => n⟩
theorem Tryz.laysReplace : Go.Proofs.Lays.n154 Tryz.prog Tryz.laysReplace_ren := {
  mixed := by kernel_rfl
  f138 := Tryz.func112.trans (congrArg some (by kernel_rfl))
  f143 := Tryz.func101.trans (congrArg some (by kernel_rfl))
  f154 := Tryz.func105.trans (congrArg some (by kernel_rfl))
  f165 := Tryz.func113.trans (congrArg some (by kernel_rfl))
  f166 := Tryz.func114.trans (congrArg some (by kernel_rfl))
  f169 := Tryz.func116.trans (congrArg some (by kernel_rfl))
  f195 := Tryz.func129.trans (congrArg some (by kernel_rfl))
  f197 := Tryz.func115.trans (congrArg some (by kernel_rfl))
  f217 := Tryz.func119.trans (congrArg some (by kernel_rfl))
  f218 := Tryz.func130.trans (congrArg some (by kernel_rfl))
  f219 := Tryz.func108.trans (congrArg some (by kernel_rfl))
  f224 := Tryz.func121.trans (congrArg some (by kernel_rfl))
  f225 := Tryz.func120.trans (congrArg some (by kernel_rfl))
  f240 := Tryz.func131.trans (congrArg some (by kernel_rfl))
  f241 := Tryz.func132.trans (congrArg some (by kernel_rfl))
  f260 := Tryz.func133.trans (congrArg some (by kernel_rfl))
  f266 := Tryz.func135.trans (congrArg some (by kernel_rfl))
  f267 := Tryz.func122.trans (congrArg some (by kernel_rfl))
  f276 := Tryz.func141.trans (congrArg some (by kernel_rfl))
  f277 := Tryz.func142.trans (congrArg some (by kernel_rfl))
  f314 := Tryz.func136.trans (congrArg some (by kernel_rfl))
  t0 := Tryz.underlying0
  a0 := Tryz.isAgg0
  z0 := Tryz.sizeOf0
  v0 := Tryz.zeroValue0
  t3 := Tryz.underlying3
  a3 := Tryz.isAgg3
  z3 := Tryz.sizeOf3
  v3 := Tryz.zeroValue3
  t4 := Tryz.underlying4
  a4 := Tryz.isAgg4
  z4 := Tryz.sizeOf4
  v4 := Tryz.zeroValue4
  t5 := Tryz.underlying5
  a5 := Tryz.isAgg5
  z5 := Tryz.sizeOf5
  v5 := Tryz.zeroValue5
  t9 := Tryz.underlying9
  a9 := Tryz.isAgg9
  z9 := Tryz.sizeOf9
  v9 := Tryz.zeroValue9
  t20 := Tryz.underlying20
  a20 := Tryz.isAgg20
  z20 := Tryz.sizeOf20
  v20 := Tryz.zeroValue20
  t21 := Tryz.underlying21
  a21 := Tryz.isAgg21
  z21 := Tryz.sizeOf21
  v21 := Tryz.zeroValue21
  t37 := Tryz.underlying82
  a37 := Tryz.isAgg82
  z37 := Tryz.sizeOf82
  v37 := Tryz.zeroValue82
  t46 := Tryz.underlying148
  a46 := Tryz.isAgg148
  z46 := Tryz.sizeOf148
  v46 := Tryz.zeroValue148
  t51 := Tryz.underlying40
  a51 := Tryz.isAgg40
  z51 := Tryz.sizeOf40
  v51 := Tryz.zeroValue40
  t70 := Tryz.underlying138
  a70 := Tryz.isAgg138
  z70 := Tryz.sizeOf138
  v70 := Tryz.zeroValue138
  t72 := Tryz.underlying140
  a72 := Tryz.isAgg140
  z72 := Tryz.sizeOf140
  v72 := Tryz.zeroValue140
  t75 := Tryz.underlying128
  a75 := Tryz.isAgg128
  z75 := Tryz.sizeOf128
  v75 := Tryz.zeroValue128
  t76 := Tryz.underlying129
  a76 := Tryz.isAgg129
  z76 := Tryz.sizeOf129
  v76 := Tryz.zeroValue129
  t105 := Tryz.underlying142
  a105 := Tryz.isAgg142
  z105 := Tryz.sizeOf142
  v105 := Tryz.zeroValue142
  t119 := Tryz.underlying166
  a119 := Tryz.isAgg166
  z119 := Tryz.sizeOf166
  t127 := Tryz.underlying132
  a127 := Tryz.isAgg132
  z127 := Tryz.sizeOf132
  v127 := Tryz.zeroValue132
  t138 := Tryz.underlying168
  a138 := Tryz.isAgg168
  z138 := Tryz.sizeOf168
  v138 := Tryz.zeroValue168
  t139 := Tryz.underlying169
  a139 := Tryz.isAgg169
  z139 := Tryz.sizeOf169
  v139 := Tryz.zeroValue169
  t146 := Tryz.underlying155
  a146 := Tryz.isAgg155
  z146 := Tryz.sizeOf155
  v146 := Tryz.zeroValue155
  t164 := Tryz.underlying163
  a164 := Tryz.isAgg163
  z164 := Tryz.sizeOf163
  v164 := Tryz.zeroValue163
  g1 := by kernel_rfl
  g3 := by kernel_rfl
  g4 := by kernel_rfl }
theorem Tryz.extraReplace : Builder.Extra Tryz.prog Tryz.laysReplace_ren := {
  sizeBuilder := by kernel_rfl
  liesBuilder := by kernel_rfl
  t5 := Tryz.laysReplace.t5
  a5 := Tryz.laysReplace.a5
  z5 := Tryz.laysReplace.z5
  v5 := Tryz.laysReplace.v5
  infoByte := by kernel_rfl
  cellsByte := by kernel_rfl
  sizeByte := by kernel_rfl
  neB5 := by decide }
end Go.Proofs
namespace Go.Proofs.YthnlenbfknbmcaaGreatDoor
open Go.RowKit Go.Shelf
set_option maxRecDepth 100000

/-- the first point is left out -/
def cutP (s : List UInt8) : List UInt8 := Lib.replace s [46] [] 1
theorem index_pt : ∀ (a b : List UInt8), (∀ x ∈ a, x ≠ 46) → Lib.index (a ++ 46 :: b) [46] = (a.length : Int)
  | [], b, _ => by simp [Lib.index, List.isPrefixOf]
  | x :: a, b, h => by
    have h1 : x ≠ 46 := h x (by simp)
    have ih := index_pt a b (fun y hy => h y (by simp [hy]))
    rw [List.cons_append, Lib.index]
    rw [if_neg (by simp [List.isPrefixOf]; exact Ne.symm h1), ih, if_neg (by rw [beq_iff_eq]; omega)]
    simp
theorem index_no : ∀ (a : List UInt8), (∀ x ∈ a, x ≠ 46) → Lib.index a [46] = -1
  | [], _ => by simp [Lib.index]
  | x :: a, h => by
    have h1 : x ≠ 46 := h x (by simp)
    have ih := index_no a (fun y hy => h y (by simp [hy]))
    rw [Lib.index]
    rw [if_neg (by simp [List.isPrefixOf]; exact Ne.symm h1), ih]
    rfl
theorem cutP_at (a b : List UInt8) (h : ∀ x ∈ a, x ≠ 46) : cutP (a ++ 46 :: b) = a ++ b := by
  have hi := index_pt a b h
  have hc : 1 ≤ Lib.count (a ++ 46 :: b) [46] := by
    unfold Lib.count
    rw [Lib.countFrom]
    rw [hi]
    rw [if_neg (by rw [beq_iff_eq]; omega)]
    omega
  unfold cutP Lib.replace
  rw [if_neg (by simp)]
  have hn : Lib.replaceNum (a ++ 46 :: b) [46] 1 = 1 := by unfold Lib.replaceNum; rw [if_neg (by omega)]; rfl
  rw [hn, Lib.replaceK_hit _ _ 0 _ a.length hi, Lib.replaceK]
  simp
theorem cutP_no (a : List UInt8) (h : ∀ x ∈ a, x ≠ 46) : cutP a = a := by
  have hi := index_no a h
  have hc : Lib.count a [46] = 0 := by
    unfold Lib.count
    rw [Lib.countFrom]
    rw [hi]
    rfl
  unfold cutP Lib.replace
  rw [if_neg (by simp)]
  have hn : Lib.replaceNum a [46] 1 = 0 := by unfold Lib.replaceNum; rw [if_pos (by omega), hc]
  rw [hn, Lib.replaceK]
theorem atoi_dec (l : List UInt8) (h : ∀ x ∈ l, digB x = true) (h0 : l ≠ []) (hl : l.length ≤ 17) : Lib.atoiAll l = .ok ((decF 0 l : Nat) : Int) := by
  cases l with
  | nil => exact absurd rfl h0
  | cons c r =>
    obtain ⟨h1, h2⟩ := (dig_iff c).1 (h c (by simp))
    rw [Lib.atoiAll_plain c r (by omega) (by omega)]
    have hm : Lib.parseMag (c :: r) = Lib.parseUint10 0 (c :: r) := by unfold Lib.parseMag; rw [if_neg (by simp)]
    rw [hm]
    have hpw : (0 + 1) * 10 ^ (c :: r).length ≤ 100000000000000000 := by
      have := Nat.pow_le_pow_right (n := 10) (by omega) hl
      omega
    obtain ⟨g1, g2⟩ := pu_ok (c :: r) 0 h (by omega)
    rw [g1]
    have hlt : decF 0 (c :: r) < 100000000000000000 := by omega
    generalize decF 0 (c :: r) = u at *
    unfold Lib.signless
    simp only
    rw [if_neg (by omega)]
/-- the texts of numbers and amounts -/
def numT (t : List UInt8) : Prop := t ≠ [] ∧ t.length ≤ 17 ∧ ((∀ x ∈ t, digB x = true) ∨ ∃ A B, t = A ++ 46 :: B ∧ A ≠ [] ∧ (∀ x ∈ A, digB x = true) ∧ ∀ x ∈ B, digB x = true)
theorem tw_dig (s : List UInt8) : ∀ x ∈ s.takeWhile digB, digB x = true := fun _ hx => tw_mem hx
theorem tw_take (s : List UInt8) : s.takeWhile digB = s.take (nDig s) := by
  unfold nDig
  have := List.takeWhile_prefix (p := digB) (l := s)
  exact List.prefix_iff_eq_take.1 this
theorem num_shape {t : List UInt8} (h : kindF t = 2 ∨ kindF t = 3) : numT t := by
  cases t with
  | nil => simp [kindF] at h
  | cons c r =>
    unfold kindF at h
    simp only at h
    split at h
    · omega
    · split at h
      · split at h <;> omega
      · split at h
        · omega
        · next hn =>
          split at h
          · next he =>
            refine ⟨by simp, by omega, .inl fun x hx => ?_⟩
            have := tw_take (c :: r)
            rw [he, List.take_length] at this
            exact tw_dig (c :: r) x (by rw [this]; exact hx)
          · split at h
            · omega
            · next hm =>
              have hm1 : (c :: r)[nDig (c :: r)]? = some 46 := by
                rcases Classical.em ((c :: r)[nDig (c :: r)]? = some 46) with h | h
                · exact h
                · exact absurd (.inl h) hm
              have hm2 : (c :: r).length = nDig (c :: r) + 3 := by
                rcases Classical.em ((c :: r).length = nDig (c :: r) + 3) with h | h
                · exact h
                · exact absurd (.inr (.inl h)) hm
              have hm3 : nDig ((c :: r).drop (nDig (c :: r) + 1)) = 2 := by
                rcases Classical.em (nDig ((c :: r).drop (nDig (c :: r) + 1)) = 2) with h | h
                · exact h
                · exact absurd (.inr (.inr h)) hm
              generalize hs : c :: r = s at *
              refine ⟨by rw [← hs]; simp, by omega, .inr ⟨s.take (nDig s), s.drop (nDig s + 1), ?_, ?_, fun x hx => tw_dig s x (by rw [tw_take]; exact hx), fun x hx => ?_⟩⟩
              · obtain ⟨hlt, hx⟩ := List.getElem?_eq_some_iff.1 hm1
                rw [← hx, ← List.drop_eq_getElem_cons hlt, List.take_append_drop]
              · intro e
                have := congrArg List.length e
                rw [List.length_take, List.length_nil] at this
                omega
              · have h1 := tw_take (s.drop (nDig s + 1))
                rw [hm3, List.take_of_length_le (by rw [List.length_drop]; omega)] at h1
                exact tw_dig _ x (by rw [h1]; exact hx)
theorem dig_ne46 {x : UInt8} (h : digB x = true) : x ≠ 46 := by rintro rfl; cases h
theorem cents_dig (l : List UInt8) (h : ∀ x ∈ l, digB x = true) : cents l = decF 0 l := by
  unfold cents decF; rw [List.filter_eq_self.2 h]
theorem num_atoi {t : List UInt8} (h : numT t) : Lib.atoiAll (cutP t) = .ok ((cents t : Nat) : Int) ∧ (cutP t).length ≤ 17 := by
  obtain ⟨h0, hl, h | ⟨A, B, rfl, hA0, hA, hB⟩⟩ := h
  · rw [cutP_no t fun x hx => dig_ne46 (h x hx), cents_dig t h]
    exact ⟨atoi_dec t h h0 hl, hl⟩
  · rw [cutP_at A B fun x hx => dig_ne46 (hA x hx), cents_cut A B hA hB]
    simp only [List.length_append, List.length_cons] at hl
    refine ⟨atoi_dec _ (fun x hx => ?_) (by simp [hA0]) (by rw [List.length_append]; omega), by rw [List.length_append]; omega⟩
    rcases List.mem_append.1 hx with h | h
    · exact hA x h
    · exact hB x h
theorem replace_any (s : List UInt8) (hs : s.length ≤ 1000) (w : World) (hL : Lay w) :
    Calls Tryz.prog 105 #[.string ⟨s.toArray⟩, .string ⟨#[46]⟩, .string ⟨#[]⟩, .int .i64 1] w (Ret (.string ⟨(cutP s).toArray⟩) w) := by
  obtain ⟨m, hm⟩ := hL.most
  refine (Any.strings_Replace Tryz.laysReplace Tryz.extraReplace ⟨s.toArray⟩ ⟨#[46]⟩ ⟨#[]⟩ 1 m w ?_ hm ?_ ?_).mono ?_
  · have : (⟨s.toArray⟩ : ByteArray).size = s.length := by simp [ByteArray.size]
    omega
  · decide
  · have : (⟨s.toArray⟩ : ByteArray).size = s.length := by simp [ByteArray.size]
    have e : (⟨#[]⟩ : ByteArray).size = 0 := rfl
    rw [e]; omega
  · rintro e w' ⟨rfl, hb⟩
    exact ⟨rfl, hb⟩
set_option maxHeartbeats 400000 in
theorem pdigits_any (t : List UInt8) (h : numT t) (w : World) (hL : Lay w) : Calls Tryz.prog 97 #[.string ⟨t.toArray⟩] w (Ret (.int .i64 (cents t : Nat)) w) := by
  obtain ⟨ha, hl⟩ := num_atoi h
  have h1 := replace_any t (by have := h.2.1; omega) w hL
  have h2 : ∀ wk, Below w.heap.size w wk → Calls Tryz.prog 100 #[.string ⟨(cutP t).toArray⟩] wk (fun e w' => e = .returned (.tuple #[.int .i64 ((cents t : Nat) : Int), .nilIface]) ∧ Below wk.heap.size wk w') := by
    intro wk hb
    refine (atoi_any (cutP t) (by omega) wk (hL.below hb)).mono ?_
    rintro e w' ⟨hb, ⟨v, hv, rfl⟩ | ⟨hn, _⟩⟩
    · rw [ha] at hv; cases hv; exact ⟨rfl, hb⟩
    · exact absurd ha (hn _)
  generalize ((cents t : Nat) : Int) = c at *
  go_enter Tryz.func97, Tryz.ntmps97
  go_wp2_with fail
  refine h1.mono ?_
  rintro e w1 ⟨rfl, hb1⟩
  go_wp2_with fail
  refine (h2 w1 hb1).mono ?_
  rintro e w2 ⟨rfl, hb2⟩
  go_wp2_with fail
  go_ret
  exact Ret.mk rfl (hb1.trans (hb2.mono hb1.size))
end Go.Proofs.YthnlenbfknbmcaaGreatDoor
namespace Go.Proofs.YthnlenbfknbmcaaGreatDoor
open Go.RowKit Go.Shelf
set_option maxRecDepth 100000

/-- what a parser reads: its tokens, its map of operators, what the library reads; W0 is the world in which it is made -/
structure Env (W0 : World) (v : Value) (m : Nat) (L : List Tok) : Prop where
  toks : Toks W0 v (L.map Tok.rt)
  ops : ∃ l, MapO W0 m l ∧ ∀ a t, findO l a t = findO opsO a t
  lay : Lay W0
  nums : ∀ x ∈ L, x.k = 2 ∨ x.k = 3 → numT x.t
  some : ∀ x ∈ L, x.t ≠ []
  short : L.length ≤ 1000000
/-- so many tokens have been read -/
structure St (W0 : World) (v : Value) (m : Nat) (L : List Tok) (i : Nat) (w : World) : Prop where
  base : Below W0.heap.size W0 w
  own : Own w W0.heap.size [.map (some m), v, .int .i64 (i : Nat)]
  le : i ≤ L.length
theorem St.below {W0 w w' : World} {v : Value} {m i : Nat} {L : List Tok} (h : St W0 v m L i w) (hb : Below w.heap.size w w') : St W0 v m L i w' :=
  ⟨h.base.trans (hb.mono h.base.size), h.own.below hb, h.le⟩
theorem St.three {W0 w : World} {v : Value} {m i : Nat} {L : List Tok} (h : St W0 v m L i w) : w.cell? ⟨W0.heap.size, 0, none⟩ = some (.map (some m)) ∧ w.cell? ⟨W0.heap.size, 1, none⟩ = some v ∧ w.cell? ⟨W0.heap.size, 2, none⟩ = some (.int .i64 (i : Nat)) ∧
    w.frozen? ⟨W0.heap.size, 0, none⟩ = false ∧ w.frozen? ⟨W0.heap.size, 1, none⟩ = false ∧ w.frozen? ⟨W0.heap.size, 2, none⟩ = false ∧ W0.heap.size < w.heap.size :=
  ⟨h.own.cell 0 _ rfl, h.own.cell 1 _ rfl, h.own.cell 2 _ rfl, h.own.fro 0 _ rfl, h.own.fro 1 _ rfl, h.own.fro 2 _ rfl, h.own.lt⟩
theorem St.step {W0 w : World} {v : Value} {m i : Nat} {L : List Tok} (h : St W0 v m L i w) (hi : i < L.length) : St W0 v m L (i + 1) (w.setCell ⟨W0.heap.size, 2, none⟩ (.int .i64 ((i : Int) + 1))) := by
  refine ⟨h.base.setCell (Nat.le_refl _) _, ?_, hi⟩
  have := h.own.setAt (i := 2) (.int .i64 ((i : Int) + 1)) (by simp)
  simpa using this
/-- the next token, or one without a text in the last one's line -/
def nextT (L : List Tok) (i : Nat) : RT := if h : i < L.length then (L[i]).rt else ⟨0, (lineAt L [] : Nat), []⟩
theorem nextT_in {L : List Tok} {i : Nat} (h : i < L.length) : nextT L i = (L[i]).rt := dif_pos h
theorem nextT_line {L : List Tok} {i : Nat} : (nextT L i).n = (lineAt L (L.drop i) : Nat) := by
  unfold nextT
  split
  · next h => rw [List.drop_eq_getElem_cons h]; rfl
  · next h => rw [List.drop_of_length_le (by omega)]
theorem last_get {L : List Tok} (h : L ≠ []) : ∃ x, L[L.length - 1]? = some x ∧ lineAt L [] = x.n := by
  have hl : L.length - 1 < L.length := by have := List.length_pos_iff.2 h; omega
  refine ⟨L[L.length - 1], List.getElem?_eq_getElem hl, ?_⟩
  unfold lineAt
  rw [List.getLast?_eq_getElem?, List.getElem?_eq_getElem hl]

variable {W0 : World} {v : Value} {m : Nat} {L : List Tok}
theorem Env.at (h : Env W0 v m L) : ∃ ad cap, v = .slice ad L.length cap := by
  obtain ⟨ad, cap, e⟩ := h.toks.open
  rw [List.length_map] at e
  exact ⟨ad, cap, e⟩
set_option maxHeartbeats 400000 in
theorem ended_any (hE : Env W0 v m L) (i : Nat) (w : World) (hS : St W0 v m L i w) : Calls Tryz.prog 44 #[.pointer (some ⟨W0.heap.size, 0, none⟩)] w (Ret (.bool (decide (i = L.length))) w) := by
  obtain ⟨ad, cap, rfl⟩ := hE.at
  obtain ⟨c0, c1, c2, f0, f1, f2, z⟩ := hS.three
  have hle := hS.le
  go_enter Tryz.func44, Tryz.ntmps44
  go_wp2_with fail
  go_quiet (fail)
  go_wp2_with fail
  go_ret
  exact Ret.mk (boolV (by simp; omega)) (by (repeat (first | exact Below.refl _ _ | assumption | refine Below.drew ?_ | refine below_drewN ?_ _ | refine Below.setCell ?_ (by first | omega | (simp <;> omega)) _ | refine Below.alloc ?_ (by first | omega | (simp <;> omega)) _)))
def tokV (x : RT) : Value := .agg #[.int .i64 x.k, .int .i64 x.n, .string ⟨x.t.toArray⟩]
set_option maxHeartbeats 800000 in
theorem next_any (hE : Env W0 v m L) (i : Nat) (w : World) (hS : St W0 v m L i w) : Calls Tryz.prog 52 #[.pointer (some ⟨W0.heap.size, 0, none⟩)] w (Ret (tokV (nextT L i)) w) := by
  obtain ⟨c0, c1, c2, f0, f1, f2, z⟩ := hS.three
  have hle := hS.le
  have hT := hE.toks
  have hsh := hE.short
  have hend : ∀ o, Calls Tryz.prog 44 #[.pointer (some ⟨W0.heap.size, 0, none⟩)] (w.alloc o) (Ret (.bool (decide (i = L.length))) (w.alloc o)) := fun o => ended_any hE i _ (hS.below (Below.alloc (Below.refl _ _) (Nat.le_refl _) o))
  obtain ⟨ad, cap, rfl⟩ := hE.at
  have hb := hS.base
  by_cases hi : i < L.length
  · have hD : decide (i = L.length) = false := by simp; omega
    simp only [hD] at hend
    obtain ⟨a, rfl, d0, d1, d2, hab⟩ := (show Toks W0 (.slice ad (L.map Tok.rt).length cap) (L.map Tok.rt) by rw [List.length_map]; exact hT).reads hb (Nat.le_refl _) i (by rw [List.length_map]; exact hi)
    rw [nextT_in hi]
    simp only [List.getElem_map] at d0 d1 d2
    generalize (L[i]).rt = x at *
    obtain ⟨xk, xn, xt⟩ := x
    simp only at d0 d1 d2
    clear hT hE hS hD
    go_enter Tryz.func52, Tryz.ntmps52
    go_wp2_with fail
    refine (hend _).mono ?_
    rintro e w1 ⟨rfl, hb1⟩
    have ho := (Own.new w #[.int .i64 0, .int .i64 0, .string ⟨#[]⟩] 87).below hb1
    obtain ⟨e0, e1, e2, g0, g1, g2, z2⟩ : w1.cell? ⟨w.heap.size, 0, none⟩ = some (.int .i64 0) ∧ w1.cell? ⟨w.heap.size, 1, none⟩ = some (.int .i64 0) ∧ w1.cell? ⟨w.heap.size, 2, none⟩ = some (.string ⟨#[]⟩) ∧ w1.frozen? ⟨w.heap.size, 0, none⟩ = false ∧ w1.frozen? ⟨w.heap.size, 1, none⟩ = false ∧ w1.frozen? ⟨w.heap.size, 2, none⟩ = false ∧ w.heap.size < w1.heap.size :=
      ⟨ho.cell 0 _ rfl, ho.cell 1 _ rfl, ho.cell 2 _ rfl, ho.fro 0 _ rfl, ho.fro 1 _ rfl, ho.fro 2 _ rfl, ho.lt⟩
    have hbw : Below w.heap.size w w1 := (Below.alloc (Below.refl _ _) (Nat.le_refl _) _).trans (hb1.mono (by simp))
    have k0 := (hbw.cell (p := ⟨W0.heap.size, 0, none⟩) z).trans c0
    have k1 := (hbw.cell (p := ⟨W0.heap.size, 1, none⟩) z).trans c1
    have k2 := (hbw.cell (p := ⟨W0.heap.size, 2, none⟩) z).trans c2
    have j0 := (hbw.cell (p := a.add (i * 3)) (by omega)).trans d0
    have j1 := (hbw.cell (p := { block := (a.add (i * 3)).block, off := (a.add (i * 3)).off + 1 }) (by simp; omega)).trans d1
    have j2 := (hbw.cell (p := { block := (a.add (i * 3)).block, off := (a.add (i * 3)).off + 2 }) (by simp; omega)).trans d2
    clear hb1
    go_wp2_with fail
    go_region
    go_wp2_with fail
    refine ret_cells (vs := [.int .i64 xk, .int .i64 xn, .string ⟨xt.toArray⟩]) rfl Tryz.underlying87 rfl (by kernel_rfl) (B := w.heap.size) ((((ho.setAt (i := 0) (.int .i64 xk) (by simp)).setAt (i := 1) (.int .i64 xn) (by simp)).setAt (i := 2) (.string ⟨xt.toArray⟩) (by simp)).drew) rfl rfl ?_
    exact Ret.mk rfl (by (repeat (first | exact Below.refl _ _ | assumption | refine Below.drew ?_ | refine below_drewN ?_ _ | refine Below.setCell ?_ (by first | omega | (simp <;> omega)) _ | refine Below.alloc ?_ (by first | omega | (simp <;> omega)) _)))
  · have hD : decide (i = L.length) = true := by simp; omega
    simp only [hD] at hend
    rw [show nextT L i = ⟨0, (lineAt L [] : Nat), []⟩ from dif_neg hi]
    by_cases h0 : L = []
    · subst h0
      have hz : i = 0 := by simpa using hle
      subst hz
      clear hT hE hS hD
      go_enter Tryz.func52, Tryz.ntmps52
      go_wp2_with fail
      refine (hend _).mono ?_
      rintro e w1 ⟨rfl, hb1⟩
      have ho := (Own.new w #[.int .i64 0, .int .i64 0, .string ⟨#[]⟩] 87).below hb1
      obtain ⟨e0, e1, e2, g0, g1, g2, z2⟩ : w1.cell? ⟨w.heap.size, 0, none⟩ = some (.int .i64 0) ∧ w1.cell? ⟨w.heap.size, 1, none⟩ = some (.int .i64 0) ∧ w1.cell? ⟨w.heap.size, 2, none⟩ = some (.string ⟨#[]⟩) ∧ w1.frozen? ⟨w.heap.size, 0, none⟩ = false ∧ w1.frozen? ⟨w.heap.size, 1, none⟩ = false ∧ w1.frozen? ⟨w.heap.size, 2, none⟩ = false ∧ w.heap.size < w1.heap.size :=
        ⟨ho.cell 0 _ rfl, ho.cell 1 _ rfl, ho.cell 2 _ rfl, ho.fro 0 _ rfl, ho.fro 1 _ rfl, ho.fro 2 _ rfl, ho.lt⟩
      have hbw : Below w.heap.size w w1 := (Below.alloc (Below.refl _ _) (Nat.le_refl _) _).trans (hb1.mono (by simp))
      have k0 := (hbw.cell (p := ⟨W0.heap.size, 0, none⟩) z).trans c0
      have k1 := (hbw.cell (p := ⟨W0.heap.size, 1, none⟩) z).trans c1
      have k2 := (hbw.cell (p := ⟨W0.heap.size, 2, none⟩) z).trans c2
      clear hb1
      go_wp2_with fail
      refine ret_cells (vs := [.int .i64 0, .int .i64 0, .string ⟨#[]⟩]) rfl Tryz.underlying87 rfl (by kernel_rfl) (B := w.heap.size) (((ho.setAt (i := 0) (.int .i64 0) (by simp)).setAt (i := 1) (.int .i64 0) (by simp)).setAt (i := 2) (.string ⟨#[]⟩) (by simp)) rfl rfl ?_
      exact Ret.mk rfl (by (repeat (first | exact Below.refl _ _ | assumption | refine Below.drew ?_ | refine below_drewN ?_ _ | refine Below.setCell ?_ (by first | omega | (simp <;> omega)) _ | refine Below.alloc ?_ (by first | omega | (simp <;> omega)) _)))
    · obtain ⟨x, hx, hl⟩ := last_get h0
      rw [hl]
      have hlt : L.length - 1 < L.length := by have := List.length_pos_iff.2 h0; omega
      have hxl : L[L.length - 1] = x := by rw [List.getElem?_eq_getElem hlt] at hx; exact Option.some.inj hx
      obtain ⟨a, rfl, d0, d1, d2, hab⟩ := (show Toks W0 (.slice ad (L.map Tok.rt).length cap) (L.map Tok.rt) by rw [List.length_map]; exact hT).reads hb (Nat.le_refl _) (L.length - 1) (by rw [List.length_map]; exact hlt)
      simp only [List.getElem_map, hxl] at d1
      have hil : i = L.length := by omega
      subst hil
      have hpos : ((L.length : Int) == 0) = false := by rw [beq_eq_false_iff_ne]; omega
      obtain ⟨k, hk⟩ : ∃ k, L.length - 1 = k := ⟨_, rfl⟩
      have hsub : (L.length : Int) - 1 = (k : Int) := by omega
      rw [hk] at d1 hab
      have hkl : k < L.length := by omega
      have hw1 : IntKind.i64.wrap ((L.length : Int) - 1) = (k : Int) := by rw [hsub]; exact IntWalk.i64_in _ (by omega)
      obtain ⟨xk, xn, xt⟩ := x
      simp only [Tok.rt] at d1
      clear hT hE hS hD d0 d2 hx hl hxl hi hle
      go_enter Tryz.func52, Tryz.ntmps52
      go_wp2_with fail
      refine (hend _).mono ?_
      rintro e w1 ⟨rfl, hb1⟩
      have ho := (Own.new w #[.int .i64 0, .int .i64 0, .string ⟨#[]⟩] 87).below hb1
      obtain ⟨e0, e1, e2, g0, g1, g2, z2⟩ : w1.cell? ⟨w.heap.size, 0, none⟩ = some (.int .i64 0) ∧ w1.cell? ⟨w.heap.size, 1, none⟩ = some (.int .i64 0) ∧ w1.cell? ⟨w.heap.size, 2, none⟩ = some (.string ⟨#[]⟩) ∧ w1.frozen? ⟨w.heap.size, 0, none⟩ = false ∧ w1.frozen? ⟨w.heap.size, 1, none⟩ = false ∧ w1.frozen? ⟨w.heap.size, 2, none⟩ = false ∧ w.heap.size < w1.heap.size :=
        ⟨ho.cell 0 _ rfl, ho.cell 1 _ rfl, ho.cell 2 _ rfl, ho.fro 0 _ rfl, ho.fro 1 _ rfl, ho.fro 2 _ rfl, ho.lt⟩
      have hbw : Below w.heap.size w w1 := (Below.alloc (Below.refl _ _) (Nat.le_refl _) _).trans (hb1.mono (by simp))
      have k0 := (hbw.cell (p := ⟨W0.heap.size, 0, none⟩) z).trans c0
      have k1 := (hbw.cell (p := ⟨W0.heap.size, 1, none⟩) z).trans c1
      have k2 := (hbw.cell (p := ⟨W0.heap.size, 2, none⟩) z).trans c2
      have j1 := (hbw.cell (p := { block := (a.add (k * 3)).block, off := (a.add (k * 3)).off + 1 }) (by simp; omega)).trans d1
      clear hb1
      go_wp2_with fail
      go_region
      go_wp2_with fail
      refine ret_cells (vs := [.int .i64 0, .int .i64 xn, .string ⟨#[]⟩]) rfl Tryz.underlying87 rfl (by kernel_rfl) (B := w.heap.size) ((((ho.setAt (i := 0) (.int .i64 0) (by simp)).setAt (i := 1) (.int .i64 xn) (by simp)).setAt (i := 2) (.string ⟨#[]⟩) (by simp)).drew) rfl rfl ?_
      exact Ret.mk rfl (by (repeat (first | exact Below.refl _ _ | assumption | refine Below.drew ?_ | refine below_drewN ?_ _ | refine Below.setCell ?_ (by first | omega | (simp <;> omega)) _ | refine Below.alloc ?_ (by first | omega | (simp <;> omega)) _)))
/-! ### Words and numbers -/
theorem tfield1 (a b c : Value) (w : World) : (Instr.field 87 (.agg #[a, b, c]) 1).run Tryz.prog w = .ok b w := by kernel_rfl
theorem tfield2 (a b c : Value) (w : World) : (Instr.field 87 (.agg #[a, b, c]) 2).run Tryz.prog w = .ok c w := by kernel_rfl
theorem bodyPost_panic {P : Program} {fn : Func} {R : Ending → World → Prop} {a : Act} {w : World} {ch : List PanicEntry} (hd : a.defers = []) (hR : R (.panicked ch) w) : bodyPost P fn R (.panic ch) a w := ⟨hd, hR⟩
def faultV (e n : Int) : Value := .iface 60 (.agg #[.int .i64 e, .int .i64 n])
/-- the end of a call that panics with a fault -/
def Dies (e n : Int) (q : Option Nat) (w : World) (x : Ending) (w' : World) : Prop := x = .panicked [{ v := faultV e n, recovered := false }] ∧ Kept q w w'
theorem drop_isT {L : List Tok} {i : Nat} {t : List UInt8} (h : t ≠ []) : isT t (L.drop i) = decide ((nextT L i).t = t) := by
  unfold nextT
  split
  · next hi => rw [List.drop_eq_getElem_cons hi]; unfold isT; exact Bool.eq_iff_iff.2 (by simp [Tok.rt, -decide_eq_true_eq]; exact decide_eq_true_iff.symm)
  · next hi => rw [List.drop_of_length_le (by omega)]; simp [isT, Ne.symm h]
theorem isT_lt {L : List Tok} {i : Nat} {t : List UInt8} (h : isT t (L.drop i) = true) : i < L.length := by
  rcases Nat.lt_or_ge i L.length with hl | hl
  · exact hl
  · rw [List.drop_of_length_le hl] at h; cases h
set_option maxHeartbeats 400000 in
theorem refuse_any (hE : Env W0 v m L) (i : Nat) (w : World) (hS : St W0 v m L i w) : Calls Tryz.prog 45 #[.pointer (some ⟨W0.heap.size, 0, none⟩)] w (Dies 8 (lineAt L (L.drop i) : Nat) (some W0.heap.size) w) := by
  have hn := next_any hE i w hS
  rw [← nextT_line]
  generalize nextT L i = x at *
  unfold tokV at hn
  clear hE hS
  have hf := tfield1
  go_enter Tryz.func45, Tryz.ntmps45
  go_wp2_with fail
  refine hn.mono ?_
  rintro e w1 ⟨rfl, hb1⟩
  go_wp2_with fail
  exact bodyPost_panic rfl ⟨rfl, .of hb1⟩
/-- what is left of the state behind a word -/
def IsEnd (W0 : World) (v : Value) (m : Nat) (L : List Tok) (i : Nat) (b : Bool) (w : World) (e : Ending) (w' : World) : Prop :=
  e = .returned (.bool b) ∧ Kept (some W0.heap.size) w w' ∧ St W0 v m L (if b then i + 1 else i) w'
set_option maxHeartbeats 400000 in
theorem is_any (hE : Env W0 v m L) (t : List UInt8) (ht : t ≠ []) (i : Nat) (w : World) (hS : St W0 v m L i w) : Calls Tryz.prog 66 #[.pointer (some ⟨W0.heap.size, 0, none⟩), .string ⟨t.toArray⟩] w (IsEnd W0 v m L i (isT t (L.drop i)) w) := by
  have hn := next_any hE i w hS
  have hlt := isT_lt (L := L) (i := i) (t := t)
  rw [drop_isT ht] at hlt ⊢
  have hsh := hE.short
  generalize nextT L i = x at *
  obtain ⟨xk, xn, xt⟩ := x
  unfold tokV at hn
  simp only at *
  by_cases he : xt = t
  · subst he
    have hi := hlt (by simp)
    rw [show decide (xt = xt) = true by simp]
    have hw : IntKind.i64.wrap ((i : Int) + 1) = (i : Int) + 1 := IntWalk.i64_in _ (by omega)
    have hst : ∀ w1, Below w.heap.size w w1 → St W0 v m L (i + 1) (w1.setCell ⟨W0.heap.size, 2, none⟩ (.int .i64 ((i : Int) + 1))) := fun w1 h => (hS.below h).step hi
    have hth : ∀ w1, Below w.heap.size w w1 → w1.cell? ⟨W0.heap.size, 2, none⟩ = some (.int .i64 (i : Nat)) ∧ w1.frozen? ⟨W0.heap.size, 2, none⟩ = false := fun w1 h => ⟨(hS.below h).three.2.2.1, (hS.below h).three.2.2.2.2.2.1⟩
    clear hE hS hlt
    have hf := tfield2
    go_enter Tryz.func66, Tryz.ntmps66
    go_wp2_with fail
    refine hn.mono ?_
    rintro e w1 ⟨rfl, hb1⟩
    obtain ⟨k2, j2⟩ := hth w1 hb1
    go_wp2_with fail
    go_ret
    refine ⟨rfl, ?_, ?_⟩
    · exact Kept.set (p := W0.heap.size) (b := ⟨W0.heap.size, 2, none⟩) (Kept.of hb1) (.inl rfl) _
    · exact hst w1 hb1
  · rw [show decide (xt = t) = false by simpa using he]
    have hne : (xt == t) = false := by simpa using he
    clear hlt he
    have hst : ∀ w1, Below w.heap.size w w1 → St W0 v m L i w1 := fun w1 h => hS.below h
    clear hE hS
    have hf := tfield2
    go_enter Tryz.func66, Tryz.ntmps66
    go_wp2_with fail
    refine hn.mono ?_
    rintro e w1 ⟨rfl, hb1⟩
    go_wp2_with fail
    go_ret
    exact ⟨rfl, .of hb1, hst w1 hb1⟩
/-- a word is read, or the call panics -/
def NeedEnd (W0 : World) (v : Value) (m : Nat) (L : List Tok) (i : Nat) (t : List UInt8) (w : World) (e : Ending) (w' : World) : Prop :=
  (isT t (L.drop i) = true ∧ e = .returned (.tuple #[]) ∧ Kept (some W0.heap.size) w w' ∧ St W0 v m L (i + 1) w') ∨ (isT t (L.drop i) = false ∧ Dies 8 (lineAt L (L.drop i) : Nat) (some W0.heap.size) w e w')
set_option maxHeartbeats 400000 in
theorem need_any (hE : Env W0 v m L) (t : List UInt8) (ht : t ≠ []) (i : Nat) (w : World) (hS : St W0 v m L i w) : Calls Tryz.prog 53 #[.pointer (some ⟨W0.heap.size, 0, none⟩), .string ⟨t.toArray⟩] w (NeedEnd W0 v m L i t w) := by
  have hi := is_any hE t ht i w hS
  cases hb : isT t (L.drop i) with
  | true =>
    rw [hb] at hi
    have HB := Lib.hid hb
    clear hb
    go_enter Tryz.func53, Tryz.ntmps53
    go_wp2_with fail
    refine hi.mono ?_
    rintro e w1 ⟨rfl, hk, hs⟩
    go_wp2_with fail
    go_end0
    exact .inl ⟨HB.out, rfl, hk, hs⟩
  | false =>
    rw [hb] at hi
    have HB := Lib.hid hb
    clear hb
    have hr : ∀ w1, St W0 v m L i w1 → Calls Tryz.prog 45 #[.pointer (some ⟨W0.heap.size, 0, none⟩)] w1 (Dies 8 (lineAt L (L.drop i) : Nat) (some W0.heap.size) w1) := fun w1 h => refuse_any hE i w1 h
    go_enter Tryz.func53, Tryz.ntmps53
    go_wp2_with fail
    refine hi.mono ?_
    rintro e w1 ⟨rfl, hk, hs⟩
    go_wp2_with fail
    refine (hr w1 hs).mono ?_
    rintro e w2 ⟨rfl, hk2⟩
    go_wp2_with fail
    exact bodyPost_panic rfl (.inr ⟨HB.out, rfl, hk.trans hk2⟩)
end Go.Proofs.YthnlenbfknbmcaaGreatDoor
namespace Go.Proofs.YthnlenbfknbmcaaGreatDoor
open Go.RowKit Go.Shelf
set_option maxRecDepth 100000
variable {W0 : World} {v : Value} {m : Nat} {L : List Tok}

/-- a number is read, or the call panics -/
def NumEnd (W0 : World) (v : Value) (m : Nat) (L : List Tok) (i : Nat) (w : World) (e : Ending) (w' : World) : Prop :=
  (∃ x r, L.drop i = x :: r ∧ x.k = 2 ∧ e = .returned (.int .i64 (cents x.t : Nat)) ∧ Kept (some W0.heap.size) w w' ∧ St W0 v m L (i + 1) w') ∨ ((∀ x r, L.drop i = x :: r → x.k ≠ 2) ∧ Dies 8 (lineAt L (L.drop i) : Nat) (some W0.heap.size) w e w')
set_option maxHeartbeats 800000 in
theorem number_any (hE : Env W0 v m L) (i : Nat) (w : World) (hS : St W0 v m L i w) : Calls Tryz.prog 76 #[.pointer (some ⟨W0.heap.size, 0, none⟩)] w (NumEnd W0 v m L i w) := by
  have hn := next_any hE i w hS
  by_cases hi : i < L.length ∧ (nextT L i).k = 2
  · obtain ⟨hi, hk⟩ := hi
    have hd := List.drop_eq_getElem_cons hi
    have hx : nextT L i = (L[i]).rt := nextT_in hi
    have hnum := hE.nums L[i] (List.getElem_mem hi)
    rw [hx] at hn hk
    generalize L[i] = x at *
    obtain ⟨xk, xn, xt⟩ := x
    have hk2 : xk = 2 := by simp only [Tok.rt] at hk; omega
    subst hk2
    have hsh := hE.short
    have hw : IntKind.i64.wrap ((i : Int) + 1) = (i : Int) + 1 := IntWalk.i64_in _ (by omega)
    have hst : ∀ w1, Below w.heap.size w w1 → St W0 v m L (i + 1) (w1.setCell ⟨W0.heap.size, 2, none⟩ (.int .i64 ((i : Int) + 1))) := fun w1 h => (hS.below h).step hi
    have hth : ∀ w1, Below w.heap.size w w1 → w1.cell? ⟨W0.heap.size, 2, none⟩ = some (.int .i64 (i : Nat)) ∧ w1.frozen? ⟨W0.heap.size, 2, none⟩ = false ∧ W0.heap.size < w1.heap.size := fun w1 h => ⟨(hS.below h).three.2.2.1, (hS.below h).three.2.2.2.2.2⟩
    have hdg : ∀ w1, Below W0.heap.size W0 w1 → Calls Tryz.prog 97 #[.string ⟨xt.toArray⟩] w1 (Ret (.int .i64 (cents xt : Nat)) w1) := fun w1 h => pdigits_any xt (hnum (.inl rfl)) _ (hE.lay.below h)
    have hD := Lib.hid hd
    simp only [tokV, Tok.rt] at hn
    clear hE hS hx hk hnum hd
    go_enter Tryz.func76, Tryz.ntmps76
    go_wp2_with fail
    refine hn.mono ?_
    rintro e w1 ⟨rfl, hb1⟩
    have ho := Own.new w1 #[.int .i64 2, .int .i64 xn, .string ⟨xt.toArray⟩] 87
    have hb2 : Below w.heap.size w (w1.alloc (.cells #[.int .i64 2, .int .i64 xn, .string ⟨xt.toArray⟩] 87)) := hb1.alloc hb1.size _
    obtain ⟨k2, j2, z2⟩ := hth _ hb2
    go_wp2_with fail
    have hs1 := (hst w1 hb1).below (Below.alloc (Below.refl _ _) (Nat.le_refl _) (.cells #[.int .i64 2, .int .i64 xn, .string ⟨xt.toArray⟩] 87))
    have hk1 := (Kept.set (p := W0.heap.size) (b := ⟨W0.heap.size, 2, none⟩) (Kept.of hb1) (.inl rfl) (.int .i64 ((i : Int) + 1))).alloc (.cells #[.int .i64 2, .int .i64 xn, .string ⟨xt.toArray⟩] 87)
    refine (hdg _ hs1.base).mono ?_
    rintro e w2 ⟨rfl, hb3⟩
    go_wp2_with fail
    go_ret
    exact .inl ⟨_, _, hD.out, rfl, rfl, hk1.later hb3, hs1.below hb3⟩
  · have hne : (nextT L i).k ≠ 2 := by
      intro h
      rcases Nat.lt_or_ge i L.length with hl | hl
      · exact hi ⟨hl, h⟩
      · rw [show nextT L i = ⟨0, (lineAt L [] : Nat), []⟩ from dif_neg (by omega)] at h; cases h
    have hno : ∀ x r, L.drop i = x :: r → x.k ≠ 2 := by
      intro x r hd hk
      have hl : i < L.length := by
        rcases Nat.lt_or_ge i L.length with hl | hl
        · exact hl
        · rw [List.drop_of_length_le hl] at hd; cases hd
      rw [List.drop_eq_getElem_cons hl] at hd
      have e : L[i] = x := (List.cons.inj hd).1
      refine hi ⟨hl, ?_⟩
      rw [nextT_in hl, e]
      show (x.k : Int) = 2
      omega
    have HN := Lib.hid hno
    have hr : ∀ w1, Below w.heap.size w w1 → Calls Tryz.prog 45 #[.pointer (some ⟨W0.heap.size, 0, none⟩)] w1 (Dies 8 (lineAt L (L.drop i) : Nat) (some W0.heap.size) w1) := fun w1 h => refuse_any hE i w1 (hS.below h)
    generalize nextT L i = x at *
    obtain ⟨xk, xn, xt⟩ := x
    simp only [tokV] at hn
    have hb' : (xk != 2) = true := by rw [bne_iff_ne]; exact hne
    have hb2 : (xk == 2) = false := by rw [beq_eq_false_iff_ne]; exact hne
    clear hE hS hi hno hne
    go_enter Tryz.func76, Tryz.ntmps76
    go_wp2_with fail
    refine hn.mono ?_
    rintro e w1 ⟨rfl, hb1⟩
    go_wp2_with fail
    have hb4 : Below w.heap.size w (w1.alloc (.cells #[.int .i64 xk, .int .i64 xn, .string ⟨xt.toArray⟩] 87)) := hb1.alloc hb1.size _
    refine (hr _ hb4).mono ?_
    rintro e w2 ⟨rfl, hk2⟩
    go_wp2_with fail
    exact bodyPost_panic rfl (.inr ⟨HN.out, rfl, (Kept.of hb4).trans hk2⟩)

/-! ### Operators -/
def OpEnd (W0 : World) (v : Value) (m : Nat) (L : List Tok) (i : Nat) (o : Option Int) (w : World) (e : Ending) (w' : World) : Prop :=
  e = .returned (lookV o) ∧ Kept (some W0.heap.size) w w' ∧ St W0 v m L (if o.isSome then i + 1 else i) w'
set_option maxHeartbeats 1600000 in
theorem operator_any (hE : Env W0 v m L) (lv : Nat) (i : Nat) (w : World) (hS : St W0 v m L i w) : Calls Tryz.prog 103 #[.pointer (some ⟨W0.heap.size, 0, none⟩), .int .i64 lv] w (OpEnd W0 v m L i (findO opsO lv (nextT L i).t) w) := by
  have hn : ∀ g : Grow w, Calls Tryz.prog 52 #[.pointer (some ⟨W0.heap.size, 0, none⟩)] (up w g) (Ret (tokV (nextT L i)) (up w g)) := fun g => next_any hE i _ (hS.below (up_below w g))
  have hlk : ∀ g : Grow w, ∀ t : List UInt8, (Instr.lookup 88 (.map (some m)) (.agg #[.int .i64 lv, .string ⟨t.toArray⟩]) true).run Tryz.prog (up w g) = .ok (lookV (findO opsO lv t)) (up w g) := fun g t => by
    obtain ⟨l, hm, hl⟩ := hE.ops
    rw [← hl]
    exact look_opr (hm.below (hS.base.trans ((up_below w g).mono hS.base.size))) lv t
  obtain ⟨c0, c1, c2, f0, f1, f2, z⟩ := hS.three
  have hsh := hE.short
  generalize hx : nextT L i = x at *
  obtain ⟨xk, xn, xt⟩ := x
  simp only [tokV] at hn ⊢
  have hf := tfield2
  cases ho : findO opsO lv xt with
  | none =>
    have hlk2 : ∀ g : Grow w, (Instr.lookup 88 (.map (some m)) (.agg #[.int .i64 lv, .string ⟨xt.toArray⟩]) true).run Tryz.prog (up w g) = .ok (.tuple #[.int .i64 0, .bool false]) (up w g) := fun g => by rw [hlk g xt, ho]; rfl
    clear hlk ho
    go_enter Tryz.func103, Tryz.ntmps103
    go_wp2_with fail
    refine wp_region_up (by kernel_rfl) (by kernel_rfl) ?_
    repeat (go_big_quiet_step ((go_at_call 52; exact Ret.up (hn _))))
    refine wpQuiet_nil ?_
    rintro w1 ⟨gU, hU⟩
    have hb1 := up_below w gU
    rw [← hU] at hb1
    clear hU gU
    go_wp2_with fail
    go_ret2
    exact ⟨rfl, .of hb1, hS.below hb1⟩
  | some o =>
    have hlt : i < L.length := by
      rcases Nat.lt_or_ge i L.length with hl | hl
      · exact hl
      · rw [show nextT L i = ⟨0, (lineAt L [] : Nat), []⟩ from dif_neg (by omega)] at hx
        cases hx
        revert ho
        simp [findO, opsO, hitO]
    have hlk2 : ∀ g : Grow w, (Instr.lookup 88 (.map (some m)) (.agg #[.int .i64 lv, .string ⟨xt.toArray⟩]) true).run Tryz.prog (up w g) = .ok (.tuple #[.int .i64 o, .bool true]) (up w g) := fun g => by rw [hlk g xt, ho]; rfl
    have hw : IntKind.i64.wrap ((i : Int) + 1) = (i : Int) + 1 := IntWalk.i64_in _ (by omega)
    have hst : ∀ w1, Below w.heap.size w w1 → St W0 v m L (i + 1) (w1.setCell ⟨W0.heap.size, 2, none⟩ (.int .i64 ((i : Int) + 1))) := fun w1 h => (hS.below h).step hlt
    have hth : ∀ w1, Below w.heap.size w w1 → w1.cell? ⟨W0.heap.size, 2, none⟩ = some (.int .i64 (i : Nat)) ∧ w1.frozen? ⟨W0.heap.size, 2, none⟩ = false := fun w1 h => ⟨(hS.below h).three.2.2.1, (hS.below h).three.2.2.2.2.2.1⟩
    clear hlk ho
    go_enter Tryz.func103, Tryz.ntmps103
    go_wp2_with fail
    refine wp_region_up (by kernel_rfl) (by kernel_rfl) ?_
    repeat (go_big_quiet_step ((go_at_call 52; exact Ret.up (hn _))))
    refine wpQuiet_nil ?_
    rintro w1 ⟨gU, hU⟩
    have hb1 := up_below w gU
    rw [← hU] at hb1
    clear hU gU
    obtain ⟨k2, j2⟩ := hth w1 hb1
    go_wp2_with fail
    go_ret2
    refine ⟨rfl, ?_, hst w1 hb1⟩
    exact Kept.set (p := W0.heap.size) (b := ⟨W0.heap.size, 2, none⟩) (Kept.of hb1) (.inl rfl) _
end Go.Proofs.YthnlenbfknbmcaaGreatDoor
namespace Go.Proofs.YthnlenbfknbmcaaGreatDoor
open Go.RowKit Go.Shelf
set_option maxRecDepth 100000
variable {W0 : World} {v : Value} {m : Nat} {L : List Tok}

def exV (o n : Int) : Value := .agg #[.int .i64 o, .int .i64 n, .slice none 0 0]
set_option maxHeartbeats 400000 in
theorem pnode2_any (o : Int) (ad : Option Addr) (n cap : Nat) (w : World) : Calls Tryz.prog 68 #[.int .i64 o, .slice ad n cap] w (Ret (.agg #[.int .i64 o, .int .i64 0, .slice ad n cap]) w) := by
  go_enter Tryz.func68, Tryz.ntmps68
  go_wp2_with fail
  have ho := Own.new w #[.int .i64 0, .int .i64 0, .slice none 0 0] 24
  refine ret_cells (vs := [.int .i64 o, .int .i64 0, .slice ad n cap]) rfl Tryz.underlying24 rfl (by kernel_rfl) (B := w.heap.size) (by first | exact (((ho.setAt (i := 0) _ (by simp)).setAt (i := 1) _ (by simp)).setAt (i := 2) _ (by simp)) | exact Own.new _ _ _) rfl rfl ?_
  exact Ret.mk rfl (by (repeat (first | exact Below.refl _ _ | assumption | refine Below.drew ?_ | refine below_drewN ?_ _ | refine Below.setCell ?_ (by first | omega | (simp <;> omega)) _ | refine Below.alloc ?_ (by first | omega | (simp <;> omega)) _)))
theorem var_cases (t : List UInt8) : (t = [110, 105, 103, 104, 116, 115] ∧ varF t = 1) ∨ (t = [112, 101, 114, 115, 111, 110, 115] ∧ varF t = 2) ∨ (t = [110, 105, 103, 104, 116] ∧ varF t = 3) ∨ (t = [119, 101, 101, 107, 100, 97, 121] ∧ varF t = 4) ∨
    (t ≠ [110, 105, 103, 104, 116, 115] ∧ t ≠ [112, 101, 114, 115, 111, 110, 115] ∧ t ≠ [110, 105, 103, 104, 116] ∧ t ≠ [119, 101, 101, 107, 100, 97, 121] ∧ varF t = 0) := by
  unfold varF
  by_cases h1 : t = [110, 105, 103, 104, 116, 115]
  · exact .inl ⟨h1, by rw [if_pos h1]⟩
  by_cases h2 : t = [112, 101, 114, 115, 111, 110, 115]
  · exact .inr (.inl ⟨h2, by rw [if_neg h1, if_pos h2]⟩)
  by_cases h3 : t = [110, 105, 103, 104, 116]
  · exact .inr (.inr (.inl ⟨h3, by rw [if_neg h1, if_neg h2, if_pos h3]⟩))
  by_cases h4 : t = [119, 101, 101, 107, 100, 97, 121]
  · exact .inr (.inr (.inr (.inl ⟨h4, by rw [if_neg h1, if_neg h2, if_neg h3, if_pos h4]⟩)))
  exact .inr (.inr (.inr (.inr ⟨h1, h2, h3, h4, by rw [if_neg h1, if_neg h2, if_neg h3, if_neg h4]⟩)))
set_option maxHeartbeats 400000 in
theorem pvar_any (t : List UInt8) (w : World) : Calls Tryz.prog 154 #[.string ⟨t.toArray⟩] w (Same (.int .i64 (varF t : Nat)) w) := by
  rcases var_cases t with ⟨rfl, h⟩ | ⟨rfl, h⟩ | ⟨rfl, h⟩ | ⟨rfl, h⟩ | ⟨h1, h2, h3, h4, h⟩
  case inr.inr.inr.inr =>
    rw [h]
    have g1 : (t == [110, 105, 103, 104, 116, 115]) = false := by simpa using h1
    have g2 : (t == [112, 101, 114, 115, 111, 110, 115]) = false := by simpa using h2
    have g3 : (t == [110, 105, 103, 104, 116]) = false := by simpa using h3
    have g4 : (t == [119, 101, 101, 107, 100, 97, 121]) = false := by simpa using h4
    clear h h1 h2 h3 h4
    go_enter Tryz.func154, Tryz.ntmps154
    go_wp2_with fail
    go_ret
    exact Same.mk rfl rfl
  all_goals
    rw [h]
    clear h
    go_enter Tryz.func154, Tryz.ntmps154
    go_wp2_with fail
    go_ret
    exact Same.mk rfl rfl
theorem num_first {t : List UInt8} (h : numT t) : ∃ c r, t = c :: r ∧ digB c = true := by
  obtain ⟨h0, _, h | ⟨A, B, rfl, hA0, hA, _⟩⟩ := h
  · cases t with
    | nil => exact absurd rfl h0
    | cons c r => exact ⟨c, r, rfl, h c (by simp)⟩
  · cases A with
    | nil => exact absurd rfl hA0
    | cons c r => exact ⟨c, r ++ 46 :: B, rfl, hA c (by simp)⟩
theorem num_no {t : List UInt8} (h : numT t) : varF t = 0 ∧ t ≠ wMin ∧ t ≠ wMax ∧ t ≠ wOpen ∧ t ≠ wIf ∧ t ≠ wNot := by
  obtain ⟨c, r, rfl, hc⟩ := num_first h
  have key : ∀ (d : UInt8) (s : List UInt8), digB d = false → c :: r ≠ d :: s := by
    rintro d s hd e
    cases e
    rw [hc] at hd; cases hd
  refine ⟨?_, key _ _ (by decide), key _ _ (by decide), key _ _ (by decide), key _ _ (by decide), key _ _ (by decide)⟩
  unfold varF
  rw [if_neg (key _ _ (by decide)), if_neg (key _ _ (by decide)), if_neg (key _ _ (by decide)), if_neg (key _ _ (by decide))]
/-- the expression of a single token -/
def leafO (x : RT) : Int × Int := if x.k = 2 then (1, cents x.t) else if x.k = 3 then (2, cents x.t) else if varF x.t ≠ 0 then (3, varF x.t) else (0, 0)
set_option maxHeartbeats 1600000 in
theorem pleaf_any (x : RT) (hx : x.k = 2 ∨ x.k = 3 → numT x.t) (w : World) (hL : Lay w) : Calls Tryz.prog 149 #[tokV x] w (Ret (exV (leafO x).1 (leafO x).2) w) := by
  obtain ⟨xk, xn, xt⟩ := x
  have hdg : ∀ (w1 : World), Below w.heap.size w w1 → numT xt → Calls Tryz.prog 97 #[.string ⟨xt.toArray⟩] w1 (Ret (.int .i64 (cents xt : Nat)) w1) := fun w1 h hn => pdigits_any xt hn w1 (hL.below h)
  have hvr := pvar_any xt
  simp only at hx
  unfold tokV exV leafO
  simp only
  by_cases h2 : xk = 2
  · subst h2
    rw [if_pos rfl]
    have hn := hx (.inl rfl)
    generalize ((cents xt : Nat) : Int) = c at *
    have hb0 : Below w.heap.size w ((w.alloc (.cells #[.int .i64 2, .int .i64 xn, .string ⟨xt.toArray⟩] 87)).alloc (.cells #[.int .i64 0, .int .i64 0, .slice none 0 0] 24)) := by (repeat (first | exact Below.refl _ _ | assumption | refine Below.drew ?_ | refine below_drewN ?_ _ | refine Below.setCell ?_ (by first | omega | (simp <;> omega)) _ | refine Below.alloc ?_ (by first | omega | (simp <;> omega)) _))
    have ho := Own.at (w.alloc (.cells #[.int .i64 2, .int .i64 xn, .string ⟨xt.toArray⟩] 87)) #[.int .i64 0, .int .i64 0, .slice none 0 0] 24 (w.heap.size + 1) (by simp)
    have hd := hdg _ hb0 hn
    have hlt : w.heap.size + 1 < ((w.alloc (.cells #[.int .i64 2, .int .i64 xn, .string ⟨xt.toArray⟩] 87)).alloc (.cells #[.int .i64 0, .int .i64 0, .slice none 0 0] 24)).heap.size := by simp
    clear hdg hvr hx
    go_enter Tryz.func149, Tryz.ntmps149
    go_wp2_with fail
    refine hd.mono ?_
    rintro e w1 ⟨rfl, hb1⟩
    have hb2 := hb0.trans (hb1.mono (by simp; omega))
    replace ho := ho.below hb1
    obtain ⟨e0, e1, e2, g0, g1, g2, z⟩ := ho.three
    clear hb1 hd hb0
    go_wp2_with fail
    refine ret_cells (vs := [.int .i64 1, .int .i64 c, .slice none 0 0]) rfl Tryz.underlying24 rfl (by kernel_rfl) (B := w.heap.size + 1) (((ho.setAt (i := 0) _ (by simp)).setAt (i := 1) _ (by simp)).setAt (i := 2) _ (by simp)) rfl rfl ?_
    exact Ret.mk rfl (by (repeat (first | exact Below.refl _ _ | assumption | refine Below.drew ?_ | refine below_drewN ?_ _ | refine Below.setCell ?_ (by first | omega | (simp <;> omega)) _ | refine Below.alloc ?_ (by first | omega | (simp <;> omega)) _)))
  rw [if_neg h2]
  have g2 : (xk == 2) = false := by rw [beq_eq_false_iff_ne]; exact h2
  by_cases h3 : xk = 3
  · subst h3
    rw [if_pos rfl]
    have hn := hx (.inr rfl)
    generalize ((cents xt : Nat) : Int) = c at *
    have hb0 : Below w.heap.size w ((w.alloc (.cells #[.int .i64 3, .int .i64 xn, .string ⟨xt.toArray⟩] 87)).alloc (.cells #[.int .i64 0, .int .i64 0, .slice none 0 0] 24)) := by (repeat (first | exact Below.refl _ _ | assumption | refine Below.drew ?_ | refine below_drewN ?_ _ | refine Below.setCell ?_ (by first | omega | (simp <;> omega)) _ | refine Below.alloc ?_ (by first | omega | (simp <;> omega)) _))
    have ho := Own.at (w.alloc (.cells #[.int .i64 3, .int .i64 xn, .string ⟨xt.toArray⟩] 87)) #[.int .i64 0, .int .i64 0, .slice none 0 0] 24 (w.heap.size + 1) (by simp)
    have hd := hdg _ hb0 hn
    have hlt : w.heap.size + 1 < ((w.alloc (.cells #[.int .i64 3, .int .i64 xn, .string ⟨xt.toArray⟩] 87)).alloc (.cells #[.int .i64 0, .int .i64 0, .slice none 0 0] 24)).heap.size := by simp
    clear hdg hvr hx
    go_enter Tryz.func149, Tryz.ntmps149
    go_wp2_with fail
    refine hd.mono ?_
    rintro e w1 ⟨rfl, hb1⟩
    have hb2 := hb0.trans (hb1.mono (by simp; omega))
    replace ho := ho.below hb1
    obtain ⟨e0, e1, e2, g0, g1, g2, z⟩ := ho.three
    clear hb1 hd hb0
    go_wp2_with fail
    refine ret_cells (vs := [.int .i64 2, .int .i64 c, .slice none 0 0]) rfl Tryz.underlying24 rfl (by kernel_rfl) (B := w.heap.size + 1) (((ho.setAt (i := 0) _ (by simp)).setAt (i := 1) _ (by simp)).setAt (i := 2) _ (by simp)) rfl rfl ?_
    exact Ret.mk rfl (by (repeat (first | exact Below.refl _ _ | assumption | refine Below.drew ?_ | refine below_drewN ?_ _ | refine Below.setCell ?_ (by first | omega | (simp <;> omega)) _ | refine Below.alloc ?_ (by first | omega | (simp <;> omega)) _)))
  rw [if_neg h3]
  have g3 : (xk == 3) = false := by rw [beq_eq_false_iff_ne]; exact h3
  generalize varF xt = u at *
  clear hdg hx h2 h3
  by_cases hu : u = 0
  · subst hu
    simp only [ne_eq, not_true_eq_false, if_false]
    go_enter Tryz.func149, Tryz.ntmps149
    go_wp2_with fail
    refine (hvr _).mono ?_
    rintro e w1 ⟨rfl, rfl⟩
    go_wp2_with fail
    refine ret_cells (vs := [.int .i64 0, .int .i64 0, .slice none 0 0]) rfl Tryz.underlying24 rfl (by kernel_rfl) (B := w.heap.size + 1) (Own.at _ _ _ _ (by simp)) rfl rfl ?_
    exact Ret.mk rfl (by (repeat (first | exact Below.refl _ _ | assumption | refine Below.drew ?_ | refine below_drewN ?_ _ | refine Below.setCell ?_ (by first | omega | (simp <;> omega)) _ | refine Below.alloc ?_ (by first | omega | (simp <;> omega)) _)))
  · rw [if_pos hu]
    have hp : decide (0 < u) = true := by simp; omega
    clear hu
    go_enter Tryz.func149, Tryz.ntmps149
    go_wp2_with fail
    refine (hvr _).mono ?_
    rintro e w1 ⟨rfl, rfl⟩
    go_wp2_with fail
    refine ret_cells (vs := [.int .i64 3, .int .i64 (u : Int), .slice none 0 0]) rfl Tryz.underlying24 rfl (by kernel_rfl) (B := w.heap.size + 1) (Own.at _ _ _ _ (by simp)) rfl rfl ?_
    exact Ret.mk rfl (by (repeat (first | exact Below.refl _ _ | assumption | refine Below.drew ?_ | refine below_drewN ?_ _ | refine Below.setCell ?_ (by first | omega | (simp <;> omega)) _ | refine Below.alloc ?_ (by first | omega | (simp <;> omega)) _)))
end Go.Proofs.YthnlenbfknbmcaaGreatDoor
