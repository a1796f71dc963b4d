/-
  Trees of expressions in memory; worlds that keep all but one block (the parser's own).
-/
import Derived.Test.YtbkcpcjdpfndpaaParPlain
import Derived.Test.YtbkcpcjdpfndpaaKitSet
import Derived.Test.YtbkcpcjdpfndpaaOwn3
import Derived.Shelf.Lay
namespace Go.Proofs.Ytbkcpcjdpfndpaa
open Go.RowKit Go.Shelf
set_option maxRecDepth 100000

/-- all is as it was, but for what lies in block q -/
structure Kept (q : Option Nat) (w w' : World) : Prop where
  os : w'.os = w.os
  tape : w'.tape = w.tape
  output : w'.output = w.output
  size : w.heap.size ≤ w'.heap.size
  block : ∀ k, k < w.heap.size → q ≠ some k → w'.heap[k]? = w.heap[k]?
theorem Kept.refl (q : Option Nat) (w : World) : Kept q w w := ⟨rfl, rfl, rfl, Nat.le_refl _, fun _ _ _ => rfl⟩
theorem Kept.of {q : Option Nat} {w w' : World} (h : Below w.heap.size w w') : Kept q w w' := ⟨h.os, h.tape, h.output, h.size, fun k hk _ => h.block k hk⟩
theorem Kept.trans {q : Option Nat} {a b c : World} (h : Kept q a b) (k : Kept q b c) : Kept q a c :=
  ⟨k.os.trans h.os, k.tape.trans h.tape, k.output.trans h.output, Nat.le_trans h.size k.size, fun i hi hq => (k.block i (Nat.lt_of_lt_of_le hi h.size) hq).trans (h.block i hi hq)⟩
theorem Kept.drew {q : Option Nat} {a w : World} (h : Kept q a w) : Kept q a w.drew := ⟨h.os, h.tape, h.output, h.size, h.block⟩
theorem Kept.alloc {q : Option Nat} {a w : World} (h : Kept q a w) (o : Obj) : Kept q a (w.alloc o) := h.trans (.of (Below.alloc (Below.refl _ _) (Nat.le_refl _) o))
theorem Kept.set {p : Nat} {a w : World} (h : Kept (some p) a w) {b : Addr} (hb : b.block = p ∨ a.heap.size ≤ b.block) (u : Value) : Kept (some p) a (w.setCell b u) := by
  refine ⟨h.os, h.tape, h.output, by have := h.size; simpa [World.setCell] using this, fun k hk hq => (Below.heap_setCell _ _ _ _ ?_).trans (h.block k hk hq)⟩
  rcases hb with hb | hb
  · rintro rfl; exact hq (by rw [hb])
  · omega
theorem Kept.later {q : Option Nat} {a w w' : World} (h : Kept q a w) (hb : Below w.heap.size w w') : Kept q a w' := h.trans (.of hb)
theorem Kept.below {p B : Nat} {w w' : World} (h : Kept (some p) w w') (hp : B ≤ p) (hw : B ≤ w.heap.size) : Below B w w' :=
  ⟨h.os, h.tape, h.output, h.size, fun k hk => h.block k (by omega) (by simp; omega)⟩
theorem Kept.out {w w' : World} (h : Kept none w w') : Below w.heap.size w w' := ⟨h.os, h.tape, h.output, h.size, fun k hk => h.block k hk (by simp)⟩
theorem Kept.cell {q : Option Nat} {w w' : World} (h : Kept q w w') {a : Addr} (ha : a.block < w.heap.size) (hq : q ≠ some a.block) : w'.cell? a = w.cell? a := World.cell?_of_block (w := w) (h.block a.block ha hq)
theorem Kept.fro {q : Option Nat} {w w' : World} (h : Kept q w w') {a : Addr} (ha : a.block < w.heap.size) (hq : q ≠ some a.block) : w'.frozen? a = w.frozen? a := World.frozen?_of_block (w := w) (h.block a.block ha hq)
theorem Kept.own {q : Option Nat} {w w' : World} (h : Kept q w w') {B : Nat} {xs : List Value} (ho : Own w B xs) (hq : q ≠ some B) : Own w' B xs :=
  ⟨fun i v hi => (h.cell (a := ⟨B, i, none⟩) ho.lt hq).trans (ho.cell i v hi), fun i v hi => (h.fro (a := ⟨B, i, none⟩) ho.lt hq).trans (ho.fro i v hi), Nat.lt_of_lt_of_le ho.lt h.size⟩

theorem tblk_add (a : Addr) (m : Nat) : (a.add m).block = a.block := by unfold Addr.add; split <;> rfl

/-! ### Trees -/
mutual
/-- v reads e, and lies in no cell of a block that Q bars -/
def Tree (Q : Nat → Prop) (w : World) : Xp → Value → Prop
  | .mk o n kids, v => ∃ ad cap, v = .agg #[.int .i64 o, .int .i64 n, .slice ad kids.length cap] ∧ kids.length ≤ min cap 9223372036854775807 ∧ Trees Q w kids ad 0
/-- the places from i on read so -/
def Trees (Q : Nat → Prop) (w : World) : List Xp → Option Addr → Nat → Prop
  | [], _, _ => True
  | e :: r, ad, i => (∃ a v0 v1 v2, ad = some a ∧ a.block < w.heap.size ∧ ¬ Q a.block ∧ w.cell? (a.add (i * 3)) = some v0 ∧ w.cell? (a.add (i * 3 + 1)) = some v1 ∧ w.cell? (a.add (i * 3 + 2)) = some v2 ∧ Tree Q w e (.agg #[v0, v1, v2])) ∧ Trees Q w r ad (i + 1)
end
theorem tree_mk {Q : Nat → Prop} {w : World} {o n : Int} {kids : List Xp} {v : Value} : Tree Q w (.mk o n kids) v ↔ ∃ ad cap, v = .agg #[.int .i64 o, .int .i64 n, .slice ad kids.length cap] ∧ kids.length ≤ min cap 9223372036854775807 ∧ Trees Q w kids ad 0 := by simp only [Tree]
theorem trees_cons {Q : Nat → Prop} {w : World} {e : Xp} {r : List Xp} {ad : Option Addr} {i : Nat} : Trees Q w (e :: r) ad i ↔ (∃ a v0 v1 v2, ad = some a ∧ a.block < w.heap.size ∧ ¬ Q a.block ∧ w.cell? (a.add (i * 3)) = some v0 ∧ w.cell? (a.add (i * 3 + 1)) = some v1 ∧ w.cell? (a.add (i * 3 + 2)) = some v2 ∧ Tree Q w e (.agg #[v0, v1, v2])) ∧ Trees Q w r ad (i + 1) := by simp only [Trees]
mutual
/-- in another world, with other bars -/
theorem Tree.go {Q R : Nat → Prop} {w w' : World} (hz : w.heap.size ≤ w'.heap.size) (h : ∀ k, k < w.heap.size → ¬ Q k → w'.heap[k]? = w.heap[k]? ∧ ¬ R k) : ∀ {e : Xp} {v : Value}, Tree Q w e v → Tree R w' e v
  | .mk o n kids, v, ht => by
    obtain ⟨ad, cap, hv, hs, hk⟩ := tree_mk.1 ht
    exact tree_mk.2 ⟨ad, cap, hv, hs, Trees.go hz h hk⟩
theorem Trees.go {Q R : Nat → Prop} {w w' : World} (hz : w.heap.size ≤ w'.heap.size) (h : ∀ k, k < w.heap.size → ¬ Q k → w'.heap[k]? = w.heap[k]? ∧ ¬ R k) : ∀ {l : List Xp} {ad : Option Addr} {i : Nat}, Trees Q w l ad i → Trees R w' l ad i
  | [], _, _, _ => by simp only [Trees]
  | e :: r, ad, i, ht => by
    obtain ⟨⟨a, v0, v1, v2, h0, h1, h2, h3, h4, h5, h6⟩, hr⟩ := trees_cons.1 ht
    have hc : ∀ m, w'.cell? (a.add m) = w.cell? (a.add m) := fun m => World.cell?_of_block (w := w) (by rw [tblk_add]; exact (h a.block h1 h2).1)
    exact trees_cons.2 ⟨⟨a, v0, v1, v2, h0, Nat.lt_of_lt_of_le h1 hz, (h a.block h1 h2).2, (hc _).trans h3, (hc _).trans h4, (hc _).trans h5, Tree.go hz h h6⟩, Trees.go hz h hr⟩
end
theorem Tree.below {Q : Nat → Prop} {w w' : World} {e : Xp} {v : Value} (ht : Tree Q w e v) (h : Below w.heap.size w w') : Tree Q w' e v := Tree.go h.size (fun k hk hq => ⟨h.block k hk, hq⟩) ht
theorem Tree.alloc {Q : Nat → Prop} {w : World} {e : Xp} {v : Value} (ht : Tree Q w e v) (o : Obj) : Tree Q (w.alloc o) e v := ht.below (Below.alloc (Below.refl _ _) (Nat.le_refl _) o)
theorem Tree.keep {Q : Nat → Prop} {p : Nat} {w w' : World} {e : Xp} {v : Value} (ht : Tree Q w e v) (h : Kept (some p) w w') (hq : Q p) : Tree Q w' e v := Tree.go h.size (fun k hk hk2 => ⟨h.block k hk (by rintro e; cases e; exact hk2 hq), hk2⟩) ht
theorem Tree.set {Q : Nat → Prop} {w : World} {e : Xp} {v : Value} (ht : Tree Q w e v) {b : Addr} (u : Value) (hq : Q b.block) : Tree Q (w.setCell b u) e v :=
  Tree.go (by simp [World.setCell]) (fun k _ hk2 => ⟨Below.heap_setCell _ _ _ _ (by rintro rfl; exact hk2 hq), hk2⟩) ht
theorem Tree.bars {Q R : Nat → Prop} {w : World} {e : Xp} {v : Value} (ht : Tree Q w e v) (h : ∀ k, k < w.heap.size → R k → Q k) : Tree R w e v := Tree.go (Nat.le_refl _) (fun k hk hk2 => ⟨rfl, fun hr => hk2 (h k hk hr)⟩) ht
theorem Tree.drew {Q : Nat → Prop} {w : World} {e : Xp} {v : Value} (ht : Tree Q w e v) : Tree Q w.drew e v := ht.below (Below.refl _ _).drew
/-- the blocks that were there before -/
abbrev Lo (n : Nat) : Nat → Prop := fun k => k < n
theorem Tree.lo {a b : Nat} {w : World} {e : Xp} {v : Value} (ht : Tree (Lo a) w e v) (h : b ≤ a) : Tree (Lo b) w e v := ht.bars fun _ _ hk => Nat.lt_of_lt_of_le hk h
theorem Tree.free {Q : Nat → Prop} {w : World} {e : Xp} {v : Value} (ht : Tree Q w e v) : Tree (fun _ => False) w e v := ht.bars fun _ _ h => h.elim
def Xp.o : Xp → Int | .mk o _ _ => o
def Xp.n : Xp → Int | .mk _ n _ => n
def Xp.ks : Xp → List Xp | .mk _ _ l => l
theorem Tree.shape {Q : Nat → Prop} {w : World} {e : Xp} {v : Value} (h : Tree Q w e v) : ∃ ad cap, v = .agg #[.int .i64 e.o, .int .i64 e.n, .slice ad e.ks.length cap] ∧ e.ks.length ≤ min cap 9223372036854775807 ∧ Trees Q w e.ks ad 0 := by
  cases e; exact tree_mk.1 h
theorem tree_leaf (Q : Nat → Prop) (w : World) (o n : Int) (ad : Option Addr) (cap : Nat) : Tree Q w (leafE o n) (.agg #[.int .i64 o, .int .i64 n, .slice ad 0 cap]) := tree_mk.2 ⟨ad, cap, rfl, Nat.zero_le _, by simp only [Trees]⟩
/-- the kid at a place -/
theorem Trees.at {Q : Nat → Prop} {w : World} : ∀ {l : List Xp} {ad : Option Addr} {i : Nat}, Trees Q w l ad i → ∀ (k : Nat) (hk : k < l.length), ∃ a v0 v1 v2, ad = some a ∧ a.block < w.heap.size ∧ ¬ Q a.block ∧ w.cell? (a.add ((i + k) * 3)) = some v0 ∧ w.cell? (a.add ((i + k) * 3 + 1)) = some v1 ∧
    w.cell? (a.add ((i + k) * 3 + 2)) = some v2 ∧ Tree Q w l[k] (.agg #[v0, v1, v2])
  | e :: r, ad, i, h, 0, _ => (trees_cons.1 h).1
  | e :: r, ad, i, h, k + 1, hk => by
    have := Trees.at (trees_cons.1 h).2 k (by simpa using hk)
    rw [show i + 1 + k = i + (k + 1) by omega] at this
    exact this
theorem trees_of {Q : Nat → Prop} {w : World} {a : Addr} (h1 : a.block < w.heap.size) (h2 : ¬ Q a.block) : ∀ {l : List Xp} {i : Nat}, (∀ (k : Nat) (hk : k < l.length), ∃ v0 v1 v2, w.cell? (a.add ((i + k) * 3)) = some v0 ∧ w.cell? (a.add ((i + k) * 3 + 1)) = some v1 ∧
    w.cell? (a.add ((i + k) * 3 + 2)) = some v2 ∧ Tree Q w l[k] (.agg #[v0, v1, v2])) → Trees Q w l (some a) i
  | [], _, _ => by simp only [Trees]
  | e :: r, i, h => by
    refine trees_cons.2 ⟨?_, trees_of h1 h2 fun k hk => ?_⟩
    · obtain ⟨v0, v1, v2, h3, h4, h5, h6⟩ := h 0 (by simp)
      exact ⟨a, v0, v1, v2, rfl, h1, h2, h3, h4, h5, h6⟩
    · have := h (k + 1) (by simpa using hk)
      rw [show i + 1 + k = i + (k + 1) by omega]
      exact this
/-- a node over a new block of the call's own -/
theorem tree_node {Q : Nat → Prop} {w : World} {B : Nat} {o : Int} {l : List Xp} {vs : List (Value × Value × Value)} (hq : ¬ Q B) (h : Own w B (vs.flatMap fun x => [x.1, x.2.1, x.2.2])) (hl : vs.length = l.length) (hs : l.length ≤ 9223372036854775807)
    (ht : ∀ (k : Nat) (h1 : k < l.length) (h2 : k < vs.length), Tree Q w l[k] (.agg #[vs[k].1, vs[k].2.1, vs[k].2.2])) (cap : Nat) (hc : l.length ≤ cap) : Tree Q w (nodeE o l) (.agg #[.int .i64 o, .int .i64 0, .slice (some ⟨B, 0, none⟩) l.length cap]) := by
  have ha : ∀ m, (⟨B, 0, none⟩ : Addr).add m = ⟨B, m, none⟩ := fun m => by simp [Addr.add]; exact fun e => e.symm
  have flat : ∀ (vs : List (Value × Value × Value)) (k : Nat) (hk : k < vs.length), (vs.flatMap fun x => [x.1, x.2.1, x.2.2])[k * 3]? = some vs[k].1 ∧ (vs.flatMap fun x => [x.1, x.2.1, x.2.2])[k * 3 + 1]? = some vs[k].2.1 ∧ (vs.flatMap fun x => [x.1, x.2.1, x.2.2])[k * 3 + 2]? = some vs[k].2.2 := by
    intro vs
    induction vs with
    | nil => intro k hk; simp at hk
    | cons x d ih =>
      intro k hk
      cases k with
      | zero => simp
      | succ k =>
        obtain ⟨g0, g1, g2⟩ := ih k (by simpa using hk)
        have key : ∀ j, (List.flatMap (fun x : Value × Value × Value => [x.1, x.2.1, x.2.2]) (x :: d))[(k + 1) * 3 + j]? = (List.flatMap (fun x : Value × Value × Value => [x.1, x.2.1, x.2.2]) d)[k * 3 + j]? := fun j => by
          rw [List.flatMap_cons, List.getElem?_append_right (by simp; omega)]
          congr 1
          simp; omega
        exact ⟨(key 0).trans g0, (key 1).trans g1, (key 2).trans g2⟩
  refine tree_mk.2 ⟨_, cap, rfl, by omega, trees_of h.lt hq fun k hk => ?_⟩
  obtain ⟨g0, g1, g2⟩ := flat vs k (by omega)
  simp only [Nat.zero_add, ha]
  exact ⟨_, _, _, h.cell _ _ g0, h.cell _ _ g1, h.cell _ _ g2, ht k hk (by omega)⟩
/-- a node of two -/
theorem tree_two {Q : Nat → Prop} {w : World} {B : Nat} {o : Int} {x y : Xp} {a0 a1 a2 b0 b1 b2 : Value} (hq : ¬ Q B) (h : Own w B [a0, a1, a2, b0, b1, b2]) (hx : Tree Q w x (.agg #[a0, a1, a2])) (hy : Tree Q w y (.agg #[b0, b1, b2])) (cap : Nat) (hc : 2 ≤ cap := by decide) :
    Tree Q w (nodeE o [x, y]) (.agg #[.int .i64 o, .int .i64 0, .slice (some ⟨B, 0, none⟩) 2 cap]) :=
  tree_node (vs := [(a0, a1, a2), (b0, b1, b2)]) hq h rfl (by simp) (fun k h1 h2 => by
    match k, h1 with
    | 0, _ => exact hx
    | 1, _ => exact hy) cap hc
theorem tree_one {Q : Nat → Prop} {w : World} {B : Nat} {o : Int} {x : Xp} {a0 a1 a2 : Value} (hq : ¬ Q B) (h : Own w B [a0, a1, a2]) (hx : Tree Q w x (.agg #[a0, a1, a2])) (cap : Nat) (hc : 1 ≤ cap := by decide) :
    Tree Q w (nodeE o [x]) (.agg #[.int .i64 o, .int .i64 0, .slice (some ⟨B, 0, none⟩) 1 cap]) :=
  tree_node (vs := [(a0, a1, a2)]) hq h rfl (by simp) (fun k h1 h2 => by
    match k, h1 with
    | 0, _ => exact hx) cap hc
theorem tree_three {Q : Nat → Prop} {w : World} {B : Nat} {o : Int} {x y z : Xp} {a0 a1 a2 b0 b1 b2 c0 c1 c2 : Value} (hq : ¬ Q B) (h : Own w B [a0, a1, a2, b0, b1, b2, c0, c1, c2]) (hx : Tree Q w x (.agg #[a0, a1, a2])) (hy : Tree Q w y (.agg #[b0, b1, b2])) (hz : Tree Q w z (.agg #[c0, c1, c2])) (cap : Nat) (hc : 3 ≤ cap := by decide) :
    Tree Q w (nodeE o [x, y, z]) (.agg #[.int .i64 o, .int .i64 0, .slice (some ⟨B, 0, none⟩) 3 cap]) :=
  tree_node (vs := [(a0, a1, a2), (b0, b1, b2), (c0, c1, c2)]) hq h rfl (by simp) (fun k h1 h2 => by
    match k, h1 with
    | 0, _ => exact hx
    | 1, _ => exact hy
    | 2, _ => exact hz) cap hc
theorem Xp.ind {P : Xp → Prop} (h : ∀ o n kids, (∀ k ∈ kids, P k) → P (.mk o n kids)) : ∀ e, P e
  | .mk o n kids => h o n kids (fun k _ => Xp.ind h k)
termination_by e => SizeOf.sizeOf e
decreasing_by
  have := List.sizeOf_lt_of_mem ‹_ ∈ _›
  simp
  omega
/-- the cells of a kid, as a load reads them -/
theorem Trees.reads {Q : Nat → Prop} {w : World} {l : List Xp} {ad : Option Addr} (h : Trees Q w l ad 0) (k : Nat) (hk : k < l.length) : ∃ a ad2 cap2, ad = some a ∧ w.cell? (a.add (k * 3)) = some (.int .i64 (l[k]).o) ∧ w.cell? { block := (a.add (k * 3)).block, off := (a.add (k * 3)).off + 1 } = some (.int .i64 (l[k]).n) ∧
    w.cell? { block := (a.add (k * 3)).block, off := (a.add (k * 3)).off + 2 } = some (.slice ad2 (l[k]).ks.length cap2) ∧ Tree Q w l[k] (.agg #[.int .i64 (l[k]).o, .int .i64 (l[k]).n, .slice ad2 (l[k]).ks.length cap2]) ∧ (a.add (k * 3)).block < w.heap.size := by
  obtain ⟨a, v0, v1, v2, h0, h1, _, h3, h4, h5, ht⟩ := h.at k hk
  obtain ⟨ad2, cap, hv, _⟩ := ht.shape
  have e0 : v0 = .int .i64 (l[k]).o := by simp at hv; exact hv.1
  have e1 : v1 = .int .i64 (l[k]).n := by simp at hv; exact hv.2.1
  have e2 : v2 = .slice ad2 (l[k]).ks.length cap := by simp at hv; exact hv.2.2
  subst e0 e1 e2
  rw [Nat.zero_add] at h3 h4 h5
  have s1 : ∀ m, a.add (m + 1) = { block := (a.add m).block, off := (a.add m).off + 1 } := fun m => by
    unfold Addr.add; split <;> split <;> simp_all <;> omega
  have s2 : ∀ m, a.add (m + 2) = { block := (a.add m).block, off := (a.add m).off + 2 } := fun m => by
    unfold Addr.add; split <;> split <;> simp_all <;> omega
  exact ⟨a, ad2, cap, h0, h3, by rw [← s1]; exact h4, by rw [← s2]; exact h5, ht, by rw [tblk_add]; exact h1⟩
theorem Own.setAt {w : World} {B i : Nat} {xs : List Value} (h : Own w B xs) (v : Value) (hi : i < xs.length) : Own (w.setCell ⟨B, i, none⟩ v) B (xs.set i v) := by
  refine ⟨fun j x hj => ?_, fun j x hj => ?_, by simpa using h.lt⟩
  · by_cases e : i = j
    · subst e
      rw [List.getElem?_set_self hi] at hj
      cases hj
      exact World.cell?_setCell_same _ _ _ (h.cell i xs[i] (List.getElem?_eq_getElem hi))
    · rw [List.getElem?_set_ne e] at hj
      rw [World.cell?_setCell_other _ _ _ _ (by simp)]
      exact h.cell j x hj
  · have hj' : j < xs.length := by
      have := (List.getElem?_eq_some_iff.1 hj).1
      simpa using this
    rw [World.frozen?_setCell]
    exact h.fro j xs[j] (List.getElem?_eq_getElem hj')
theorem xadd_zero0 (B i : Nat) : (⟨B, 0, none⟩ : Addr).add i = ⟨B, i, none⟩ := by simp [Addr.add]; exact fun e => e.symm
theorem results_cell_at {P : Program} {fn : Func} {p : Tmp} {ty : TypeId} (h : fn.results = #[.cell p ty]) (tmps : Array Value) (w : World) (B : Nat) (vs : List Value) {d : TypeDesc}
    (hp : tmps.getD p undef = .pointer (some ⟨B, 0, none⟩)) (hc : ∀ j v, vs[j]? = some v → w.cell? ⟨B, j, none⟩ = some v)
    (hu : P.underlying ty = some d) (hd : (match d with | .struct _ | .array _ _ => true | _ => false) = true) (hi : (P.info? ty).map (·.size) = some vs.length) :
    (results fn tmps).run P w = .ok (.agg vs.toArray) w := by
  have hp' : tmps[p]?.getD undef = .pointer (some ⟨B, 0, none⟩) := by simpa using hp
  have hl : (loadCells ⟨B, 0, none⟩ vs.length).run P w = .ok vs.toArray w :=
    run_loadCells_list (P := P) w ⟨B, 0, none⟩ vs (fun j v hv => by rw [xadd_zero0]; exact hc j v hv)
  have hv : (loadVar ty ⟨B, 0, none⟩).run P w = .ok (.agg vs.toArray) w := by
    cases hq : P.info? ty with
    | none => simp [hq] at hi
    | some i =>
      have hs : i.size = vs.length := by simpa [hq] using hi
      have hagg : (isAgg ty).run P w = .ok true w := by
        unfold isAgg
        rw [Sem.run_bind, run_underlying hu w]
        cases d <;> simp_all
      simp [loadVar, Sem.run_bind, hagg, sizeOf, typeInfo, hq, hs, hl]
  simp [results, h, hp', asAddr, hv]

theorem ret_cells {P : Program} {fn : Func} {p : Tmp} {ty : TypeId} {d : TypeDesc} {vs : List Value} (h : fn.results = #[.cell p ty]) (hu : P.underlying ty = some d) (hd : (match d with | .struct _ | .array _ _ => true | _ => false) = true) (hi : (P.info? ty).map (·.size) = some vs.length)
    {B : Nat} {a : Act} {w : World} (ho : Own w B vs) (hp : a.tmps.getD p undef = .pointer (some ⟨B, 0, none⟩)) (hdef : a.defers = []) {R : Ending → World → Prop} (hR : R (.returned (.agg vs.toArray)) w) : bodyPost P fn R Exit.ret a w :=
  bodyPost_ret (results_cell_at h _ _ B vs hp ho.cell hu hd hi) hdef hR
end Go.Proofs.Ytbkcpcjdpfndpaa
