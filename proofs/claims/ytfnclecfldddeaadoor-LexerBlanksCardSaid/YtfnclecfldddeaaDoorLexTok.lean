/-
  A slice of tokens: what it reads; one of the call's own.
-/
import Derived.Test.YtfnclecfldddeaaDoorLexIter
namespace Go.Proofs.YtfnclecfldddeaaDoor
open Go.RowKit Go.Shelf
set_option maxRecDepth 100000

/-- a token as it comes: any Kind, any Line -/
structure RT where
  k : Int
  n : Int
  t : List UInt8
  deriving DecidableEq
def Tok.rt (x : Tok) : RT := ⟨x.k, x.n, x.t⟩
def rtC (x : RT) : List Value := [.int .i64 x.k, .int .i64 x.n, .string ⟨x.t.toArray⟩]
def rtV (x : RT) : Value := .agg #[.int .i64 x.k, .int .i64 x.n, .string ⟨x.t.toArray⟩]
def I64 (x : Int) : Prop := -9223372036854775808 ≤ x ∧ x ≤ 9223372036854775807
def RS (l : List RT) : Prop := ∀ x ∈ l, I64 x.k ∧ I64 x.n ∧ x.t.length ≤ 9223372036854775807

theorem ladd_succ (a : Addr) (m : Nat) : a.add (m + 1) = { block := (a.add m).block, off := (a.add m).off + 1 } := by
  unfold Addr.add; split <;> split <;> simp_all <;> omega
theorem ladd_two (a : Addr) (m : Nat) : a.add (m + 2) = { block := (a.add m).block, off := (a.add m).off + 2 } := by
  unfold Addr.add; split <;> split <;> simp_all <;> omega
theorem lblk_add (a : Addr) (m : Nat) : (a.add m).block = a.block := by unfold Addr.add; split <;> rfl

/-- v is a slice that reads l, three cells a place -/
structure Toks (w : World) (v : Value) (l : List RT) : Prop where
  shape : ∃ ad cap, v = .slice ad l.length cap
  cells : ∀ ad n cap, v = .slice ad n cap → ∀ i (h : i < l.length), ∃ a, ad = some a ∧ a.block < w.heap.size ∧ w.cell? (a.add (i * 3)) = some (.int .i64 (l[i]).k) ∧ w.cell? (a.add (i * 3 + 1)) = some (.int .i64 (l[i]).n) ∧
    w.cell? (a.add (i * 3 + 2)) = some (.string ⟨(l[i]).t.toArray⟩)
  ints : RS l
  short : l.length ≤ 9223372036854775807
theorem Toks.open {w : World} {v : Value} {l : List RT} (h : Toks w v l) : ∃ ad cap, v = .slice ad l.length cap := h.shape
theorem Toks.below {w w1 : World} {v : Value} {l : List RT} (h : Toks w v l) (hb : Below w.heap.size w w1) : Toks w1 v l := by
  refine ⟨h.shape, fun ad n cap e i hi => ?_, h.ints, h.short⟩
  obtain ⟨a, h0, h1, h2, h3, h4⟩ := h.cells ad n cap e i hi
  have hc : ∀ m, w1.cell? (a.add m) = w.cell? (a.add m) := fun m => hb.cell (p := a.add m) (by rw [lblk_add]; exact h1)
  exact ⟨a, h0, Nat.lt_of_lt_of_le h1 hb.size, (hc _).trans h2, (hc _).trans h3, (hc _).trans h4⟩
/-- the cells of a place, in a world that has grown since, as a load reads them -/
theorem Toks.reads {w : World} {ad : Option Addr} {l : List RT} {cap : Nat} (h : Toks w (.slice ad l.length cap) l) {wr : World} {B : Nat} (hb : Below B w wr) (hB : w.heap.size ≤ B) (k : Nat) (hk : k < l.length) : ∃ a, ad = some a ∧
    wr.cell? (a.add (k * 3)) = some (.int .i64 (l[k]).k) ∧ wr.cell? { block := (a.add (k * 3)).block, off := (a.add (k * 3)).off + 1 } = some (.int .i64 (l[k]).n) ∧
    wr.cell? { block := (a.add (k * 3)).block, off := (a.add (k * 3)).off + 2 } = some (.string ⟨(l[k]).t.toArray⟩) ∧ (a.add (k * 3)).block < w.heap.size := by
  obtain ⟨a, rfl, hab, h1, h2, h3⟩ := h.cells _ _ _ rfl k hk
  have hc : ∀ m, wr.cell? (a.add m) = w.cell? (a.add m) := fun m => hb.cell (p := a.add m) (by rw [lblk_add]; omega)
  exact ⟨a, rfl, (hc _).trans h1, by rw [← ladd_succ]; exact (hc _).trans h2, by rw [← ladd_two]; exact (hc _).trans h3, by rw [lblk_add]; exact hab⟩
theorem toks_nil_of (w : World) (cap : Nat) (ad : Option Addr) : Toks w (.slice ad 0 cap) [] := ⟨⟨ad, cap, rfl⟩, fun _ _ _ _ i hi => (by simp at hi), fun x hx => (by cases hx), by simp⟩
theorem lenT (d : List RT) : (d.flatMap rtC).length = d.length * 3 := by
  induction d with
  | nil => rfl
  | cons x d ih => rw [List.flatMap_cons, List.length_append, ih]; simp [rtC]; omega
theorem flat_getT : ∀ (d : List RT) (i : Nat) (h : i < d.length), (d.flatMap rtC)[i * 3]? = some (.int .i64 (d[i]).k) ∧ (d.flatMap rtC)[i * 3 + 1]? = some (.int .i64 (d[i]).n) ∧ (d.flatMap rtC)[i * 3 + 2]? = some (.string ⟨(d[i]).t.toArray⟩)
  | [], i, h => by simp at h
  | x :: d, 0, _ => by simp [rtC]
  | x :: d, i + 1, h => by
    have h' : i < d.length := by simpa using h
    obtain ⟨g0, g1, g2⟩ := flat_getT d i h'
    have key : ∀ j, (List.flatMap rtC (x :: d))[(i + 1) * 3 + j]? = (List.flatMap rtC d)[i * 3 + j]? := fun j => by
      rw [List.flatMap_cons, List.getElem?_append_right (by simp [rtC]; omega)]
      congr 1
      simp [rtC]; omega
    exact ⟨(key 0).trans g0, (key 1).trans g1, (key 2).trans g2⟩
theorem toks_of_own {w : World} {base n : Nat} {v : Value} {l : List RT} (h : w.ownsRow base 36 3 v n (l.flatMap rtC)) (hi : RS l) (hs : l.length ≤ 1000000) : n = l.length ∧ Toks w v l := by
  have hn : n = l.length := by have := h.1; rw [lenT] at this; omega
  subst hn
  refine ⟨rfl, ?_⟩
  obtain ⟨_, ⟨rfl, h0⟩ | ⟨g, cap, cur, rfl, _, hh, _, _, _, hct⟩⟩ := h
  · have hl : l = [] := by simpa using h0
    subst hl
    exact toks_nil_of w 0 none
  · have key : ∀ j, j < l.length * 3 → w.cell? ⟨g, j, none⟩ = (l.flatMap rtC)[j]? := by
      intro j hj
      rw [← hct, List.getElem?_take, if_pos (by omega)]
      simp [World.cell?, hh]
    refine ⟨⟨_, _, rfl⟩, fun ad n c e i hil => ?_, hi, by omega⟩
    cases e
    obtain ⟨g0, g1, g2⟩ := flat_getT l i hil
    have ha : ∀ m, (⟨g, 0, none⟩ : Addr).add m = ⟨g, m, none⟩ := fun m => by simp [Addr.add]; exact fun e => e.symm
    refine ⟨_, rfl, (Array.getElem?_eq_some_iff.1 hh).1, ?_⟩
    simp only [ha]
    exact ⟨(key _ (by omega)).trans g0, (key _ (by omega)).trans g1, (key _ (by omega)).trans g2⟩
theorem own_base {w : World} {B C : Nat} {e : TypeId} {size n : Nat} {v : Value} {xs : List Value} (h : w.ownsRow B e size v n xs) (hc : C ≤ B) : w.ownsRow C e size v n xs := by
  obtain ⟨h0, h1 | ⟨g, cap, cur, hv, hg, hr⟩⟩ := h
  · exact ⟨h0, .inl h1⟩
  · exact ⟨h0, .inr ⟨g, cap, cur, hv, Nat.le_trans hc hg, hr⟩⟩
theorem lown_below {w w1 : World} {base : Nat} {e : TypeId} {size n : Nat} {v : Value} {xs : List Value} (h : w.ownsRow base e size v n xs) (hb : Below w.heap.size w w1) : w1.ownsRow base e size v n xs := by
  obtain ⟨h0, h1 | ⟨g, cap, cur, hv, hg, hh, hr⟩⟩ := h
  · exact ⟨h0, .inl h1⟩
  · exact ⟨h0, .inr ⟨g, cap, cur, hv, hg, (hb.block g (Array.getElem?_eq_some_iff.1 hh).1).trans hh, hr⟩⟩
theorem Tryd.infoTok : (Tryd.prog.info? 36).map (fun i => (i.zero, i.size, i.bytes)) = some (some (.agg #[.int .i64 0, .int .i64 0, .string ⟨#[]⟩]), 3, 32) := by kernel_rfl

/-- what becomes of the tokens that the iterator gives -/
def collF (cnt : Nat) : List Tok → List Tok × Nat × Nat
  | [] => ([], 0, 0)
  | x :: r => if x.k = 0 then ([], 8, x.n) else if cnt = 5000 then ([], 2, x.n) else consF x (collF (cnt + 1) r)
theorem coll_raw : ∀ (f line cnt : Nat) (q : List UInt8), q.length ≤ f → toksF line cnt q = collF cnt (rawG (f + 1) line q) := by
  intro f
  induction f with
  | zero =>
    intro line cnt q h
    have hq : q = [] := by simpa using h
    subst hq
    rw [toks_nil, raw_nil (by simp)]; rfl
  | succ f ih =>
    intro line cnt q h
    have hs := toks_skip cnt q false line
    simp only [Bool.false_eq_true, if_false] at hs
    rw [hs]
    cases hd : q.drop (skipF false q) with
    | nil => rw [toks_nil, raw_nil hd]; rfl
    | cons c r =>
      obtain ⟨h1, h2, h3⟩ := skip_stop q false c r hd
      rw [raw_cons (by simp) hd, toks_eq _ _ h1 h2 h3]
      by_cases hk : kindF ((c :: r).take (sizeF (c :: r))) = 0
      · rw [if_pos hk, if_pos hk]; simp only [collF]; rw [if_pos hk]
      · rw [if_neg hk, if_neg hk]
        simp only [collF]
        rw [if_neg hk]
        by_cases hc : cnt = 5000
        · rw [if_pos hc, if_pos hc]
        · rw [if_neg hc, if_neg hc, ih]
          have hz := size_pos (s := c :: r) (by simp)
          have hl : (c :: r).length ≤ q.length := by rw [← hd, List.length_drop]; omega
          rw [List.length_drop]; omega
theorem coll_done : ∀ (l : List Tok) (cnt : Nat), (∀ x ∈ l, x.k ≠ 0) → cnt + l.length ≤ 5000 → collF cnt l = (l, 0, 0)
  | [], _, _, _ => rfl
  | x :: r, cnt, h, hc => by
    have hc' : cnt + 1 + r.length ≤ 5000 := by simp at hc; omega
    simp only [collF]
    rw [if_neg (h x (by simp)), if_neg (by omega), coll_done r (cnt + 1) (fun y hy => h y (by simp [hy])) hc']
    rfl
theorem coll_stop (x : Tok) (r : List Tok) (e : Nat) : ∀ (l : List Tok) (cnt : Nat), (∀ y ∈ l, y.k ≠ 0) → (x.k = 0 ∧ e = 8 ∧ cnt + l.length ≤ 5000) ∨ (x.k ≠ 0 ∧ e = 2 ∧ cnt + l.length = 5000) → collF cnt (l ++ x :: r) = ([], e, x.n)
  | [], cnt, _, h => by
    simp only [List.nil_append, collF]
    rcases h with ⟨h1, rfl, _⟩ | ⟨h1, rfl, h2⟩
    · rw [if_pos h1]
    · rw [if_neg h1, if_pos (by simpa using h2)]
  | y :: q, cnt, hy, h => by
    have hq : cnt + 1 + q.length = cnt + (y :: q).length := by simp; omega
    have hlt : cnt < 5000 := by
      rcases h with ⟨_, _, h⟩ | ⟨_, _, h⟩ <;> (simp at h; omega)
    have ih := coll_stop x r e q (cnt + 1) (fun z hz => hy z (by simp [hz])) (by rw [hq]; exact h)
    simp only [List.cons_append, collF]
    rw [if_neg (hy y (by simp)), if_neg (by omega), ih]
    unfold consF
    rw [if_neg (by rcases h with ⟨_, rfl, _⟩ | ⟨_, rfl, _⟩ <;> simp)]
theorem toks_coll (s : List UInt8) : toksF 1 0 s = collF 0 (rawF s) := coll_raw s.length 1 0 s (Nat.le_refl _)
end Go.Proofs.YtfnclecfldddeaaDoor
