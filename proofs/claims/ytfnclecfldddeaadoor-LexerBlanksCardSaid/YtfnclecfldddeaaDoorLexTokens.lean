/-
  The walk of Tokens: the range over the iterator.
-/
import Derived.Test.YtfnclecfldddeaaDoorLexTok
namespace Go.Proofs.YtfnclecfldddeaaDoor
open Go.RowKit Go.Shelf
attribute [local go_sem] Oper.semAt_some
set_option maxRecDepth 100000

theorem tokens_any (s : List UInt8) (w : World) : Calls Tryd.prog 19 #[.string ⟨s.toArray⟩] w fun e w' => e = .returned (.func (.func 29) #[] #[.pointer (some ⟨w.heap.size, 0, none⟩)]) ∧ Own w' w.heap.size [.string ⟨s.toArray⟩] ∧ Below w.heap.size w w' := by
  have hmf : ∀ (fn : Fn) (first cap : Array Value) (w : World), (Instr.makeFunc fn first cap).run Tryd.prog w = .ok (.func fn first cap) w := fun _ _ _ _ => rfl
  have h1 := Own.new w #[.string ⟨s.toArray⟩] 9
  go_enter Tryd.func19, Tryd.ntmps19
  go_wp2_with fail
  go_ret
  exact ⟨rfl, h1, (Below.refl _ w).alloc (Nat.le_refl _) _⟩

/-- the four variables of Tokens: the results, and the list so far -/
structure Vars (W : World) (b : Nat) (r : Value) (e n : Int) (v : Value) : Prop where
  res : W.heap[b]? = some (.cells #[r] 22 (0, 0))
  err : W.heap[b + 1]? = some (.cells #[.int .i64 e] 25 (0, 0))
  line : W.heap[b + 1 + 1]? = some (.cells #[.int .i64 n] 3 (0, 0))
  list : W.heap[b + 1 + 1 + 1]? = some (.cells #[v] 22 (0, 0))
structure InvT (w W : World) (B : Nat) (l : List Tok) (v : Value) : Prop where
  vars : Vars W w.heap.size (.slice none 0 0) 0 0 v
  own : W.ownsRow B 36 3 v l.length ((l.map Tok.rt).flatMap rtC)
  below : Below w.heap.size w W
  kinds : ∀ x ∈ l, x.k ≠ 0
  few : l.length ≤ 5000
  size : B ≤ W.heap.size
def InvI (w : World) (B : Nat) (l : List Tok) (W : World) : Prop := ∃ v, InvT w W B l v
/-- a round has left -/
def InvX (w : World) (l : List Tok) (W : World) : Prop := ∃ pre x e, l = pre ++ [x] ∧ (∀ y ∈ pre, y.k ≠ 0) ∧ ((x.k = 0 ∧ e = 8 ∧ pre.length ≤ 5000) ∨ (x.k ≠ 0 ∧ e = 2 ∧ pre.length = 5000)) ∧ (∃ v, Vars W w.heap.size (.slice none 0 0) (e : Nat) (x.n : Nat) v) ∧ Below w.heap.size w W
def MineT (b : Nat) (W : World) (k : Nat) : Prop := ∃ v, W.cell? ⟨b + 1 + 1 + 1, 0, none⟩ = some v ∧ v.ownBlock = some k
theorem Vars.turn {K : Obj → Bool} {B : Nat} {W W' : World} {b : Nat} {r v : Value} {e n : Int} (h : Vars W b r e n v) (ht : Turn K B W W') (hb : b + 3 < B) : Vars W' b r e n v :=
  ⟨(ht.1.block _ (by omega)).trans h.res, (ht.1.block _ (by omega)).trans h.err, (ht.1.block _ (by omega)).trans h.line, (ht.1.block _ (by omega)).trans h.list⟩
theorem inv_abide {w : World} {B : Nat} (hB : w.heap.size + 3 < B) : Abide (keepI TS) B (InvI w B) := by
  rintro l W W' ⟨v, h1, ⟨h0, h2⟩, h3, h4, h5, h6⟩ ht
  refine ⟨v, h1.turn ht hB, ⟨h0, ?_⟩, h3.trans (ht.1.mono (by omega)), h4, h5, Nat.le_trans h6 ht.1.size⟩
  rcases h2 with h2 | ⟨g, cap, cur, hv, hg, hh, hr⟩
  · exact .inl h2
  · exact .inr ⟨g, cap, cur, hv, hg, ht.2 _ _ hh rfl, hr⟩
theorem invx_abide {w : World} {B : Nat} (hB : w.heap.size + 3 < B) : Abide (keepI TS) B (InvX w) := by
  rintro l W W' ⟨pre, x, e, h1, h2, h3, ⟨v, h4⟩, h5⟩ ht
  exact ⟨pre, x, e, h1, h2, h3, ⟨v, h4.turn ht hB⟩, h5.trans (ht.1.mono (by omega))⟩
theorem inv_minds {w : World} {B : Nat} (hB : w.heap.size + 3 < B) : Minds 36 (keepI TS) B (InvI w B) (MineT w.heap.size) := by
  have key : ∀ pre W k, InvI w B pre W → MineT w.heap.size W k → ∃ cur, W.heap[k]? = some (.cells cur 36 (0, 0)) ∧ B ≤ k := by
    rintro pre W k ⟨v, h1, h2, _⟩ ⟨v', hv', hk⟩
    have : v = v' := by
      have hc := (blk1 h1.list).1
      rw [hc] at hv'; exact Option.some.inj hv'
    subst this
    obtain ⟨_, ⟨rfl, _⟩ | ⟨g, cap, cur, rfl, hg, hh, _⟩⟩ := h2
    · cases hk
    · cases hk; exact ⟨cur, hh, hg⟩
  refine ⟨fun pre W k h hm => ?_, fun pre W k h hm => ?_, ?_⟩
  · obtain ⟨cur, h1, _⟩ := key pre W k h hm; exact ⟨cur, _, h1⟩
  · obtain ⟨cur, _, h1⟩ := key pre W k h hm; exact h1
  · rintro pre W W' k ⟨v, h1, _⟩ ht ⟨v', hv', hk⟩
    refine ⟨v', ?_, hk⟩
    have hlt : w.heap.size + 1 + 1 + 1 < W.heap.size := (Array.getElem?_eq_some_iff.1 h1.list).1
    have := ht.1.cell (p := ⟨w.heap.size + 1 + 1 + 1, 0, none⟩) (by show w.heap.size + 1 + 1 + 1 < B; omega)
    rw [← this]; exact hv'

theorem blk_alloc {w : World} {b : Nat} {o : Obj} (h : w.heap[b]? = some o) (o' : Obj) : (w.alloc o').heap[b]? = some o :=
  (Below.heap_alloc _ _ _ (Array.getElem?_eq_some_iff.1 h).1).trans h
theorem blk_newn (w : World) (o : Obj) (n : Nat) (h : n = w.heap.size) : (w.alloc o).heap[n]? = some o := by subst h; exact World.alloc_heap_new w o
theorem blk3 {w : World} {b : Nat} {x y z : Value} {t : TypeId} (h : w.heap[b]? = some (.cells #[x, y, z] t (0, 0))) : w.cell? ⟨b, 0, none⟩ = some x ∧ w.cell? ⟨b, 1, none⟩ = some y ∧ w.cell? ⟨b, 2, none⟩ = some z ∧ b < w.heap.size :=
  ⟨by simp [World.cell?, h], by simp [World.cell?, h], by simp [World.cell?, h], (Array.getElem?_eq_some_iff.1 h).1⟩
theorem keeps_below {B : Nat} {W W' : World} (h : Below W.heap.size W W') : KeepsFrom B W W' := ⟨h.size, fun k _ _ hk _ => (h.block k (Array.getElem?_eq_some_iff.1 hk).1).trans hk⟩
theorem keeps_set {B : Nat} {W : World} {b i : Nat} (h : b < B) (v : Value) : KeepsFrom B W (W.setCell ⟨b, i, none⟩ v) := ⟨by simp, fun k o hk ho _ => (Below.heap_setCell W ⟨b, i, none⟩ v k (by simp; omega)).trans ho⟩
theorem Vars.set {W : World} {b : Nat} {r v : Value} {e n : Int} (h : Vars W b r e n v) (r' : Value) (e' n' : Int) :
    Vars (((W.setCell ⟨b, 0, none⟩ r').setCell ⟨b + 1, 0, none⟩ (.int .i64 e')).setCell ⟨b + 1 + 1, 0, none⟩ (.int .i64 n')) b r' e' n' v := by
  have h0 := heap_set_same W b 0 _ _ r' h.res
  refine ⟨?_, ?_, ?_, ?_⟩
  · rw [heap_set_other _ _ _ _ _ (by omega), heap_set_other _ _ _ _ _ (by omega)]; exact h0
  · rw [heap_set_other _ _ _ _ _ (by omega)]
    exact heap_set_same _ (b + 1) 0 _ _ _ ((heap_set_other _ _ _ _ _ (by omega)).trans h.err)
  · exact heap_set_same _ (b + 1 + 1) 0 _ _ _ ((heap_set_other _ _ _ _ _ (by omega)).trans ((heap_set_other _ _ _ _ _ (by omega)).trans h.line))
  · rw [heap_set_other _ _ _ _ _ (by omega), heap_set_other _ _ _ _ _ (by omega), heap_set_other _ _ _ _ _ (by omega)]; exact h.list
theorem Vars.setV {W : World} {b : Nat} {r v : Value} {e n : Int} (h : Vars W b r e n v) (v' : Value) : Vars (W.setCell ⟨b + 1 + 1 + 1, 0, none⟩ v') b r e n v' :=
  ⟨(heap_set_other _ _ _ _ _ (by omega)).trans h.res, (heap_set_other _ _ _ _ _ (by omega)).trans h.err, (heap_set_other _ _ _ _ _ (by omega)).trans h.line, heap_set_same _ (b + 1 + 1 + 1) 0 _ _ _ h.list⟩
theorem Vars.alloc {W : World} {b : Nat} {r v : Value} {e n : Int} (h : Vars W b r e n v) (o : Obj) : Vars (W.alloc o) b r e n v := ⟨blk_alloc h.res o, blk_alloc h.err o, blk_alloc h.line o, blk_alloc h.list o⟩
theorem Vars.drew {W : World} {b : Nat} {r v : Value} {e n : Int} (h : Vars W b r e n v) : Vars W.drew b r e n v := ⟨h.res, h.err, h.line, h.list⟩
theorem keeps_drew {B : Nat} {W W' : World} (h : KeepsFrom B W W') : KeepsFrom B W W'.drew := ⟨h.size, h.same⟩
theorem lown_shape {w : World} {base : Nat} {e : TypeId} {size : Nat} {v : Value} {n : Nat} {xs : List Value} (h : w.ownsRow base e size v n xs) : ∃ p cap, v = .slice p n cap := by
  obtain ⟨_, ⟨rfl, rfl⟩ | ⟨g, cap, cur, rfl, hg, _⟩⟩ := h
  · exact ⟨_, _, rfl⟩
  · exact ⟨_, _, rfl⟩
theorem lown_row {w : World} {base : Nat} {e : TypeId} {size : Nat} {v : Value} {n : Nat} {xs : List Value} (h : w.ownsRow base e size v n xs) : ∀ r, v.ownBlock = some r → base ≤ r ∧ ∃ cur, w.heap[r]? = some (.cells cur e (0, 0)) := by
  obtain ⟨_, ⟨rfl, _⟩ | ⟨g, cap, cur, rfl, hg, hh, _⟩⟩ := h
  · intro r hr; cases hr
  · intro r hr; cases hr; exact ⟨hg, cur, hh⟩
theorem Vars.grown {W W' : World} {b B m : Nat} {r v u : Value} {e n : Int} {xs : List Value} (h : Vars W b r e n v) (hg : W.grownBy W' u.ownBlock) (ho : W.ownsRow B 36 3 u m xs) : Vars W' b r e n v := by
  have key : ∀ (k : Nat) (c : Array Value) (t : TypeId), t ≠ 36 → W.heap[k]? = some (.cells c t (0, 0)) → W'.heap[k]? = some (.cells c t (0, 0)) := fun k c t ht hk =>
    (hg.block k (Array.getElem?_eq_some_iff.1 hk).1 (fun e => by
      obtain ⟨_, cur, hc⟩ := lown_row ho k e.symm
      rw [hk] at hc; cases hc; exact ht rfl)).trans hk
  exact ⟨key _ _ _ (by decide) h.res, key _ _ _ (by decide) h.err, key _ _ _ (by decide) h.line, key _ _ _ (by decide) h.list⟩
/-- the three results stored, and the round left -/
theorem left_of {w W W2 : World} {B : Nat} {pre : List Tok} {x : Tok} {v : Value} {e : Nat} (hB : w.heap.size + 3 < B) (hV : Vars W2 w.heap.size (.slice none 0 0) 0 0 v) (hb : Below w.heap.size w W2) (hk : ∀ y ∈ pre, y.k ≠ 0)
    (he : (x.k = 0 ∧ e = 8 ∧ pre.length ≤ 5000) ∨ (x.k ≠ 0 ∧ e = 2 ∧ pre.length = 5000)) :
    BodyEnd B (MineT w.heap.size) (InvI w B) (InvX w) (pre ++ [x]) W W2 Exit.ret (((W2.setCell ⟨w.heap.size, 0, none⟩ (.slice none 0 0)).setCell ⟨w.heap.size + 1, 0, none⟩ (.int .i64 (e : Nat))).setCell ⟨w.heap.size + 1 + 1, 0, none⟩ (.int .i64 (x.n : Nat))).drew := by
  refine .inr ⟨rfl, keeps_drew (((keeps_set (by omega) _).trans (keeps_set (by omega) _)).trans (keeps_set (by omega) _)), pre, x, e, rfl, hk, he, ⟨v, (hV.set _ _ _).drew⟩, ?_⟩
  exact (((hb.setCell (p := ⟨w.heap.size, 0, none⟩) (Nat.le_refl _) _).setCell (p := ⟨w.heap.size + 1, 0, none⟩) (by simp) _).setCell (p := ⟨w.heap.size + 1 + 1, 0, none⟩) (by simp; omega) _).drew
/-- a token more, and the round goes on -/
theorem goes_on {w W W2 w1 : World} {B : Nat} {pre : List Tok} {x : Tok} {v v' : Value} {o : Obj} (hB : w.heap.size + 3 < B) (hV : Vars W2 w.heap.size (.slice none 0 0) 0 0 v) (hb : Below w.heap.size w W2) (hs : B ≤ W2.heap.size) (hk : ∀ y ∈ pre, y.k ≠ 0) (hx : x.k ≠ 0)
    (hlt : pre.length < 5000) (hown : W2.ownsRow B 36 3 v pre.length ((pre.map Tok.rt).flatMap rtC)) (hg : (W2.alloc o).grownBy w1 v.ownBlock) (hown' : w1.ownsRow B 36 3 v' (pre.length + 1) ((pre.map Tok.rt).flatMap rtC ++ rtC x.rt))
    (hcl : ∀ (k : Nat) (xs : Array Value) (t : TypeId) (fr : Nat × Nat), W.heap[k]? = some (.cells xs t fr) → W2.heap[k]? = some (.cells xs t fr)) (hWs : W.heap.size ≤ W2.heap.size) (hWV : W.heap[w.heap.size + 1 + 1 + 1]? = some (.cells #[v] 22 (0, 0))) :
    BodyEnd B (MineT w.heap.size) (InvI w B) (InvX w) (pre ++ [x]) W W2 Exit.normal (w1.setCell ⟨w.heap.size + 1 + 1 + 1, 0, none⟩ v') := by
  have hV1 : Vars w1 w.heap.size (.slice none 0 0) 0 0 v := (hV.alloc o).grown hg (hown.alloc o)
  have hsz : W2.heap.size ≤ w1.heap.size := by have := hg.size; rw [World.size_alloc] at this; omega
  have hrow : ∀ (k : Nat) (c : Obj), W2.heap[k]? = some c → v.ownBlock ≠ some k → w1.heap[k]? = some c := fun k c hk hne =>
    (hg.block k (by have := (Array.getElem?_eq_some_iff.1 hk).1; rw [World.size_alloc]; omega) (fun e => hne e.symm)).trans (blk_alloc hk o)
  have hoth : ∀ (k : Nat) (c : Obj), k ≠ w.heap.size + 1 + 1 + 1 → w1.heap[k]? = some c → (w1.setCell ⟨w.heap.size + 1 + 1 + 1, 0, none⟩ v').heap[k]? = some c := fun k c hk h => (heap_set_other _ _ _ _ _ hk).trans h
  refine .inl ⟨rfl, ⟨by simpa using hsz, fun k c hBk hk hc => ?_⟩, ⟨by have := Nat.le_trans hWs hsz; simpa using this, fun k xs t fr hBk hk hm => ?_⟩, v', ?_⟩
  · refine hoth k c (by omega) (hrow k c hk (fun e => ?_))
    obtain ⟨_, cur, h⟩ := lown_row hown k e
    rw [hk] at h; cases h; cases hc
  · refine hoth k _ (by omega) (hrow k _ (hcl _ _ _ _ hk) (fun e => hm ⟨v, (blk1 hWV).1, e⟩))
  · refine ⟨hV1.setV v', ?_, ?_, ?_, by simp; omega, by simpa using Nat.le_trans hs hsz⟩
    · have hl : (pre ++ [x]).length = pre.length + 1 := by simp
      have hf : ((pre ++ [x]).map Tok.rt).flatMap rtC = (pre.map Tok.rt).flatMap rtC ++ rtC x.rt := by simp
      rw [hl, hf]
      obtain ⟨q0, q1 | ⟨g, cap, cur, hv, hg2, hh, hr⟩⟩ := hown'
      · exact ⟨q0, .inl q1⟩
      · exact ⟨q0, .inr ⟨g, cap, cur, hv, hg2, hoth _ _ (by omega) hh, hr⟩⟩
    · have h1 : Below w.heap.size w (W2.alloc o) := hb.alloc hb.size o
      have h2 : Below w.heap.size w w1 := h1.grown hg (by have := h1.size; exact this) (fun k hk => by have := (lown_row hown k hk).1; omega)
      exact h2.setCell (p := ⟨w.heap.size + 1 + 1 + 1, 0, none⟩) (by simp; omega) _
    · intro y hy
      rcases List.mem_append.1 hy with hy | hy
      · exact hk y hy
      · rw [List.mem_singleton.1 hy]; exact hx
theorem Vars.putObj {W : World} {b D : Nat} {r v : Value} {e n : Int} (h : Vars W b r e n v) (hD : b + 3 < D) (o : Obj) : Vars (W.putObj D o) b r e n v :=
  ⟨(World.putObj_heap_other (by omega)).trans h.res, (World.putObj_heap_other (by omega)).trans h.err, (World.putObj_heap_other (by omega)).trans h.line, (World.putObj_heap_other (by omega)).trans h.list⟩
theorem res_toks {tmps : Array Value} {W : World} {b : Nat} {r v : Value} {e n : Int} (t2 : tmps.getD 2 undef = .pointer (some ⟨b, 0, none⟩)) (t3 : tmps.getD 3 undef = .pointer (some ⟨b + 1, 0, none⟩)) (t4 : tmps.getD 4 undef = .pointer (some ⟨b + 1 + 1, 0, none⟩))
    (h : Vars W b r e n v) : (results Tryd.f10 tmps).run Tryd.prog W = .ok (.tuple #[r, .int .i64 e, .int .i64 n]) W := by
  have c2 := (blk1 h.res).1
  have c3 := (blk1 h.err).1
  have c4 := (blk1 h.line).1
  simp only [Array.getD_eq_getD_getElem?] at t2 t3 t4
  simp [results, Tryd.results10, go_sem, t2, t3, t4, c2, c3, c4]
/-- what Tokens gives: tokens, the error, its line -/
def tokP (s : List UInt8) : List Tok × Nat × Nat := if 20000 < s.length then ([], 2, 0) else toksF 1 0 s
def TokEnd (s : List UInt8) (w : World) (e : Ending) (w' : World) : Prop := ∃ v, e = .returned (.tuple #[v, .int .i64 (tokP s).2.1, .int .i64 (tokP s).2.2]) ∧
  w'.ownsRow w.heap.size 36 3 v (tokP s).1.length (((tokP s).1.map Tok.rt).flatMap rtC) ∧ Below w.heap.size w w'
theorem tok_end {s : List UInt8} {w w' : World} {v : Value} {l : List Tok} {e n : Nat} (h : tokP s = (l, e, n)) (ho : w'.ownsRow w.heap.size 36 3 v l.length ((l.map Tok.rt).flatMap rtC)) (hb : Below w.heap.size w w') :
    TokEnd s w (.returned (.tuple #[v, .int .i64 e, .int .i64 n])) w' := by
  refine ⟨v, by rw [h], ?_, hb⟩
  rw [h]; exact ho

set_option maxHeartbeats 4000000 in
theorem toks_main (s : List UInt8) (hs : s.length ≤ 20000) (w : World) (hL : Lay w) : Calls Tryd.prog 10 #[.string ⟨s.toArray⟩] w (TokEnd s w) := by
  have hz := bsz s
  have hz' : (⟨s.toArray⟩ : ByteArray).size ≤ 20000 := by omega
  refine (callsIn_wide (n := 9)).1 ?_
  refine callsIn_of_wp_marks Tryd.func10 rfl trivial ?_ rfl
  simp only [Tryd.ntmps10, List.size_toArray, List.length_cons, List.length_nil, Nat.reduceAdd, Nat.reduceSub, Array.replicate_succ, Array.replicate_zero, List.push_toArray, List.append_toArray, List.nil_append, List.cons_append]
  have hcall := fun w => tokens_any s w
  have hgives := iter_gives s hs
  have mixed : Tryd.prog.follows .mixedOrders = true := by kernel_rfl
  obtain ⟨S, hS⟩ : ∃ S, (⟨s.toArray⟩ : ByteArray) = S := ⟨_, rfl⟩
  rw [hS] at hz'
  simp only [hS] at hcall hgives ⊢
  clear hz
  gi_wp2
  refine ⟨trivial, ?_⟩
  obtain ⟨W4, hW4⟩ : ∃ W4, (((w.alloc (.cells #[.slice none 0 0] 22)).alloc (.cells #[.int .i64 0] 25)).alloc (.cells #[.int .i64 0] 3)).alloc (.cells #[.slice none 0 0] 22) = W4 := ⟨_, rfl⟩
  have hb4 : Below w.heap.size w W4 := by rw [← hW4]; exact ((((Below.refl _ w).alloc (Nat.le_refl _) _).alloc (by simp) _).alloc (by simp <;> omega) _).alloc (by simp <;> omega) _
  have hV4 : Vars W4 w.heap.size (.slice none 0 0) 0 0 (.slice none 0 0) := by
    rw [← hW4]
    exact ⟨blk_alloc (blk_alloc (blk_alloc (blk_newn _ _ _ rfl) _) _) _, blk_alloc (blk_alloc (blk_newn _ _ _ (by simp)) _) _, blk_alloc (blk_newn _ _ _ (by simp)) _, blk_newn _ _ _ (by simp)⟩
  have hs4 : W4.heap.size = w.heap.size + 4 := by rw [← hW4]; simp
  rw [hW4]
  clear hW4
  refine (callsIn_wide.2 (hcall _)).mono ?_
  rintro e w5 ⟨rfl, hO, hb5⟩
  have hV5 : Vars w5 w.heap.size (.slice none 0 0) 0 0 (.slice none 0 0) := hV4.turn (K := fun _ => false) (B := W4.heap.size) ⟨hb5, fun _ _ _ h => by cases h⟩ (by omega)
  have hbw5 : Below w.heap.size w w5 := hb4.trans (hb5.mono hb4.size)
  have hs5 : w.heap.size + 3 < w5.heap.size := by have := hb5.size; omega
  rw [hs4] at hO
  clear hcall hb4 hV4 hb5
  gi_wp2
  refine range_gives (R0 := 36) (T := TS) rfl (by omega) rfl trivial (enters_of Tryd.func29 (by kernel_rfl) rfl) (hgives _ _ w5 (by omega) hO) (MineT w.heap.size) (Below.refl _ _) (fun _ => rfl)
    (InvI w w5.heap.size) (InvX w) (inv_abide hs5) (invx_abide hs5) (inv_minds hs5) (fun pre W h => by obtain ⟨v, h⟩ := h; exact hL.below h.below) ⟨_, hV5, World.ownsRow_nil _ _ _ _, hbw5, by simp, by simp, Nat.le_refl _⟩ ?round ?done ?stop
  case round =>
    rintro l pre x W hwl ⟨v, hI⟩ hpre
    obtain ⟨xk, xn, xt⟩ := x
    simp only [encT]
    gi_wp2
    have hA := belR W (.cells #[.int .i64 xk, .int .i64 xn, .string ⟨xt.toArray⟩] 36)
    have hn1 := World.alloc_heap_new W (.cells #[.int .i64 xk, .int .i64 xn, .string ⟨xt.toArray⟩] 36)
    refine ⟨keeps_below hA, fun W2 ht hcl => ?_⟩
    replace hn1 := hcl _ _ hn1 rfl
    have hV : Vars W2 w.heap.size (.slice none 0 0) 0 0 v := (hI.vars.turn (K := fun _ => false) (B := W.heap.size) ⟨hA, fun _ _ _ h => by cases h⟩ (by have := (Array.getElem?_eq_some_iff.1 hI.vars.list).1; omega)).turn ht hs5
    have hown2 : W2.ownsRow w5.heap.size 36 3 v pre.length ((pre.map Tok.rt).flatMap rtC) := by
      obtain ⟨q0, q1 | ⟨g, cap, cur, hv, hg, hh, hr⟩⟩ := hI.own
      · exact ⟨q0, .inl q1⟩
      · exact ⟨q0, .inr ⟨g, cap, cur, hv, hg, hcl _ _ ((hA.block _ (Array.getElem?_eq_some_iff.1 hh).1).trans hh) rfl, hr⟩⟩
    have hbl2 : Below w.heap.size w W2 := (hI.below.trans (hA.mono hI.below.size)).trans (ht.1.mono (by omega))
    have hkinds := hI.kinds
    have hfew := hI.few
    have hWV := hI.vars.list
    have hWs := hI.size
    have hsz12 : W.heap.size ≤ W2.heap.size := Nat.le_trans hA.size ht.1.size
    have hcl2 : ∀ (k : Nat) (xs : Array Value) (t : TypeId) (fr : Nat × Nat), W.heap[k]? = some (.cells xs t fr) → W2.heap[k]? = some (.cells xs t fr) := fun k xs t fr hk => hcl _ _ ((hA.block _ (Array.getElem?_eq_some_iff.1 hk).1).trans hk) rfl
    clear hA ht hcl hI hwl
    obtain ⟨a0, a1, a2, az⟩ := blk3 hn1
    obtain ⟨r0, r1, r2⟩ := blk1 hV.res
    obtain ⟨e0, e1, e2⟩ := blk1 hV.err
    obtain ⟨n0, n1, n2⟩ := blk1 hV.line
    obtain ⟨v0, v1, v2⟩ := blk1 hV.list
    by_cases hk : xk = 0
    · have hk' : (((xk : Nat) : Int) == 0) = true := by rw [beq_iff_eq]; omega
      have HK := Lib.hid hk
      clear hk
      gi_wp2
      gi_region_o
      all_goals gi_wp2
      all_goals exact left_of (x := ⟨xk, xn, xt⟩) (e := 8) hs5 hV hbl2 hkinds (.inl ⟨HK.out, rfl, hfew⟩)
    · have hk' : (((xk : Nat) : Int) == 0) = false := by rw [beq_eq_false_iff_ne]; omega
      have HK := Lib.hid hk
      clear hk
      obtain ⟨p, cap, rfl⟩ := lown_shape hown2
      by_cases h5 : pre.length = 5000
      · have h5' : (((pre.length : Nat) : Int) == 5000) = true := by rw [beq_iff_eq]; omega
        have H5 := Lib.hid h5
        clear h5
        gi_wp2
        gi_region_o
        all_goals gi_wp2
        all_goals exact left_of (x := ⟨xk, xn, xt⟩) (e := 2) hs5 hV hbl2 hkinds (.inr ⟨HK.out, rfl, H5.out⟩)
      · have h5' : (((pre.length : Nat) : Int) == 5000) = false := by rw [beq_eq_false_iff_ne]; omega
        have hlt : pre.length < 5000 := by omega
        clear h5
        obtain ⟨i0, hi, hz0, hz1, hz2⟩ := info_parts Tryd.infoTok
        gi_wp2_with (gi_at_builtin; refine wpListIn_append_own _ rfl _ _ 22 rfl w5.heap.size 36 i0 (.agg #[.int .i64 0, .int .i64 0, .string ⟨#[]⟩]) 3 32 Tryd.underlying22 hi hz0 hz1 hz2 rfl (by decide) _ _ _ rfl (hown2.alloc _) ⟨W2.heap.size, 0, none⟩ 1 1 [.int .i64 xk, .int .i64 xn, .string ⟨xt.toArray⟩] rfl rfl (by intro j u hj; match j, hj with | 0, hj => (simp at hj; subst hj; simp [Addr.add]) | 1, hj => (simp at hj; subst hj; simp [Addr.add]) | 2, hj => (simp at hj; subst hj; simp [Addr.add])) (by intro u hu; simp at hu; rcases hu with rfl | rfl | rfl <;> rfl) (by unfold maxLen; omega) (by omega) (by simp; omega) ?_; intro v' w1 hown' hgrow _; obtain ⟨p', cap', rfl⟩ := lown_shape hown'; have hV1 := (hV.alloc (.cells #[.int .i64 xk, .int .i64 xn, .string ⟨xt.toArray⟩] 36)).grown hgrow (hown2.alloc _); obtain ⟨z0, z1, z2⟩ := blk1 hV1.list)
        exact goes_on (x := ⟨xk, xn, xt⟩) hs5 hV hbl2 (by omega) hkinds HK.out hlt hown2 hgrow hown' hcl2 hsz12 hWV
  case done =>
    rintro D W hD ⟨v, hI⟩ hdef
    obtain ⟨p, cap, rfl⟩ := lown_shape hI.own
    obtain ⟨r0, r1, r2⟩ := blk1 hI.vars.res
    obtain ⟨e0, e1, e2⟩ := blk1 hI.vars.err
    obtain ⟨n0, n1, n2⟩ := blk1 hI.vars.line
    obtain ⟨v0, v1, v2⟩ := blk1 hI.vars.list
    have hcoll : tokP s = (rawF s, 0, 0) := by
      unfold tokP
      rw [if_neg (by omega), toks_coll]; exact coll_done _ 0 hI.kinds (by have := hI.few; omega)
    have HC := Lib.hid hcoll
    have hown := hI.own
    have hbl := hI.below
    have hV := hI.vars
    clear hcoll hI
    gi_wp2
    have hd2 : (((W.setCell ⟨w.heap.size, 0, none⟩ (.slice p (rawF s).length cap)).setCell ⟨w.heap.size + 1, 0, none⟩ (.int .i64 0)).setCell ⟨w.heap.size + 1 + 1, 0, none⟩ (.int .i64 0)).heap[D]? = some (.deferred (some [])) := by
      rw [heap_set_other _ _ _ _ _ (by omega), heap_set_other _ _ _ _ _ (by omega), heap_set_other _ _ _ _ _ (by omega)]; exact hdef
    have hown2 : (((W.setCell ⟨w.heap.size, 0, none⟩ (.slice p (rawF s).length cap)).setCell ⟨w.heap.size + 1, 0, none⟩ (.int .i64 0)).setCell ⟨w.heap.size + 1 + 1, 0, none⟩ (.int .i64 0)).ownsRow w5.heap.size 36 3 (.slice p (rawF s).length cap) (rawF s).length (((rawF s).map Tok.rt).flatMap rtC) := by
      obtain ⟨q0, q1 | ⟨g, cap, cur, hv, hg, hh, hr⟩⟩ := hown
      · exact ⟨q0, .inl q1⟩
      · exact ⟨q0, .inr ⟨g, cap, cur, hv, hg, by rw [heap_set_other _ _ _ _ _ (by omega), heap_set_other _ _ _ _ _ (by omega), heap_set_other _ _ _ _ _ (by omega)]; exact hh, hr⟩⟩
    have hbl2 := ((hbl.setCell (p := ⟨w.heap.size, 0, none⟩) (Nat.le_refl _) (.slice p (rawF s).length cap)).setCell (p := ⟨w.heap.size + 1, 0, none⟩) (by simp) (.int .i64 0)).setCell (p := ⟨w.heap.size + 1 + 1, 0, none⟩) (by simp; omega) (.int .i64 0)
    refine ⟨by simp, .inl ⟨_, _, rfl, run_takeDeferred hd2, ?_⟩⟩
    refine ⟨_, res_toks rfl rfl rfl ((hV.set _ _ _).putObj (by omega) _), ?_⟩
    exact tok_end (n := 0) (e := 0) HC.out (own_base (ownsRow_putObj hown2 _ hd2 rfl) (by omega)) (hbl2.trans (Turn.putObj (T := TS) (by omega) hd2 rfl).1)
  case stop =>
    rintro D pre W hD hpre ⟨pre', x, e, rfl, hx1, hx2, ⟨v, hV⟩, hbx⟩ hdef
    have hcoll : tokP s = ([], e, x.n) := by
      obtain ⟨r, hr⟩ := hpre
      unfold tokP
      rw [if_neg (by omega), toks_coll, ← hr, List.append_assoc]
      refine coll_stop x r e pre' 0 hx1 ?_
      rcases hx2 with ⟨h1, h2, h3⟩ | ⟨h1, h2, h3⟩
      · exact .inl ⟨h1, h2, by omega⟩
      · exact .inr ⟨h1, h2, by omega⟩
    have HC := Lib.hid hcoll
    clear hcoll hx1 hx2
    gi_wp2
    refine ⟨by simp, .inl ⟨_, _, rfl, run_takeDeferred hdef, ?_⟩⟩
    refine ⟨_, res_toks rfl rfl rfl (hV.putObj (by omega) _), ?_⟩
    exact tok_end HC.out (World.ownsRow_nil _ _ _ _) (hbx.trans (Turn.putObj (T := TS) (by omega) hdef rfl).1)
set_option maxHeartbeats 1000000 in
theorem toks_far (s : List UInt8) (hs : 20000 < s.length) (w : World) : Calls Tryd.prog 10 #[.string ⟨s.toArray⟩] w (TokEnd s w) := by
  have hz := bsz s
  have HC : Hid (tokP s = ([], 2, 0)) := Lib.hid (by unfold tokP; rw [if_pos hs])
  obtain ⟨S, hS⟩ : ∃ S, (⟨s.toArray⟩ : ByteArray) = S := ⟨_, rfl⟩
  rw [hS] at hz ⊢
  have hz' : decide ((S.size : Int) > 20000) = true := by rw [decide_eq_true_eq, hz]; omega
  have hz2 : decide (20000 < (S.size : Int)) = true := hz'
  clear hS hz hs
  go_enter Tryd.func10, Tryd.ntmps10
  go_wp2_with fail
  exact bodyPost_ret (v := .tuple #[.slice none 0 0, .int .i64 2, .int .i64 0]) (by simp [results, Tryd.results10, go_sem]) rfl (tok_end HC.out (World.ownsRow_nil _ _ _ _) (by (repeat (first | exact Below.refl _ _ | assumption | refine Below.drew ?_ | refine below_drewN ?_ _ | refine Below.setCell ?_ (by first | omega | (simp <;> omega)) _ | refine Below.alloc ?_ (by first | omega | (simp <;> omega)) _))))
theorem toks_any (s : List UInt8) (w : World) (hL : Lay w) : Calls Tryd.prog 10 #[.string ⟨s.toArray⟩] w (TokEnd s w) := by
  by_cases h : 20000 < s.length
  · exact toks_far s h w
  · exact toks_main s (by omega) w hL
end Go.Proofs.YtfnclecfldddeaaDoor
