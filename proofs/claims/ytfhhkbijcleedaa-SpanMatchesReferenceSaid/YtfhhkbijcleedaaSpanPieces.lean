/-
  The iterator 'pieces': its contract.
-/
import Derived.Test.YtfhhkbijcleedaaRange
import Derived.Test.YtfhhkbijcleedaaSpanEnds2
import Derived.Test.YtfhhkbijcleedaaSpanArr
namespace Go.Proofs.Ytfhhkbijcleedaa
open Go.RowKit Go.Shelf
attribute [local go_sem] Oper.semAt_some

def bump (c : Int × Int) (e : En) : Int × Int := if e.2.1 = 0 then (c.1 + e.2.2, c.2) else (c.1, c.2 + e.2.2)
def pcs : Int → Int × Int → List En → List (Sp × (Int × Int))
  | _, _, [] => []
  | at_, c, e :: es => (if at_ < e.1 ∧ ¬ (c.1 = 0 ∧ c.2 = 0) then [((at_, e.1), c)] else []) ++ pcs e.1 (bump c e) es
def piecesL (a b : List Sp) : List (Sp × (Int × Int)) := pcs 0 (0, 0) (endsL a b)
def encP (x : Sp × (Int × Int)) : Array Value := #[.agg #[.int .i64 x.1.1, .int .i64 x.1.2], .agg #[.int .i64 x.2.1, .int .i64 x.2.2]]
/-- what a round keeps: the ends and the counts -/
def Kp (W W' : World) : Prop := W.heap.size ≤ W'.heap.size ∧ ∀ (k : Nat) (xs : Array Value) (t : TypeId) (fr : Nat × Nat), W.heap[k]? = some (.cells xs t fr) → (t = 57 ∨ t = 50) → W'.heap[k]? = some (.cells xs t fr)

theorem own_shape {w : World} {base : Nat} {e : TypeId} {size : Nat} {v : Value} {n : Nat} {xs : List Value} (h : w.ownsRow base e size v n xs) : ∃ p cap, v = .slice p n cap := by
  obtain ⟨_, ⟨rfl, rfl⟩ | ⟨g, cap, cur, rfl, hg, _⟩⟩ := h
  · exact ⟨_, _, rfl⟩
  · exact ⟨_, _, rfl⟩
theorem row_cells {w : World} {g n : Nat} {cur : Array Value} {es : List En} (hh : w.heap[g]? = some (.cells cur 57 (0, 0))) (ht : cur.toList.take (n * 3) = es.flatMap encE) (k : Nat) (hk : k < es.length) :
    w.cell? ⟨g, k * 3, none⟩ = some (.int .i64 (es[k]).1) ∧ w.cell? ⟨g, k * 3 + 1, none⟩ = some (.int .i64 (es[k]).2.1) ∧ w.cell? ⟨g, k * 3 + 2, none⟩ = some (.int .i64 (es[k]).2.2) := by
  have key : ∀ j, j < 3 → cur[k * 3 + j]? = some ((encE es[k])[j]!) := by
    intro j hj
    have h2 := flat_get es (k * 3 + j) (by omega)
    rw [show (k * 3 + j) / 3 = k by omega, show (k * 3 + j) % 3 = j by omega, ← ht, List.getElem?_take] at h2
    split at h2
    · rw [getElem!_pos es k hk] at h2; simpa using h2
    · cases h2
  refine ⟨?_, ?_, ?_⟩
  · have := key 0 (by omega); simpa [World.cell?, hh, encE] using this
  · have := key 1 (by omega); simpa [World.cell?, hh, encE] using this
  · have := key 2 (by omega); simpa [World.cell?, hh, encE] using this
theorem blk2 {w : World} {b : Nat} {x y : Value} {t : TypeId} (h : w.heap[b]? = some (.cells #[x, y] t (0, 0))) : w.cell? ⟨b, 0, none⟩ = some x ∧ w.cell? ⟨b, 1, none⟩ = some y ∧ w.frozen? ⟨b, 0, none⟩ = false ∧ w.frozen? ⟨b, 1, none⟩ = false ∧ b < w.heap.size :=
  ⟨by simp [World.cell?, h], by simp [World.cell?, h], by simp [World.frozen?, h], by simp [World.frozen?, h], (Array.getElem?_eq_some_iff.1 h).1⟩
theorem blk3 {w : World} {b : Nat} {x y z : Value} {t : TypeId} (h : w.heap[b]? = some (.cells #[x, y, z] t (0, 0))) : w.cell? ⟨b, 0, none⟩ = some x ∧ w.cell? ⟨b, 1, none⟩ = some y ∧ w.cell? ⟨b, 2, none⟩ = some z ∧ b < w.heap.size :=
  ⟨by simp [World.cell?, h], by simp [World.cell?, h], by simp [World.cell?, h], (Array.getElem?_eq_some_iff.1 h).1⟩
theorem ends_mem (a b : List Sp) (e : En) (h : e ∈ endsL a b) : (e.2.1 = 0 ∨ e.2.1 = 1) ∧ (e.2.2 = 1 ∨ e.2.2 = -1) := by
  unfold endsL sortE at h
  rw [List.mem_mergeSort, List.mem_append] at h
  simp only [raw, List.mem_flatMap] at h
  rcases h with ⟨s, _, h⟩ | ⟨s, _, h⟩ <;> simp at h <;> rcases h with rfl | rfl <;> simp
theorem ends_len (a b : List Sp) : (endsL a b).length = 2 * a.length + 2 * b.length := by
  rw [endsL, sortE_length, List.length_append, raw_length, raw_length]
theorem blk_alloc {w : World} {b : Nat} {o : Obj} (h : w.heap[b]? = some o) (o' : Obj) : (w.alloc o').heap[b]? = some o :=
  (Below.heap_alloc _ _ _ (Array.getElem?_eq_some_iff.1 h).1).trans h
theorem blk_new (w : World) (o : Obj) : (w.alloc o).heap[w.heap.size]? = some o := World.alloc_heap_new w o
/-- a store into a block of the iterator's own -/
theorem Turn.setCell {T : TypeId} {B : Nat} {W : World} {b i : Nat} {xs : Array Value} {fr : Nat × Nat} {v : Value} (hB : B ≤ b) (hb : W.heap[b]? = some (.cells xs T fr)) : Turn (keepJ T) B W (W.setCell ⟨b, i, none⟩ v) := by
  refine ⟨(Below.refl B W).setCell hB v, fun k o hk ho => ?_⟩
  by_cases hkb : k = b
  · subst hkb; rw [hb] at hk; cases hk; simp [keepJ] at ho
  · rw [Below.heap_setCell _ _ _ _ (by simpa using hkb)]; exact hk
theorem st_blk {W : World} {b i : Nat} {cs : Array Value} {T : TypeId} {v : Value} (h : W.heap[b]? = some (.cells cs T (0, 0))) : (W.setCell ⟨b, i, none⟩ v).drew.heap[b]? = some (.cells (cs.setIfInBounds i v) T (0, 0)) :=
  heap_setCell_same W b i cs T v h
theorem st_oth {W : World} {b i k : Nat} {v : Value} (h : k ≠ b) : (W.setCell ⟨b, i, none⟩ v).drew.heap[k]? = W.heap[k]? := Below.heap_setCell W ⟨b, i, none⟩ v k h
theorem st_size {W : World} {b i : Nat} {v : Value} : (W.setCell ⟨b, i, none⟩ v).drew.heap.size = W.heap.size := by simp
theorem st_turn {T : TypeId} {B : Nat} {W : World} {b i : Nat} {xs : Array Value} {v : Value} (hB : B ≤ b) (hb : W.heap[b]? = some (.cells xs T (0, 0))) : Turn (keepJ T) B W (W.setCell ⟨b, i, none⟩ v).drew :=
  ⟨(Turn.setCell (i := i) (v := v) hB hb).1.drew, (Turn.setCell (i := i) (v := v) hB hb).2⟩

set_option maxHeartbeats 8000000 in
theorem pieces1_gives (ba bb : Nat) (va vb : Value) (a b : List Sp) (n : Nat) (w : World) (h2 : 2 ≤ n) (ha : Spans w va a) (hb0 : Spans w vb b) (hab0 : a.length + b.length ≤ 3000)
    (hA : Own w ba [va]) (hB : Own w bb [vb]) :
    Gives 50 Fence.wide n Try.prog 40 #[.pointer (some ⟨ba, 0, none⟩), .pointer (some ⟨bb, 0, none⟩)] encP Kp (piecesL a b) w := by
  intro l J W hW hJ hY h0
  have h1 : 1 ≤ n - 1 := by omega
  have ha1 := ha.below hW
  have hb1 := hb0.below hW
  have hA1 := hA.below hW
  have hB1 := hB.below hW
  clear ha hb0 hA hB
  obtain ⟨ca, fa, za⟩ := hA1.one
  obtain ⟨cb, fb, zb⟩ := hB1.one
  clear fa fb
  have hpl : piecesL a b = pcs 0 (0, 0) (endsL a b) := rfl
  have hel := ends_len a b
  have hem := ends_mem a b
  have hends := fun w1 h1 h2 => ends_any va vb a b w1 h1 h2 hab0
  generalize piecesL a b = PL at hY hpl ⊢
  generalize endsL a b = es at hends hpl hel hem
  have hes : es.length ≤ 6000 := by omega
  rw [← hel] at hends
  clear hel
  refine callsIn_of_wp Try.func40 rfl trivial ?_ rfl
  simp only [Try.ntmps40, List.size_toArray, List.length_cons, List.length_nil, Nat.reduceAdd, Nat.reduceSub, Array.replicate_succ, Array.replicate_zero, List.push_toArray, List.append_toArray, List.nil_append, List.cons_append]
  gi_wp2
  gi_region
  obtain ⟨W0, hW0⟩ : ∃ W0, ((W.alloc (.cells #[.int .i64 0, .int .i64 0] 50)).alloc (.cells #[.int .i64 0, .int .i64 0] 50)).drew = W0 := ⟨_, rfl⟩
  have hN0 : W0.heap[W.heap.size]? = some (.cells #[.int .i64 0, .int .i64 0] 50 (0, 0)) := by
    rw [← hW0]; exact blk_alloc (blk_new W _) _
  have hI0 : W0.heap[W.heap.size + 1]? = some (.cells #[.int .i64 0, .int .i64 0] 50 (0, 0)) := by
    rw [← hW0]; have := blk_new (W.alloc (.cells #[.int .i64 0, .int .i64 0] 50)) (.cells #[.int .i64 0, .int .i64 0] 50); rwa [World.size_alloc] at this
  have hb00 : Below W.heap.size W W0 := by rw [← hW0]; exact (((Below.refl _ W).alloc (Nat.le_refl _) _).alloc (by simp) _).drew
  rw [hW0]
  clear hW0
  have hJ0 : J [] W0 := hJ _ _ _ h0 (Turn.of_below (Nat.le_refl _) hb00)
  have ha2 := ha1.below hb00
  have hb2 := hb1.below hb00
  have ca0 := (hA1.below hb00).one.1
  have cb0 := (hB1.below hb00).one.1
  have hcall := hends W0 ha2 hb2
  clear hends ha1 hb1 hA1 hB1 ca cb h0
  gi_wp2
  refine ⟨trivial, fun _ => by omega, ?_⟩
  refine (callsIn_wide.2 hcall).mono ?_
  rintro e W1 ⟨v', rfl, hown, hb01⟩
  clear hcall
  obtain ⟨p, cap, rfl⟩ := own_shape hown
  gi_wp2
  have hN1 := (hb01.block _ (Array.getElem?_eq_some_iff.1 hN0).1).trans hN0
  have hI1 := (hb01.block _ (Array.getElem?_eq_some_iff.1 hI0).1).trans hI0
  have hJ1 : J [] W1 := hJ _ _ _ hJ0 (Turn.of_below hb00.size hb01)
  have hBW1 : W.heap.size ≤ W1.heap.size := Nat.le_trans hb00.size hb01.size
  gi_loopw [5, 16] (fun atv i wr => ∃ (k : Nat) (x c0 c1 : Int) (pre : List (Sp × (Int × Int))), k ≤ es.length ∧ atv = .int .i64 x ∧ i = .int .i64 k ∧ wr.heap[W.heap.size]? = some (.cells #[.int .i64 0, .int .i64 0] 50 (0, 0)) ∧
      wr.heap[W.heap.size + 1]? = some (.cells #[.int .i64 c0, .int .i64 c1] 50 (0, 0)) ∧ (∀ (g : Nat) (cur : Array Value), W1.heap[g]? = some (.cells cur 57 (0, 0)) → wr.heap[g]? = some (.cells cur 57 (0, 0))) ∧
      J pre wr ∧ PL = pre ++ pcs x (c0, c1) (es.drop k) ∧ -(k : Int) ≤ c0 ∧ c0 ≤ k ∧ -(k : Int) ≤ c1 ∧ c1 ≤ k ∧ W1.heap.size ≤ wr.heap.size)
    (fun _ i _ => es.length - (intOf i).toNat)
  case atStart => exact ⟨0, 0, 0, 0, [], by omega, rfl, rfl, hN1, hI1, fun _ _ h => h, hJ1, hpl, by omega, by omega, by omega, by omega, Nat.le_refl _⟩
  case round =>
    obtain ⟨k, x, c0, c1, pre, hk, rfl, rfl, hN, hI, hrw, hJr, hPL, q1, q2, q3, q4, hsz⟩ := hrel
    by_cases hkl : k < es.length
    · obtain ⟨g, rfl, hrow⟩ : ∃ g, p = some ⟨g, 0, none⟩ ∧ (wr.cell? ⟨g, k * 3, none⟩ = some (.int .i64 (es[k]).1) ∧ wr.cell? ⟨g, k * 3 + 1, none⟩ = some (.int .i64 (es[k]).2.1) ∧ wr.cell? ⟨g, k * 3 + 2, none⟩ = some (.int .i64 (es[k]).2.2)) := by
        obtain ⟨_, ⟨he, h0⟩ | ⟨g, cap', cur, he, hg, hh, _, _, _, ht⟩⟩ := hown
        · omega
        · cases he; exact ⟨g, rfl, row_cells (hrw _ _ hh) ht k hkl⟩
      obtain ⟨r0, r1, r2⟩ := hrow
      obtain ⟨m1, m2⟩ := hem _ (List.getElem_mem hkl)
      rw [List.drop_eq_getElem_cons hkl] at hPL
      generalize es[k] = e at r0 r1 r2 m1 m2 hPL
      obtain ⟨e0, e1, e2⟩ := e
      simp only at r0 r1 r2 m1 m2
      obtain ⟨n0, n1, fn0, fn1, zn⟩ := blk2 hN
      obtain ⟨i0, i1, fi0, fi1, zi⟩ := blk2 hI
      obtain ⟨W2, hW2⟩ : ∃ W2, (wr.alloc (.cells #[.int .i64 e0, .int .i64 e1, .int .i64 e2] 57)).alloc (.cells #[.int .i64 x, .int .i64 e0] 42) = W2 := ⟨_, rfl⟩
      have hB2 : Below wr.heap.size wr W2 := by rw [← hW2]; exact ((Below.refl _ wr).alloc (Nat.le_refl _) _).alloc (by simp) _
      have hE2 : W2.heap[wr.heap.size]? = some (.cells #[.int .i64 e0, .int .i64 e1, .int .i64 e2] 57 (0, 0)) := by
        rw [← hW2]; exact blk_alloc (blk_new wr _) _
      have hN2 := (hB2.block _ zn).trans hN
      have hI2 := (hB2.block _ zi).trans hI
      have hP2 : W2.heap[wr.heap.size + 1]? = some (.cells #[.int .i64 x, .int .i64 e0] 42 (0, 0)) := by
        rw [← hW2]; have := blk_new (wr.alloc (.cells #[.int .i64 e0, .int .i64 e1, .int .i64 e2] 57)) (.cells #[.int .i64 x, .int .i64 e0] 42); rwa [World.size_alloc] at this
      obtain ⟨p0, p1, _, _, zp⟩ := blk2 hP2
      obtain ⟨ee0, ee1, ee2, ze⟩ := blk3 hE2
      obtain ⟨n0', n1', _, _, zn'⟩ := blk2 hN2
      obtain ⟨i0', i1', fi0', fi1', zi'⟩ := blk2 hI2
      have hJ2 : J pre W2 := hJ _ _ _ hJr (Turn.of_below (by omega) hB2)
      have hne := neq_arr c0 c1 0 0
      by_cases hy : x < e0 ∧ ¬ (c0 = 0 ∧ c1 = 0)
      · obtain ⟨hy1, hy2⟩ := hy
        have hz : (c0 == 0 && c1 == 0) = false := by simpa using hy2
        rw [hz] at hne
        rw [pcs, if_pos ⟨hy1, hy2⟩] at hPL
        have hlen : pre.length < PL.length := by rw [hPL]; simp
        obtain ⟨fn, tmps, assign, body, hyy, hR⟩ := hY pre ((x, e0), (c0, c1)) W2 hJ2 hlen
        dsimp only [encP] at hyy
        clear hY hem
        gi_wp2
        refine ⟨fun _ => by omega, ?_⟩
        refine hR.mono ?_
        rintro e W3 ⟨rfl, hJ3, hk3⟩
        have hE3 := hk3.2 _ _ _ _ hE2 (by decide)
        have hN3 := hk3.2 _ _ _ _ hN2 (by decide)
        have hI3 := hk3.2 _ _ _ _ hI2 (by decide)
        have hrw3 : ∀ (g : Nat) (cur : Array Value), W1.heap[g]? = some (.cells cur 57 (0, 0)) → W3.heap[g]? = some (.cells cur 57 (0, 0)) := fun g cur h =>
          hk3.2 _ _ _ _ ((hB2.block _ (Array.getElem?_eq_some_iff.1 (hrw g cur h)).1).trans (hrw g cur h)) (by decide)
        have hsz3 : W1.heap.size ≤ W3.heap.size := by have := hk3.1; have := hB2.size; omega
        clear hR hk3 hyy hB2
        obtain ⟨t0, t1, t2, tz⟩ := blk3 hE3
        obtain ⟨s0, s1, sf0, sf1, sz⟩ := blk2 hI3
        clear p0 p1 ee0 ee1 ee2 n0' n1' i0' i1' fi0' fi1' r0 r1 r2 n0 n1 fn0 fn1 i0 i1 fi0 fi1 hE2 hN2 hI2 hP2 hW2 hN hI hrw hJ2 hJr
        rcases m1 with rfl | rfl
        · gi_wp2
          gi_region
          all_goals gi_wp2
          refine ⟨⟨k + 1, e0, c0 + e2, c1, pre ++ [((x, e0), (c0, c1))], by omega, rfl, by go_num, (st_oth (by omega)).trans hN3, (st_blk hI3).trans (by rfl), fun g cur h => (st_oth (fun e => by subst e; have := hrw3 _ _ h; rw [hI3] at this; cases this)).trans (hrw3 g cur h), hJ _ _ _ hJ3 (st_turn (by omega) hI3), by rw [hPL]; simp [bump], by omega, by omega, by omega, by omega, by rw [st_size]; exact hsz3⟩, by simp [intOf]; omega⟩
        · gi_wp2
          gi_region
          all_goals gi_wp2
          refine ⟨⟨k + 1, e0, c0, c1 + e2, pre ++ [((x, e0), (c0, c1))], by omega, rfl, by go_num, (st_oth (by omega)).trans hN3, (st_blk hI3).trans (by rfl), fun g cur h => (st_oth (fun e => by subst e; have := hrw3 _ _ h; rw [hI3] at this; cases this)).trans (hrw3 g cur h), hJ _ _ _ hJ3 (st_turn (by omega) hI3), by rw [hPL]; simp [bump], by omega, by omega, by omega, by omega, by rw [st_size]; exact hsz3⟩, by simp [intOf]; omega⟩
      · rw [pcs, if_neg hy, List.nil_append] at hPL
        clear hY hem
        by_cases hy1 : x < e0
        · have hz : (c0 == 0 && c1 == 0) = true := by simpa using (fun h => hy ⟨hy1, h⟩)
          rw [hz] at hne
          obtain ⟨W3, hW3⟩ : ∃ W3, W3 = W2 := ⟨_, rfl⟩
          have hE3 := hE2
          have hN3 := hN2
          have hI3 := hI2
          have hJ3 := hJ2
          have hrw3 : ∀ (g : Nat) (cur : Array Value), W1.heap[g]? = some (.cells cur 57 (0, 0)) → W2.heap[g]? = some (.cells cur 57 (0, 0)) := fun g cur h => (hB2.block _ (Array.getElem?_eq_some_iff.1 (hrw g cur h)).1).trans (hrw g cur h)
          have hsz3 : W1.heap.size ≤ W2.heap.size := by have := hB2.size; omega
          clear hB2 hE2 hN2 hI2 hP2 hJ2 hN hI hrw hJr hW3
          rcases m1 with rfl | rfl
          · gi_wp2
            refine ⟨fun _ h => (by cases h), ?_⟩
            gi_wp2
            gi_region
            all_goals gi_wp2
            refine ⟨⟨k + 1, e0, c0 + e2, c1, pre, by omega, rfl, by go_num, (st_oth (by omega)).trans hN3, (st_blk hI3).trans (by rfl), fun g cur h => (st_oth (fun e => by subst e; have := hrw3 _ _ h; rw [hI3] at this; cases this)).trans (hrw3 g cur h), hJ _ _ _ hJ3 (st_turn (by omega) hI3), by rw [hPL]; simp [bump], by omega, by omega, by omega, by omega, by rw [st_size]; exact hsz3⟩, by simp [intOf]; omega⟩
          · gi_wp2
            refine ⟨fun _ h => (by cases h), ?_⟩
            gi_wp2
            gi_region
            all_goals gi_wp2
            refine ⟨⟨k + 1, e0, c0, c1 + e2, pre, by omega, rfl, by go_num, (st_oth (by omega)).trans hN3, (st_blk hI3).trans (by rfl), fun g cur h => (st_oth (fun e => by subst e; have := hrw3 _ _ h; rw [hI3] at this; cases this)).trans (hrw3 g cur h), hJ _ _ _ hJ3 (st_turn (by omega) hI3), by rw [hPL]; simp [bump], by omega, by omega, by omega, by omega, by rw [st_size]; exact hsz3⟩, by simp [intOf]; omega⟩
        · have hy2 : e0 ≤ x := by omega
          clear hne
          obtain ⟨W3, hW3⟩ : ∃ W3, W3 = W2 := ⟨_, rfl⟩
          have hE3 := hE2
          have hN3 := hN2
          have hI3 := hI2
          have hJ3 := hJ2
          have hrw3 : ∀ (g : Nat) (cur : Array Value), W1.heap[g]? = some (.cells cur 57 (0, 0)) → W2.heap[g]? = some (.cells cur 57 (0, 0)) := fun g cur h => (hB2.block _ (Array.getElem?_eq_some_iff.1 (hrw g cur h)).1).trans (hrw g cur h)
          have hsz3 : W1.heap.size ≤ W2.heap.size := by have := hB2.size; omega
          clear hB2 hE2 hN2 hI2 hP2 hJ2 hN hI hrw hJr hW3
          rcases m1 with rfl | rfl
          · gi_wp2
            refine ⟨fun _ h => (by cases h), ?_⟩
            gi_wp2
            gi_region
            all_goals gi_wp2
            refine ⟨⟨k + 1, e0, c0 + e2, c1, pre, by omega, rfl, by go_num, (st_oth (by omega)).trans hN3, (st_blk hI3).trans (by rfl), fun g cur h => (st_oth (fun e => by subst e; have := hrw3 _ _ h; rw [hI3] at this; cases this)).trans (hrw3 g cur h), hJ _ _ _ hJ3 (st_turn (by omega) hI3), by rw [hPL]; simp [bump], by omega, by omega, by omega, by omega, by rw [st_size]; exact hsz3⟩, by simp [intOf]; omega⟩
          · gi_wp2
            refine ⟨fun _ h => (by cases h), ?_⟩
            gi_wp2
            gi_region
            all_goals gi_wp2
            refine ⟨⟨k + 1, e0, c0, c1 + e2, pre, by omega, rfl, by go_num, (st_oth (by omega)).trans hN3, (st_blk hI3).trans (by rfl), fun g cur h => (st_oth (fun e => by subst e; have := hrw3 _ _ h; rw [hI3] at this; cases this)).trans (hrw3 g cur h), hJ _ _ _ hJ3 (st_turn (by omega) hI3), by rw [hPL]; simp [bump], by omega, by omega, by omega, by omega, by rw [st_size]; exact hsz3⟩, by simp [intOf]; omega⟩
    · have hk2 : k = es.length := by omega
      subst hk2
      rw [List.drop_eq_nil_of_le (Nat.le_refl _), pcs, List.append_nil] at hPL
      gi_wp2
      go_end0
      exact ⟨⟨_, rfl⟩, by rw [hPL]; exact hJr⟩

end Go.Proofs.Ytfhhkbijcleedaa
