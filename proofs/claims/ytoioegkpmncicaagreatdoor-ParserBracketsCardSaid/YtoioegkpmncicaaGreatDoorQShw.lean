/-
  An argument that is a slice of tokens: what it reads.
-/
import Derived.Test.YtoioegkpmncicaaGreatDoorQd
import Derived.Deep.Slices
import Derived.Deep.Strs
import Derived.ChangeSame
import Derived.ChangeSlices
import Derived.Test.YtoioegkpmncicaaGreatDoorQi
import Derived.ChangeArms
import Derived.Test.YtoioegkpmncicaaGreatDoorQc
import Derived.Lib.ItoaNum
import Derived.LoopN
import Derived.Laws.AppendOwn
import Derived.Laws.AppendOwnNone
import Derived.Laws.IdiomStrings
import Derived.Test.YtoioegkpmncicaaGreatDoorQe
import Derived.Test.YtoioegkpmncicaaGreatDoorQh
import Derived.Test.YtoioegkpmncicaaGreatDoorQa
import Derived.Maps.Own
import Derived.Test.YtoioegkpmncicaaGreatDoorProg
import Derived.Test.YtoioegkpmncicaaGreatDoorQn
import Derived.Test.YtoioegkpmncicaaGreatDoorQg
namespace Go.Proofs.YtoioegkpmncicaaGreatDoor
open Go.ChangeShapes Go.WideShapes Go.RowKit Go.Deep
set_option maxRecDepth 100000

theorem ladd_add (a : Addr) (m n : Nat) : (a.add m).add n = a.add (m + n) := by
  induction n with
  | zero => unfold Addr.add; split <;> simp_all
  | succ n ih => rw [ladd_succ, ih, ← Nat.add_assoc, ladd_succ]
theorem lblock_lt {w : World} {a : Addr} {v : Value} (h : w.cell? a = some v) : a.block < w.heap.size := by
  unfold World.cell? at h
  rcases Nat.lt_or_ge a.block w.heap.size with hl | hg
  · exact hl
  · rw [Array.getElem?_eq_none hg] at h; cases h
theorem toks_of_trod {H : Type} {enc : TypeId × Value → H} {W : World} {base : Nat} {held : Bool} {p : Option Addr} {n c : Nat} {d : DataW H} {ps : List MemPlace}
    (h : DataW.Trod enc Tryz.prog W base (fun _ => true) held 37 (.slice p n c) d ps) : ∃ l, Toks W (.slice p n c) l := by
  obtain ⟨fuel, hf⟩ := h
  have hce : Tryz.prog.cellsOf 41 = 3 := by kernel_rfl
  have hci : Tryz.prog.cellsOf 3 = 1 := by kernel_rfl
  have hcs' : Tryz.prog.cellsOf 9 = 1 := by kernel_rfl
  rcases open_slice Tryz.underlying37 hf with ⟨hcs, _⟩ | ⟨a, len, cap, m, k, D, Pl, hcs, hbl, hlc, hcm, hm, _, hall⟩
  · simp [Value.cells] at hcs
    obtain ⟨rfl, rfl, rfl⟩ := hcs
    exact ⟨[], ⟨_, _, rfl⟩, fun _ _ _ _ i hi => by simp at hi, fun s hs => (by cases hs), by simp⟩
  · simp [Value.cells] at hcs
    obtain ⟨rfl, rfl, rfl⟩ := hcs
    simp only [if_true] at hm
    subst hm
    have hint : ∀ i, i < n → ∃ x : RT, W.cell? (a.add (i * 3)) = some (.int .i64 x.k) ∧ W.cell? (a.add (i * 3 + 1)) = some (.int .i64 x.n) ∧ W.cell? (a.add (i * 3 + 2)) = some (.string ⟨x.t.toArray⟩) ∧
        (I64 x.k ∧ I64 x.n ∧ x.t.length ≤ 9223372036854775807) := by
      intro i hi
      obtain ⟨cs', h1, h2⟩ := hall i (by omega)
      rw [hce] at h1
      obtain ⟨_, hlen, hcell⟩ := World.cells?_some h1
      obtain ⟨y0, y1, y2, k1, _, _, g0, g1, g2⟩ := trod_struct3 Tryz.underlying41 h2
      match cs', hlen with
      | [v0, v1, v2], _ =>
        simp only [hci, hcs'] at g0 g1 g2
        obtain ⟨x0, e0, _, w0⟩ := DataW.trod_int Tryz.underlying3 g0
        obtain ⟨x1, e1, _, w1⟩ := DataW.trod_int Tryz.underlying3 g1
        obtain ⟨x2, e2, _, w2⟩ := DataW.trod_string Tryz.underlying9 g2
        simp at e0 e1 e2
        subst e0 e1 e2
        simp only [Lit.wf, Bool.and_eq_true, decide_eq_true_eq] at w0 w1
        have c0 := hcell 0 (by omega)
        have c1 := hcell 1 (by omega)
        have c2 := hcell 2 (by omega)
        rw [ladd_add] at c0 c1 c2
        have hx2 : (⟨x2.data.toList.toArray⟩ : ByteArray) = x2 := congrArg ByteArray.mk (Array.toArray_toList (xs := x2.data))
        refine ⟨⟨x0, x1, x2.data.toList⟩, by simpa using c0, by simpa using c1, ?_, w0, w1, ?_⟩
        · simp only [hx2]; simpa using c2
        · have : x2.data.toList.length = x2.size := Array.length_toList
          unfold maxLen at w2
          show x2.data.toList.length ≤ _; omega
    haveI : Inhabited RT := ⟨⟨0, 0, []⟩⟩
    obtain ⟨X, hX⟩ := choose_lt hint
    refine ⟨(List.range n).map X, ⟨some a, m, by simp⟩, fun ad n' cap' e i hi => ?_, fun s hs => ?_, by unfold maxLen at hcm; simp; omega⟩
    · cases e
      have hi' : i < n := by simpa using hi
      obtain ⟨g0, g1, g2, _⟩ := hX i hi'
      have hbk := lblock_lt g0
      rw [lblk_add] at hbk
      refine ⟨a, rfl, hbk, ?_, ?_, ?_⟩
      · rw [g0]; simp
      · rw [g1]; simp
      · rw [g2]; simp
    · simp only [List.mem_map, List.mem_range] at hs
      obtain ⟨i, hi, rfl⟩ := hs
      exact (hX i hi).2.2.2
end Go.Proofs.YtoioegkpmncicaaGreatDoor
namespace Go.Proofs.YtoioegkpmncicaaGreatDoor
open Go.ChangeShapes Go.WideShapes Go.RowKit Go.Deep
set_option maxRecDepth 100000

theorem tree_trod {H : Type} {enc : TypeId × Value → H} {W : World} {base : Nat} {spare : Nat → Bool} {held : Bool} (fuel : Nat) : ∀ {cs : List Value} {x : DataW H × List MemPlace}, DataW.trod enc Tryz.prog W base spare held fuel 24 cs = some x →
    ∃ v0 v1 v2 e, cs = [v0, v1, v2] ∧ Tree (fun _ => False) W e (.agg #[v0, v1, v2]) := by
  induction fuel using Nat.strongRecOn with
  | ind fuel ih =>
    intro cs x h
    have hce : Tryz.prog.cellsOf 24 = 3 := by kernel_rfl
    have hci : Tryz.prog.cellsOf 3 = 1 := by kernel_rfl
    have hcs' : Tryz.prog.cellsOf 22 = 1 := by kernel_rfl
    obtain ⟨xs, n, hn, _, hl, hlen, hf⟩ := DataW.trod_struct Tryz.underlying24 h
    rw [hce] at hl
    match xs, hlen with
    | [y0, y1, y2], _ =>
      match cs, hl with
      | [v0, v1, v2], _ =>
        have g0' : DataW.trod enc Tryz.prog W base spare held n 3 [v0] = some y0 := by
          have g : DataW.trod enc Tryz.prog W base spare held n 3 (([v0, v1, v2].drop 0).take (Tryz.prog.cellsOf 3)) = some y0 := hf 0 _ rfl
          rw [hci] at g
          exact g
        have g1' : DataW.trod enc Tryz.prog W base spare held n 3 [v1] = some y1 := by
          have g : DataW.trod enc Tryz.prog W base spare held n 3 (([v0, v1, v2].drop 1).take (Tryz.prog.cellsOf 3)) = some y1 := hf 1 _ rfl
          rw [hci] at g
          exact g
        have g2' : DataW.trod enc Tryz.prog W base spare held n 22 [v2] = some y2 := by
          have g : DataW.trod enc Tryz.prog W base spare held n 22 (([v0, v1, v2].drop 2).take (Tryz.prog.cellsOf 22)) = some y2 := hf 2 _ rfl
          rw [hcs'] at g
          exact g
        obtain ⟨x0, e0, _, _⟩ := DataW.trod_int Tryz.underlying3 g0'
        obtain ⟨x1, e1, _, _⟩ := DataW.trod_int Tryz.underlying3 g1'
        simp at e0 e1
        subst e0 e1
        rcases DataW.trod_slice Tryz.underlying22 g2' with ⟨e2, _⟩ | ⟨a, len, cap, elems, rest, m, hm, e2, _, _, hlc, hcm, hel, hev, _⟩
        · simp at e2
          subst e2
          exact ⟨_, _, _, leafE x0 x1, rfl, tree_leaf _ _ _ _ _ _⟩
        · simp at e2
          subst e2
          have each : ∀ i, i < len → ∃ q : Xp × Value × Value × Value, W.cell? (a.add (i * 3)) = some q.2.1 ∧ W.cell? (a.add (i * 3 + 1)) = some q.2.2.1 ∧ W.cell? (a.add (i * 3 + 2)) = some q.2.2.2 ∧ Tree (fun _ => False) W q.1 (.agg #[q.2.1, q.2.2.1, q.2.2.2]) := by
            intro i hi
            have h1 := hev i hi
            rw [hce, List.getElem?_eq_getElem (by omega)] at h1
            obtain ⟨cs', hc', h2⟩ := Option.bind_eq_some_iff.1 h1
            obtain ⟨w0, w1, w2, e, rfl, ht⟩ := ih m (by omega) h2
            obtain ⟨_, _, hcell⟩ := World.cells?_some hc'
            have c0 := hcell 0 (by simp)
            have c1 := hcell 1 (by simp)
            have c2 := hcell 2 (by simp)
            rw [ladd_add] at c0 c1 c2
            exact ⟨(e, w0, w1, w2), by simpa using c0, by simpa using c1, by simpa using c2, ht⟩
          haveI : Inhabited (Xp × Value × Value × Value) := ⟨(leafE 0 0, .nilIface, .nilIface, .nilIface)⟩
          obtain ⟨X, hX⟩ := choose_lt each
          have hll : ((List.range len).map fun i => (X i).1).length = len := by simp
          refine ⟨_, _, _, .mk x0 x1 ((List.range len).map fun i => (X i).1), rfl, tree_mk.2 ⟨some a, cap, by rw [hll], by rw [hll]; unfold maxLen at hcm; omega, ?_⟩⟩
          by_cases hz : len = 0
          · subst hz; simp [Trees]
          · have hb : a.block < W.heap.size := by
              have := lblock_lt (hX 0 (by omega)).1
              rwa [lblk_add] at this
            refine trees_of hb (fun hf => hf) fun k hk => ?_
            have hk' : k < len := by rw [hll] at hk; exact hk
            obtain ⟨g0, g1, g2, g3⟩ := hX k hk'
            rw [Nat.zero_add]
            exact ⟨_, _, _, g0, g1, g2, by simpa using g3⟩
/-- the value of an argument of type api.Expr, as the call is handed it -/
theorem tree_of_trod {H : Type} {enc : TypeId × Value → H} {W : World} {base b0 : Nat} {r : Reach} {spare : Nat → Bool} {held : Bool} {v : Value} {d : DataW H} {ps : List MemPlace}
    (hv : Value.okWide Tryz.prog W r b0 24 v) (h : DataW.Trod enc Tryz.prog W base spare held 24 v d ps) : ∃ e, Tree (fun _ => False) W e v := by
  obtain ⟨cs, rfl, _⟩ := okWide_struct Tryz.underlying24 hv
  obtain ⟨fuel, hf⟩ := h
  obtain ⟨u0, u1, u2, e, he, ht⟩ := tree_trod fuel hf
  have hcs : cs = #[u0, u1, u2] := by
    have : cs.toList = [u0, u1, u2] := he
    cases cs; simpa using this
  subst hcs
  exact ⟨e, ht⟩
end Go.Proofs.YtoioegkpmncicaaGreatDoor
namespace Go.Proofs.YtoioegkpmncicaaGreatDoor.Dg
open Go.RowKit Go.Shelf
set_option maxRecDepth 100000

def vB (x : UInt8) : Value := .int .u8 (x.toNat : Int)
/-- v is a slice whose places, one cell each, read xs -/
structure Row (w : World) (v : Value) (xs : List Value) : Prop where
  shape : ∃ ad cap, v = .slice ad xs.length cap
  cells : ∀ ad n cap, v = .slice ad n cap → ∀ i (h : i < xs.length), ∃ a, ad = some a ∧ a.block < w.heap.size ∧ w.cell? (a.add i) = some xs[i]
  short : xs.length ≤ 9223372036854775807
  bare : ∀ n cap, v = .slice none n cap → n = 0 ∧ cap = 0
theorem blk_add (a : Addr) (i : Nat) : (a.add i).block = a.block := by unfold Addr.add; split <;> rfl
theorem Row.below {w w1 : World} {v : Value} {l : List Value} (h : Row w v l) (hb : Below w.heap.size w w1) : Row w1 v l := by
  refine ⟨h.shape, fun ad n cap e i hi => ?_, h.short, h.bare⟩
  obtain ⟨a, h0, h1, h2⟩ := h.cells ad n cap e i hi
  exact ⟨a, h0, Nat.lt_of_lt_of_le h1 hb.size, (hb.cell (p := a.add i) (by rw [blk_add]; exact h1)).trans h2⟩
theorem Row.nil (w : World) : Row w (.slice none 0 0) [] := ⟨⟨_, _, rfl⟩, fun _ _ _ _ i h => by simp at h, by simp, fun n cap h => by cases h; exact ⟨rfl, rfl⟩⟩
/-- a slice of the call's own that reads xs, in blocks from base on -/
def OwnRow (w : World) (base : Nat) (e : TypeId) (v : Value) (xs : List Value) : Prop := w.ownsRow base e 1 v xs.length xs
theorem add_zero0 (g m : Nat) : (⟨g, 0, none⟩ : Addr).add m = ⟨g, m, none⟩ := by
  unfold Addr.add; split
  · next h => subst h; rfl
  · simp
theorem Row.of_own {w : World} {v : Value} {xs : List Value} {base : Nat} {e : TypeId} (h : OwnRow w base e v xs) (hs : xs.length ≤ 9223372036854775807) : Row w v xs := by
  obtain ⟨_, ⟨h1, h0⟩ | ⟨g, cap', cur, hv, _, hh, _, _, _, hct⟩⟩ := h
  · rw [List.length_eq_zero_iff] at h0
    subst h0 h1
    exact Row.nil w
  · refine ⟨⟨_, _, hv⟩, fun ad n cap e i hil => ?_, hs, fun n cap e => ?_⟩
    · rw [hv] at e; cases e
      refine ⟨_, rfl, (Array.getElem?_eq_some_iff.1 hh).1, ?_⟩
      rw [add_zero0]
      have h2 : (cur.toList.take (xs.length * 1))[i]? = some xs[i] := by rw [hct]; exact List.getElem?_eq_getElem hil
      rw [List.getElem?_take] at h2
      split at h2
      · simpa [World.cell?, hh] using h2
      · cases h2
    · rw [hv] at e; cases e
theorem own_below {w w1 : World} {base : Nat} {e : TypeId} {v : Value} {xs : List Value} (h : OwnRow w base e v xs) (hb : Below w.heap.size w w1) : OwnRow w1 base e v xs := by
  obtain ⟨h0, h1 | ⟨g, cap, cur, hv, hg, hh, hr⟩⟩ := h
  · exact ⟨h0, .inl h1⟩
  · exact ⟨h0, .inr ⟨g, cap, cur, hv, hg, (hb.block g (Array.getElem?_eq_some_iff.1 hh).1).trans hh, hr⟩⟩
theorem OwnRow.nil (w : World) (base : Nat) (e : TypeId) : OwnRow w base e (.slice none 0 0) [] := ⟨rfl, .inl ⟨rfl, rfl⟩⟩
/-- behind the append: the row is longer; only its own block has changed -/
theorem grown_below {w w' : World} {base : Nat} {e : TypeId} {v : Value} {xs : List Value} (ho : OwnRow w base e v xs) (hg : w.grownBy w' v.ownBlock) (hB : base ≤ w.heap.size) : Below base w w' := by
  refine (Below.refl base w).grown hg hB (fun k hk => ?_)
  obtain ⟨_, ⟨rfl, _⟩ | ⟨g, cap, cur, rfl, hg, _⟩⟩ := ho
  · cases hk
  · cases hk; exact hg

section
variable {ops : Array Oper} {rest : List Oper} {o : Oper} {a : Act} {Q : Exit → Act → World → Prop}
theorem app_row (w : World) (hgd : o.guard = none) (s x : Operand) (t : TypeId) (ho : o.op = .call { callee := .builtin .append, args := #[s, x], argTypes := #[t, t] })
    (base : Nat) (e : TypeId) (z : Value) (bytes : Nat) (ht : Tryz.prog.underlying t = some (.slice e)) (hi : (Tryz.prog.info? e).map (fun i => (i.zero, i.size, i.bytes)) = some (some z, 1, bytes)) (hz : z.cells.size = 1) (h24 : bytes ≤ 24)
    (v : Value) (xs : List Value) (hs : a.eval s = v) (hown : OwnRow w base e v xs) (vx : Value) (ys : List Value) (hx : a.eval x = vx) (hr : Row w vx ys) (h1 : ∀ u ∈ ys, u.oneCell' = true)
    (hlim : xs.length + ys.length ≤ 1000000000) (hB : base ≤ w.heap.size)
    (h : ∀ v' w', OwnRow w' base e v' (xs ++ ys) → Below base w w' → wpList Tryz.prog ops Q rest (a.put o.dst v') w') : wpList Tryz.prog ops Q (o :: rest) a w := by
  obtain ⟨i, hi, hz0, hz1, hz2⟩ := info_parts hi
  obtain ⟨ad, cap, rfl⟩ := hr.shape
  cases ad with
  | none =>
    obtain ⟨h0, rfl⟩ := hr.bare _ _ rfl
    rw [h0] at hx
    rw [List.length_eq_zero_iff] at h0
    subst h0
    refine wpList_append_own_none hgd s x t ho base e i 1 ht hi v _ xs hs hown hx ?_
    have := h v w (by rw [List.append_nil]; exact hown) (Below.refl _ _)
    exact this
  | some ad =>
    refine wpList_append_own w hgd s x t ho base e i z 1 bytes ht hi hz0 hz1 hz2 hz (by decide) v xs.length xs hs hown ad ys.length cap ys hx (by simp) ?_ h1 (by unfold maxLen; omega) (by have := Nat.mul_le_mul hlim h24; omega) hB ?_
    · intro j u hj
      obtain ⟨hl, rfl⟩ := List.getElem?_eq_some_iff.1 hj
      obtain ⟨a', e', _, hc⟩ := hr.cells _ _ _ rfl j hl
      cases e'; exact hc
    · intro v' w' hown' hg _
      exact h v' w' (by unfold OwnRow; rw [List.length_append]; exact hown') (grown_below hown hg hB)
end
/-- the digits, the lowest one first; none for 0 -/
def rd (u : Nat) : List UInt8 := if h : u = 0 then [] else UInt8.ofNat (48 + u % 10) :: rd (u / 10)
termination_by u
decreasing_by omega
theorem rd_zero : rd 0 = [] := by rw [rd]; simp
theorem rd_pos {u : Nat} (h : 0 < u) : rd u = UInt8.ofNat (48 + u % 10) :: rd (u / 10) := by rw [rd, dif_neg (by omega)]
theorem dec_rd : ∀ (u : Nat), 0 < u → Lib.decDigits u = (rd u).reverse := by
  intro u
  induction u using Nat.strongRecOn with
  | _ u ih =>
    intro h
    rw [Lib.decDigits, rd_pos h, List.reverse_cons]
    split
    · next h10 => rw [show u / 10 = 0 by omega, rd_zero, show u % 10 = u by omega]; rfl
    · next h10 => rw [ih (u / 10) (by omega) (by omega)]
theorem rd_len : ∀ (k u : Nat), u < 10 ^ k → (rd u).length ≤ k := by
  intro k
  induction k with
  | zero => intro u h; obtain rfl : u = 0 := by omega
            rw [rd_zero]; simp
  | succ k ih =>
    intro u h
    by_cases h0 : u = 0
    · rw [h0, rd_zero]; simp
    · rw [rd_pos (by omega), List.length_cons]
      have := ih (u / 10) (by rw [Nat.pow_succ] at h; omega)
      omega
theorem itoa_rd (n : Int) (h : n ≠ 0) : Lib.itoa n = (rd n.natAbs ++ (if n < 0 then [45] else [])).reverse := by
  unfold Lib.itoa
  split
  · next hn => rw [dec_rd _ (by omega), List.reverse_append]; rfl
  · next hn => rw [dec_rd _ (by omega), List.append_nil, show n.toNat = n.natAbs by omega]
theorem byte_one {l : List UInt8} : ∀ u ∈ l.map vB, u.oneCell' = true := by
  intro u hu
  obtain ⟨x, _, rfl⟩ := List.mem_map.1 hu
  rfl
theorem byte_row {w : World} {B : Nat} {x : Value} {c : Nat} (h : Own w B [x]) : Row w (.slice (some ⟨B, 0, none⟩) 1 c) [x] := by
  refine ⟨⟨_, _, rfl⟩, fun ad n cap e i hi => ?_, by simp, fun n cap e => by cases e⟩
  cases e
  obtain ⟨c0, _, z⟩ := h.one
  refine ⟨_, rfl, z, ?_⟩
  have : i = 0 := by simpa using hi
  subst this
  rw [add_zero0]; exact c0
theorem conv_bytes {w : World} {base : Nat} {v : Value} {l : List UInt8} (h : OwnRow w base 5 v (l.map vB)) (hl : 0 < l.length) : (convert 93 9 v).run Tryz.prog w = .ok (.string ⟨l.toArray⟩) w := by
  obtain ⟨_, ⟨_, h0⟩ | ⟨g, cap', cur, hv, _, hh, _, _, _, hct⟩⟩ := h
  · simp at h0; simp [h0] at hl
  · rw [hv, List.length_map]
    refine run_convert_bytes_back w _ _ 5 _ cap' l Tryz.underlying93 Tryz.underlying5 Tryz.underlying9 fun j hj => ?_
    rw [add_zero0]
    have h2 : (cur.toList.take ((l.map vB).length * 1))[j]? = some (vB l[j]) := by rw [hct]; simp [hj]
    rw [List.getElem?_take] at h2
    split at h2
    · simpa [World.cell?, hh, vB] using h2
    · cases h2
set_option maxHeartbeats 4000000 in
theorem decimal_any (n : Int) (hn : I64 n) (w : World) : Calls Tryz.prog 25 #[.int .i64 n] w (Ret (.string ⟨(Lib.itoa n).toArray⟩) w) := by
  have hn1 := hn.1
  have hn2 := hn.2
  by_cases h0 : n = 0
  · subst h0
    have e0 : Lib.itoa 0 = [48] := by rw [Lib.itoa, if_neg (by omega), Lib.decDigits, dif_pos (by decide)]; rfl
    rw [e0]
    go_enter Tryz.func25, Tryz.ntmps25
    go_wp2_with fail
    go_ret
    exact Ret.mk rfl (by (repeat (first | exact Below.refl _ _ | assumption | refine Below.drew ?_ | refine below_drewN ?_ _ | refine Below.setCell ?_ (by first | omega | (simp <;> omega)) _ | refine Below.alloc ?_ (by first | omega | (simp <;> omega)) _)))
  have hlen := rd_len 19 n.natAbs (by omega)
  generalize hres : Lib.itoa n = res
  rw [itoa_rd n h0] at hres
  replace hres := Lib.hid hres
  have hne : (n == 0) = false := by simpa using h0
  clear h0
  go_enter Tryz.func25, Tryz.ntmps25
  go_wp2_with fail
  go_loopw [3, 4] (fun v m wr => ∃ (u : Nat) (x : Int) (l : List UInt8), m = .int .i64 x ∧ x.natAbs = u ∧ (n < 0 → x ≤ 0) ∧ (0 < n → 0 ≤ x) ∧ I64 x ∧ rd n.natAbs = l ++ rd u ∧ OwnRow wr w.heap.size 5 v (l.map vB) ∧ Below w.heap.size w wr)
    (fun _ m _ => (intOf m).natAbs)
  case atStart => exact ⟨_, n, [], rfl, rfl, by omega, by omega, hn, rfl, OwnRow.nil _ _ _, Below.refl _ _⟩
  case round =>
    obtain ⟨u, x, l, rfl, hu, hs1, hs2, hx, hrd, hown, hb⟩ := hrel
    have hx1 := hx.1
    have hx2 := hx.2
    have h0 : ¬ n = 0 := by simpa using hne
    by_cases hx0 : x = 0
    · subst hx0
      have hu0 : u = 0 := by omega
      subst hu0
      rw [rd_zero, List.append_nil] at hrd
      rw [hrd] at hlen
      have hpos : 0 < l.length := by rw [← hrd, rd_pos (by omega)]; simp
      have hlen' : (l.map vB).length ≤ 19 := by simpa using hlen
      by_cases hneg : n < 0
      · go_wp2_with (at_builtin; refine app_row _ rfl _ _ 93 rfl w.heap.size 5 (.int .u8 0) 1 Tryz.underlying93 Tryz.infoU8 rfl (by decide) _ (l.map vB) rfl (own_below hown ((Below.refl _ wr).alloc (Nat.le_refl _) _)) _ [vB 45] rfl (byte_row (Own.new _ #[vB 45] _)) (by intro u hu; simp at hu; subst hu; rfl) (by simp; omega) (by have := hb.size; simp; omega) ?_; intro v2 w2 hown2 hx2; refine Hid.out ?_)
        have hb2 : Below w.heap.size w w2 := hb.trans ((((Below.refl _ wr).alloc (Nat.le_refl _) _).mono hb.size).trans hx2)
        obtain ⟨l2, hl2, hl20, hown2⟩ : ∃ l2, l2.reverse = res ∧ (0 < l2.length ∧ l2.length ≤ 20) ∧ OwnRow w2 w.heap.size 5 v2 (l2.map vB) :=
          ⟨l ++ [45], by rw [← hres.out, hrd, if_pos hneg], by simp; omega, by rw [List.map_append]; exact hown2⟩
        clear hown hres hrd hb hlen hlen' h0 hs1 hs2 hx hx1 hx2 hpos hneg hu

        have hlr : l2.reverse = res := hl2
        have hll : l2.length ≤ 20 := hl20.2
        have hlp : 0 < l2.length := hl20.1
        have hlt2 : ∀ wr, Below w2.heap.size w2 wr → Row wr _ (l2.map vB) := fun wr h => (Row.of_own hown2 (by simp; omega)).below h
        obtain ⟨ad2, cap2, hv2⟩ := (hlt2 w2 (Below.refl _ _)).shape
        rw [List.length_map] at hv2
        subst hv2
        clear hown2 hl2 hl20
        refine Lib.hid ?_
        go_wp2_with fail
        go_loopw [6, 7] (fun vo i wr => ∃ k : Nat, k ≤ l2.length ∧ i = .int .i64 ((l2.length : Int) - 1 - k) ∧ OwnRow wr w2.heap.size 5 vo ((l2.reverse.take k).map vB) ∧ Below w2.heap.size w2 wr)
          (fun _ i _ => (intOf i + 1).toNat)
        case atStart => exact ⟨0, by omega, by congr 1; omega, OwnRow.nil _ _ _, Below.refl _ _⟩
        case round =>
          obtain ⟨k, hk, rfl, hown3, hb3⟩ := hrel
          by_cases hkl : k < l2.length
          · obtain ⟨j, hj⟩ : ∃ j : Nat, (l2.length : Int) - 1 - k = (j : Int) := ⟨l2.length - 1 - k, by omega⟩
            have hjl : j < l2.length := by omega
            rw [hj]
            obtain ⟨q, rfl, hab, hc⟩ := (hlt2 wr hb3).cells _ _ _ rfl j (by simpa using hjl)
            rw [List.getElem_map, vB] at hc
            have hlen3 : ((l2.reverse.take k).map vB).length ≤ 20 := by simp; omega
            go_wp2_with (at_builtin; refine app_row _ rfl _ _ 93 rfl w2.heap.size 5 (.int .u8 0) 1 Tryz.underlying93 Tryz.infoU8 rfl (by decide) _ ((l2.reverse.take k).map vB) rfl (own_below hown3 ((Below.refl _ wr).alloc (Nat.le_refl _) _)) _ [vB l2[j]] rfl (byte_row (Own.new _ #[vB l2[j]] _)) (by intro u hu; simp at hu; subst hu; rfl) (by simp; omega) (by have := hb3.size; simp; omega) ?_; intro v3 w3 hown3' hx3; refine Hid.out ?_)
            refine Lib.hid ?_
            go_wp2_with fail
            go_roundw
            case rel =>
              refine ⟨k + 1, by omega, by congr 1; omega, ?_, hb3.trans ((((Below.refl _ wr).alloc (Nat.le_refl _) _).mono hb3.size).trans hx3)⟩
              rw [List.take_succ_eq_append_getElem (by simpa using hkl), List.map_append, List.getElem_reverse]
              have : l2.length - 1 - k = j := by omega
              simp only [this]
              exact hown3'
            case measure => simp [intOf] <;> omega
          · rw [List.take_of_length_le (by simp; omega), hlr] at hown3
            have hconv := conv_bytes hown3 (by rw [← hlr]; simpa using hlp)
            go_wp2_with fail
            go_ret
            exact Ret.mk rfl (hb2.trans (hb3.mono hb2.size))
      · obtain ⟨l2, hl2, hl20, hown2⟩ : ∃ l2, l2.reverse = res ∧ (0 < l2.length ∧ l2.length ≤ 20) ∧ OwnRow wr w.heap.size 5 _ (l2.map vB) :=
          ⟨l, by rw [← hres.out, hrd, if_neg hneg, List.append_nil], ⟨hpos, by omega⟩, hown⟩
        clear hown hres hrd hlen hlen' h0 hs1 hs2 hx hx1 hx2 hpos hu
        rename World => w2
        have hb2 := hb
        clear hb

        have hlr : l2.reverse = res := hl2
        have hll : l2.length ≤ 20 := hl20.2
        have hlp : 0 < l2.length := hl20.1
        have hlt2 : ∀ wr, Below w2.heap.size w2 wr → Row wr _ (l2.map vB) := fun wr h => (Row.of_own hown2 (by simp; omega)).below h
        obtain ⟨ad2, cap2, hv2⟩ := (hlt2 w2 (Below.refl _ _)).shape
        rw [List.length_map] at hv2
        subst hv2
        clear hown2 hl2 hl20
        go_wp2_with fail
        go_loopw [6, 7] (fun vo i wr => ∃ k : Nat, k ≤ l2.length ∧ i = .int .i64 ((l2.length : Int) - 1 - k) ∧ OwnRow wr w2.heap.size 5 vo ((l2.reverse.take k).map vB) ∧ Below w2.heap.size w2 wr)
          (fun _ i _ => (intOf i + 1).toNat)
        case atStart => exact ⟨0, by omega, by congr 1; omega, OwnRow.nil _ _ _, Below.refl _ _⟩
        case round =>
          obtain ⟨k, hk, rfl, hown3, hb3⟩ := hrel
          by_cases hkl : k < l2.length
          · obtain ⟨j, hj⟩ : ∃ j : Nat, (l2.length : Int) - 1 - k = (j : Int) := ⟨l2.length - 1 - k, by omega⟩
            have hjl : j < l2.length := by omega
            rw [hj]
            obtain ⟨q, rfl, hab, hc⟩ := (hlt2 wr hb3).cells _ _ _ rfl j (by simpa using hjl)
            rw [List.getElem_map, vB] at hc
            have hlen3 : ((l2.reverse.take k).map vB).length ≤ 20 := by simp; omega
            go_wp2_with (at_builtin; refine app_row _ rfl _ _ 93 rfl w2.heap.size 5 (.int .u8 0) 1 Tryz.underlying93 Tryz.infoU8 rfl (by decide) _ ((l2.reverse.take k).map vB) rfl (own_below hown3 ((Below.refl _ wr).alloc (Nat.le_refl _) _)) _ [vB l2[j]] rfl (byte_row (Own.new _ #[vB l2[j]] _)) (by intro u hu; simp at hu; subst hu; rfl) (by simp; omega) (by have := hb3.size; simp; omega) ?_; intro v3 w3 hown3' hx3; refine Hid.out ?_)
            refine Lib.hid ?_
            go_wp2_with fail
            go_roundw
            case rel =>
              refine ⟨k + 1, by omega, by congr 1; omega, ?_, hb3.trans ((((Below.refl _ wr).alloc (Nat.le_refl _) _).mono hb3.size).trans hx3)⟩
              rw [List.take_succ_eq_append_getElem (by simpa using hkl), List.map_append, List.getElem_reverse]
              have : l2.length - 1 - k = j := by omega
              simp only [this]
              exact hown3'
            case measure => simp [intOf] <;> omega
          · rw [List.take_of_length_le (by simp; omega), hlr] at hown3
            have hconv := conv_bytes hown3 (by rw [← hlr]; simpa using hlp)
            go_wp2_with fail
            go_ret
            exact Ret.mk rfl (hb2.trans (hb3.mono hb2.size))
    · have hu0 : 0 < u := by omega
      have hlen19 : (rd n.natAbs).length ≤ 19 := hlen
      rw [rd_pos hu0] at hrd
      have ht1 : (x.tmod 10).natAbs = u % 10 := by rw [Int.natAbs_tmod, hu]; rfl
      have ht2 : (x.tdiv 10).natAbs = u / 10 := by rw [Int.natAbs_tdiv, hu]; rfl
      have ht5 : x.tmod 10 + 10 * x.tdiv 10 = x := Int.tmod_add_mul_tdiv x 10
      have ht3 : -10 < x.tmod 10 := by omega
      have ht4 : x.tmod 10 < 10 := by omega
      clear h0
      by_cases hneg : x.tmod 10 < 0
      · have hv8 : Value.int .u8 (48 + -x.tmod 10) = vB (UInt8.ofNat (48 + u % 10)) := by unfold vB; congr 1; rw [show (UInt8.ofNat (48 + u % 10)).toNat = 48 + u % 10 by simp; omega]; omega
        replace hv8 := Lib.hid hv8
        have hlen'' : l.length ≤ 19 := by have := congrArg List.length hrd; simp at this; omega
        go_wp2_with (at_builtin; go_loud (refine app_row _ rfl _ _ 93 rfl w.heap.size 5 (.int .u8 0) 1 Tryz.underlying93 Tryz.infoU8 rfl (by decide) _ (l.map vB) rfl (own_below hown ((Below.refl _ wr).alloc (Nat.le_refl _) _)) _ [.int .u8 (48 + -x.tmod 10)] rfl (byte_row (Own.new _ #[.int .u8 (48 + -x.tmod 10)] _)) (by intro u hu; simp at hu; subst hu; rfl) (by simp; omega) (by have := hb.size; simp; omega) ?_; intro v2 w2 hown2 hx2; refine Hid.out ?_))
        have hb2 : Below w.heap.size w w2 := hb.trans ((((Below.refl _ wr).alloc (Nat.le_refl _) _).mono hb.size).trans hx2)
        refine Lib.hid ?_
        go_wp2_with fail
        go_roundw
        case rel =>
          refine ⟨_, x.tdiv 10, l ++ [(UInt8.ofNat (48 + u % 10))], rfl, ht2, by omega, by omega, ⟨by omega, by omega⟩, by rw [hrd, List.append_assoc]; rfl, ?_, hb2⟩
          rw [List.map_append, List.map_singleton, ← hv8.out]; exact hown2
        case measure => show (x.tdiv 10).natAbs < x.natAbs; omega
      · have hv8 : Value.int .u8 (48 + x.tmod 10) = vB (UInt8.ofNat (48 + u % 10)) := by unfold vB; congr 1; rw [show (UInt8.ofNat (48 + u % 10)).toNat = 48 + u % 10 by simp; omega]; omega
        replace hv8 := Lib.hid hv8
        have hlen'' : l.length ≤ 19 := by have := congrArg List.length hrd; simp at this; omega
        go_wp2_with (at_builtin; go_loud (refine app_row _ rfl _ _ 93 rfl w.heap.size 5 (.int .u8 0) 1 Tryz.underlying93 Tryz.infoU8 rfl (by decide) _ (l.map vB) rfl (own_below hown ((Below.refl _ wr).alloc (Nat.le_refl _) _)) _ [.int .u8 (48 + x.tmod 10)] rfl (byte_row (Own.new _ #[.int .u8 (48 + x.tmod 10)] _)) (by intro u hu; simp at hu; subst hu; rfl) (by simp; omega) (by have := hb.size; simp; omega) ?_; intro v2 w2 hown2 hx2; refine Hid.out ?_))
        have hb2 : Below w.heap.size w w2 := hb.trans ((((Below.refl _ wr).alloc (Nat.le_refl _) _).mono hb.size).trans hx2)
        refine Lib.hid ?_
        go_wp2_with fail
        go_roundw
        case rel =>
          refine ⟨_, x.tdiv 10, l ++ [(UInt8.ofNat (48 + u % 10))], rfl, ht2, by omega, by omega, ⟨by omega, by omega⟩, by rw [hrd, List.append_assoc]; rfl, ?_, hb2⟩
          rw [List.map_append, List.map_singleton, ← hv8.out]; exact hown2
        case measure => show (x.tdiv 10).natAbs < x.natAbs; omega
end Go.Proofs.YtoioegkpmncicaaGreatDoor.Dg
namespace Go.Proofs.YtoioegkpmncicaaGreatDoor
set_option maxRecDepth 100000

theorem tdig (k : Nat) (h : k < 10) : digB (UInt8.ofNat (48 + k)) = true ∧ (UInt8.ofNat (48 + k)).toNat = 48 + k := by
  have e : (UInt8.ofNat (48 + k)).toNat = 48 + k := by simp; omega
  exact ⟨by unfold digB; rw [e]; simp; omega, e⟩
/-- the digits of a number: how many, that they are digits, what they say, and that no 0 stands ahead -/
theorem dec_all : ∀ (n : Nat), (∀ x ∈ Lib.decDigits n, digB x = true) ∧ cents (Lib.decDigits n) = n ∧ (∃ c r, Lib.decDigits n = c :: r ∧ (n ≠ 0 → c ≠ 48) ∧ (10 ≤ n ∨ r = [])) := by
  intro n
  induction n using Nat.strongRecOn with
  | _ n ih =>
    rw [Lib.decDigits]
    split
    · next h =>
      obtain ⟨h1, h2⟩ := tdig n h
      refine ⟨fun x hx => ?_, ?_, _, _, rfl, fun h0 he => ?_, .inr rfl⟩
      · rw [List.mem_singleton.1 hx]; exact h1
      · have := cents_snoc [] (UInt8.ofNat (48 + n))
        rw [List.nil_append, if_pos h1, h2] at this
        rw [this]; simp [cents]
      · rw [he] at h2
        have : (48 : UInt8).toNat = 48 := rfl
        omega
    · next h =>
      obtain ⟨g1, g2, c, r, g3, g4, g5⟩ := ih (n / 10) (by omega)
      obtain ⟨h1, h2⟩ := tdig (n % 10) (by omega)
      refine ⟨fun x hx => ?_, ?_, c, r ++ [UInt8.ofNat (48 + n % 10)], by rw [g3]; rfl, fun _ => g4 (by omega), .inl (by omega)⟩
      · rcases List.mem_append.1 hx with hx | hx
        · exact g1 x hx
        · rw [List.mem_singleton.1 hx]; exact h1
      · rw [cents_snoc, if_pos h1, h2, g2]; omega
theorem dec_size : ∀ (k u : Nat), u < 10 ^ (k + 1) → (Lib.decDigits u).length ≤ k + 1 := by
  intro k
  induction k with
  | zero => intro u h; rw [Lib.decDigits, dif_pos (by omega)]; simp
  | succ k ih =>
    intro u h
    rw [Lib.decDigits]
    split
    · simp
    · rw [List.length_append]
      have := ih (u / 10) (by rw [Nat.pow_succ] at h; omega)
      simp; omega
theorem dig_not {c : UInt8} (h : digB c = true) : letB c = false ∧ sgnB c = false ∧ c ≠ 46 := by
  have h1 : 48 ≤ c.toNat ∧ c.toNat ≤ 57 := by simpa [digB] using h
  refine ⟨by simp [letB]; omega, ?_, by rintro rfl; revert h1; decide⟩
  unfold sgnB
  rw [Bool.eq_false_iff]
  intro hs
  have : c ∈ signs := by simpa using hs
  simp only [signs, List.mem_cons, List.not_mem_nil, or_false] at this
  rcases this with rfl | rfl | rfl | rfl | rfl | rfl | rfl | rfl | rfl | rfl | rfl | rfl | rfl <;> revert h1 <;> decide
theorem ndig_all {s : List UInt8} (h : ∀ x ∈ s, digB x = true) : nDig s = s.length := by
  unfold nDig
  rw [show s.takeWhile digB = s by
    have := tw_gap (p := digB) (a := s) (b := []) h (by intro c r e; cases e)
    simpa using this]
/-- the text of a number -/
theorem num_kind (n : Nat) (h : n ≤ 999999999) : kindF (Lib.decDigits n) = 2 ∧ cents (Lib.decDigits n) = n := by
  obtain ⟨g1, g2, c, r, g3, g4, g5⟩ := dec_all n
  have hl := dec_size 8 n (by omega)
  refine ⟨?_, g2⟩
  have hn := ndig_all g1
  rw [g3] at g1 hl hn ⊢
  obtain ⟨k1, k2, _⟩ := dig_not (g1 c (by simp))
  unfold kindF
  simp only
  rw [if_neg (by rw [k2]; simp), if_neg (by rw [k1]; simp), if_neg ?_, if_pos hn]
  rw [hn]
  rintro (h1 | h1 | ⟨h1, h2⟩)
  · simp at h1
  · omega
  · rcases g5 with g5 | g5
    · exact g4 (by omega) h2
    · subst g5; simp at h1
/-- the text of an amount -/
def monT (a : Nat) : List UInt8 := Lib.decDigits (a / 100) ++ [46, UInt8.ofNat (48 + a / 10 % 10), UInt8.ofNat (48 + a % 10)]
theorem mon_kind (a : Nat) (h : a ≤ 1000000000) : kindF (monT a) = 3 ∧ cents (monT a) = a := by
  obtain ⟨g1, g2, c, r, g3, g4, g5⟩ := dec_all (a / 100)
  have hl := dec_size 7 (a / 100) (by omega)
  obtain ⟨h1, h2⟩ := tdig (a / 10 % 10) (by omega)
  obtain ⟨h3, h4⟩ := tdig (a % 10) (by omega)
  have hc : cents (monT a) = a := by
    unfold monT
    rw [show ∀ A : List UInt8, A ++ [46, UInt8.ofNat (48 + a / 10 % 10), UInt8.ofNat (48 + a % 10)] = ((A ++ [46]) ++ [UInt8.ofNat (48 + a / 10 % 10)]) ++ [UInt8.ofNat (48 + a % 10)] from fun A => by simp,
      cents_snoc, if_pos h3, h4, cents_snoc, if_pos h1, h2, cents_snoc, if_neg (by decide), g2]
    omega
  refine ⟨?_, hc⟩
  have hn : nDig (monT a) = (Lib.decDigits (a / 100)).length := by
    unfold nDig monT
    rw [tw_gap g1 (by intro c r e; cases e; decide)]
  have hx : (monT a)[(Lib.decDigits (a / 100)).length]? = some 46 := by unfold monT; simp
  have hz : (monT a).length = (Lib.decDigits (a / 100)).length + 3 := by unfold monT; simp
  have hd : nDig ((monT a).drop ((Lib.decDigits (a / 100)).length + 1)) = 2 := by
    unfold monT
    rw [List.drop_append, List.drop_eq_nil_of_le (by omega), show (Lib.decDigits (a / 100)).length + 1 - (Lib.decDigits (a / 100)).length = 1 by omega]
    simp only [List.nil_append, List.drop_succ_cons, List.drop_zero]
    exact ndig_all (by intro x hx; simp only [List.mem_cons, List.not_mem_nil, or_false] at hx; rcases hx with rfl | rfl <;> assumption)
  obtain ⟨q, hq⟩ : ∃ q, monT a = c :: q := ⟨_, by unfold monT; rw [g3]; rfl⟩
  have k0 := g1 c (by rw [g3]; simp)
  obtain ⟨k1, k2, _⟩ := dig_not k0
  rw [hq] at hn hx hz hd hc ⊢
  have hp : 1 ≤ (Lib.decDigits (a / 100)).length := by rw [g3]; simp
  unfold kindF
  simp only
  rw [if_neg (by rw [k2]; simp), if_neg (by rw [k1]; simp), if_neg ?_, if_neg (by rw [hn, hz]; omega), if_neg ?_, if_neg (by rw [hc]; omega)]
  · rw [hn, hz, hx, hd]; simp
  · rw [hn]
    rintro (e1 | e1 | ⟨e1, e2⟩)
    · omega
    · omega
    · rcases g5 with g5 | g5
      · exact g4 (by omega) e2
      · subst g5; rw [g3] at e1; simp at e1
end Go.Proofs.YtoioegkpmncicaaGreatDoor
namespace Go.Proofs.YtoioegkpmncicaaGreatDoor
open Go.RowKit Go.Shelf
set_option maxRecDepth 100000

theorem rdec_any (n : Nat) (h : n ≤ 1000000000) (w : World) : Calls Tryz.prog 25 #[.int .i64 n] w (Ret (.string ⟨(Lib.decDigits n).toArray⟩) w) := by
  have := Dg.decimal_any (n : Int) ⟨by omega, by omega⟩ w
  have e : Lib.itoa (n : Int) = Lib.decDigits n := by unfold Lib.itoa; rw [if_neg (by omega)]; simp
  rw [e] at this
  exact this
theorem bytes_app (a b : List UInt8) : (⟨a.toArray⟩ : ByteArray) ++ ⟨b.toArray⟩ = ⟨(a ++ b).toArray⟩ := by
  apply ByteArray.ext
  simp [ByteArray.data_append]
theorem rAmount_nat (a : Nat) (h : a ≤ 1000000000) (w : World) : Calls Tryz.prog 75 #[.int .i64 a] w (Same (.bool true) w) := by
  have h1 : decide (-1000000000 ≤ (a : Int)) = true := decide_eq_true (by omega)
  have h2 : decide ((a : Int) ≤ 1000000000) = true := decide_eq_true (by omega)
  go_enter Tryz.func75, Tryz.ntmps75
  go_wp2_with fail
  go_ret
  exact Same.mk rfl rfl
theorem dec_one (n : Nat) (h : n < 10) : Lib.decDigits n = [UInt8.ofNat (48 + n)] := by rw [Lib.decDigits, dif_pos h]
set_option maxHeartbeats 1000000 in
theorem rtext_any (a : Nat) (h : a ≤ 1000000000) (w : World) : Calls Tryz.prog 49 #[.int .i64 a] w (Ret (.tuple #[.string ⟨(monT a).toArray⟩, .int .i64 0]) w) := by
  have hb : Below w.heap.size w w := Below.refl _ _
  have hneg' : decide ((a : Int) < 0) = false := by simp
  have HT : Hid (monT a = Lib.decDigits (a / 100) ++ [46] ++ Lib.decDigits (a / 10 % 10) ++ Lib.decDigits (a % 10)) := Lib.hid (by
    unfold monT
    rw [dec_one (a / 10 % 10) (by omega), dec_one (a % 10) (by omega)]
    simp)
  have e1 : (a : Int) / 100 = ((a / 100 : Nat) : Int) := by omega
  have e2 : (a : Int) % 100 / 10 = ((a / 10 % 10 : Nat) : Int) := by omega
  have e3 : (a : Int) % 10 = ((a % 10 : Nat) : Int) := by omega
  have l1 := dec_size 9 (a / 100) (by omega)
  have l2 := dec_size 0 (a / 10 % 10) (by omega)
  have l3 := dec_size 0 (a % 10) (by omega)
  have D1 := fun w => rdec_any (a / 100) (by omega) w
  have D2 := fun w => rdec_any (a / 10 % 10) (by omega) w
  have D3 := fun w => rdec_any (a % 10) (by omega) w
  rw [← e1] at D1
  rw [← e2] at D2
  rw [← e3] at D3
  clear e1 e2 e3
  generalize Lib.decDigits (a / 100) = t1 at HT l1 D1
  generalize Lib.decDigits (a / 10 % 10) = t2 at HT l2 D2
  generalize Lib.decDigits (a % 10) = t3 at HT l3 D3
  go_enter Tryz.func49, Tryz.ntmps49
  go_wp2_with fail
  refine (rAmount_nat a h _).mono ?_
  rintro e w' ⟨rfl, rfl⟩
  go_wp2_with fail
  refine (D1 _).mono ?_
  rintro e w1 ⟨rfl, hx⟩
  replace hb : Below w.heap.size w w1 := Below.trans (by (repeat (first | exact Below.refl _ _ | assumption | refine Below.drew ?_ | refine below_drewN ?_ _ | refine Below.setCell ?_ (by first | omega | (simp <;> omega)) _ | refine Below.alloc ?_ (by have := hb.size; first | omega | (simp <;> omega)) _))) (hx.mono (by have := hb.size; first | omega | (simp <;> omega)))
  clear hx
  go_wp2_with fail
  refine (D2 _).mono ?_
  rintro e w2 ⟨rfl, hx⟩
  replace hb : Below w.heap.size w w2 := Below.trans (by (repeat (first | exact Below.refl _ _ | assumption | refine Below.drew ?_ | refine below_drewN ?_ _ | refine Below.setCell ?_ (by first | omega | (simp <;> omega)) _ | refine Below.alloc ?_ (by have := hb.size; first | omega | (simp <;> omega)) _))) (hx.mono (by have := hb.size; first | omega | (simp <;> omega)))
  clear hx
  go_wp2_with fail
  refine (D3 _).mono ?_
  rintro e w3 ⟨rfl, hx⟩
  replace hb : Below w.heap.size w w3 := Below.trans (by (repeat (first | exact Below.refl _ _ | assumption | refine Below.drew ?_ | refine below_drewN ?_ _ | refine Below.setCell ?_ (by first | omega | (simp <;> omega)) _ | refine Below.alloc ?_ (by have := hb.size; first | omega | (simp <;> omega)) _))) (hx.mono (by have := hb.size; first | omega | (simp <;> omega)))
  clear hx
  go_wp2_with fail
  go_ret2
  refine Ret.mk ?_ hb
  rw [HT.out]
  show Value.tuple #[.string ((⟨([] : List UInt8).toArray⟩ : ByteArray) ++ ⟨t1.toArray⟩ ++ ⟨([46] : List UInt8).toArray⟩ ++ ⟨t2.toArray⟩ ++ ⟨t3.toArray⟩), .int .i64 0] = _
  rw [bytes_app, bytes_app, bytes_app, bytes_app]
  rfl
end Go.Proofs.YtoioegkpmncicaaGreatDoor
namespace Go.Proofs.YtoioegkpmncicaaGreatDoor
open Go.RowKit

section
variable {P : Program} {t k e : TypeId} {q : IntKind}
theorem run_checkKey_int' (hk : P.underlying k = some (.int q)) (b : Bool) (n : Nat) (a : Int) (w : World) : (Instr.checkKey b (n + 1) k (.int q a)).run P w = .ok () w := by
  simp [Instr.checkKey, run_underlying hk]
theorem run_checkKey_int (hk : P.underlying k = some (.int q)) (b : Bool) (a : Int) (w : World) : (Instr.checkKey b 10000 k (.int q a)).run P w = .ok () w := run_checkKey_int' hk b 9999 a w
theorem push_set {α : Type} (l : Array α) (x y : α) : (l.push x).setIfInBounds l.size y = l.push y := by
  apply Array.ext_getElem?
  intro i
  rw [Array.getElem?_setIfInBounds, Array.getElem?_push, Array.getElem?_push]
  by_cases h : i = l.size
  · subst h; simp
  · simp [h, Ne.symm h]

theorem run_insert_new (ht : P.underlying t = some (.map k e)) (hk : P.underlying k = some (.int q)) (w0 : World) (es : Array MapEntry) (c : Nat) (a : Int) (v : Value)
    (hn : Instr.findNow (.int q) (.int q a) es.toList 0 = some none) :
    (Instr.mapUpdate t (.map (some w0.heap.size)) (.int q a) v).run P (w0.alloc (.map es c)) = .ok () (w0.alloc (.map (es.push { key := .int q a, val := v, born := c }) (c + 1))) := by
  have hb : (w0.alloc (.map es c)).heap[w0.heap.size]? = some (.map es c) := (MapKept.heap_alloc w0 _).1
  have hs : ({ w0.alloc (.map es c) with heap := (w0.alloc (.map es c)).heap.setIfInBounds w0.heap.size (.map (es.push { key := .int q a, val := v, born := c }) (c + 1)) } : World) = w0.alloc (.map (es.push { key := .int q a, val := v, born := c }) (c + 1)) := by
    show ({ w0 with heap := (w0.heap.push (.map es c)).setIfInBounds w0.heap.size (.map (es.push { key := .int q a, val := v, born := c }) (c + 1)) } : World) = { w0 with heap := w0.heap.push (.map (es.push { key := .int q a, val := v, born := c }) (c + 1)) }
    rw [push_set]
  rw [← hs]
  simp [Instr.mapUpdate, run_underlying ht, MapKept.run_getObj_map hb, run_checkKey_int hk, Instr.findKey, run_underlying hk, hn, MapKept.run_setObj_map _ hb, Result.andThen]

theorem run_lookup_in (ht : P.underlying t = some (.map k e)) (hk : P.underlying k = some (.int q)) (w : World) (b : Nat) (es : Array MapEntry) (c i : Nat) (a : Int) (v : Value)
    (hb : w.heap[b]? = some (.map es c)) (hn : Instr.findNow (.int q) (.int q a) es.toList 0 = some (some (i, v))) :
    (Instr.lookup t (.map (some b)) (.int q a) true).run P w = .ok (.tuple #[v, .bool true]) w := by
  simp [Instr.lookup, run_underlying ht, MapKept.run_getObj_map hb, run_checkKey_int hk, Instr.findKey, run_underlying hk, hn, Result.andThen]

theorem run_lookup_out (ht : P.underlying t = some (.map k e)) (hk : P.underlying k = some (.int q)) (w : World) (b : Nat) (es : Array MapEntry) (c : Nat) (a : Int) (z : Value)
    (hz : (zeroValue e).run P w = .ok z w)
    (hb : w.heap[b]? = some (.map es c)) (hn : Instr.findNow (.int q) (.int q a) es.toList 0 = some none) :
    (Instr.lookup t (.map (some b)) (.int q a) true).run P w = .ok (.tuple #[z, .bool false]) w := by
  simp [Instr.lookup, run_underlying ht, MapKept.run_getObj_map hb, run_checkKey_int hk, Instr.findKey, run_underlying hk, hn, Result.andThen, hz]
end
end Go.Proofs.YtoioegkpmncicaaGreatDoor
namespace Go.Proofs.YtoioegkpmncicaaGreatDoor
open Go.RowKit
set_option maxRecDepth 100000

theorem run_lookup_one {P : Program} {t k e : TypeId} {q : IntKind} (ht : P.underlying t = some (.map k e)) (hk : P.underlying k = some (.int q)) (w : World) (b : Nat) (es : Array MapEntry) (c i : Nat) (a : Int) (v : Value)
    (hb : w.heap[b]? = some (.map es c)) (hn : Instr.findNow (.int q) (.int q a) es.toList 0 = some (some (i, v))) :
    (Instr.lookup t (.map (some b)) (.int q a) false).run P w = .ok v w := by
  simp [Instr.lookup, run_underlying ht, MapKept.run_getObj_map hb, run_checkKey_int hk, Instr.findKey, run_underlying hk, hn, Result.andThen]
theorem sgn_put0 (w0 : World) : (Instr.mapUpdate 92 (.map (some w0.heap.size)) (.int .i64 4) (.string ⟨#[43]⟩)).run Tryz.prog (w0.alloc (.map #[] 0)) = .ok () (w0.alloc (.map #[{ key := .int .i64 4, val := .string ⟨#[43]⟩, born := 0 }] 1)) :=
  run_insert_new Tryz.underlying92 Tryz.underlying3 w0 #[] 0 4 _ (by kernel_rfl)
theorem sgn_put1 (w0 : World) : (Instr.mapUpdate 92 (.map (some w0.heap.size)) (.int .i64 5) (.string ⟨#[45]⟩)).run Tryz.prog (w0.alloc (.map #[{ key := .int .i64 4, val := .string ⟨#[43]⟩, born := 0 }] 1)) = .ok () (w0.alloc (.map #[{ key := .int .i64 4, val := .string ⟨#[43]⟩, born := 0 }, { key := .int .i64 5, val := .string ⟨#[45]⟩, born := 1 }] 2)) :=
  run_insert_new Tryz.underlying92 Tryz.underlying3 w0 #[{ key := .int .i64 4, val := .string ⟨#[43]⟩, born := 0 }] 1 5 _ (by kernel_rfl)
theorem sgn_put2 (w0 : World) : (Instr.mapUpdate 92 (.map (some w0.heap.size)) (.int .i64 6) (.string ⟨#[42]⟩)).run Tryz.prog (w0.alloc (.map #[{ key := .int .i64 4, val := .string ⟨#[43]⟩, born := 0 }, { key := .int .i64 5, val := .string ⟨#[45]⟩, born := 1 }] 2)) = .ok () (w0.alloc (.map #[{ key := .int .i64 4, val := .string ⟨#[43]⟩, born := 0 }, { key := .int .i64 5, val := .string ⟨#[45]⟩, born := 1 }, { key := .int .i64 6, val := .string ⟨#[42]⟩, born := 2 }] 3)) :=
  run_insert_new Tryz.underlying92 Tryz.underlying3 w0 #[{ key := .int .i64 4, val := .string ⟨#[43]⟩, born := 0 }, { key := .int .i64 5, val := .string ⟨#[45]⟩, born := 1 }] 2 6 _ (by kernel_rfl)
theorem sgn_put3 (w0 : World) : (Instr.mapUpdate 92 (.map (some w0.heap.size)) (.int .i64 7) (.string ⟨#[47]⟩)).run Tryz.prog (w0.alloc (.map #[{ key := .int .i64 4, val := .string ⟨#[43]⟩, born := 0 }, { key := .int .i64 5, val := .string ⟨#[45]⟩, born := 1 }, { key := .int .i64 6, val := .string ⟨#[42]⟩, born := 2 }] 3)) = .ok () (w0.alloc (.map #[{ key := .int .i64 4, val := .string ⟨#[43]⟩, born := 0 }, { key := .int .i64 5, val := .string ⟨#[45]⟩, born := 1 }, { key := .int .i64 6, val := .string ⟨#[42]⟩, born := 2 }, { key := .int .i64 7, val := .string ⟨#[47]⟩, born := 3 }] 4)) :=
  run_insert_new Tryz.underlying92 Tryz.underlying3 w0 #[{ key := .int .i64 4, val := .string ⟨#[43]⟩, born := 0 }, { key := .int .i64 5, val := .string ⟨#[45]⟩, born := 1 }, { key := .int .i64 6, val := .string ⟨#[42]⟩, born := 2 }] 3 7 _ (by kernel_rfl)
theorem sgn_put4 (w0 : World) : (Instr.mapUpdate 92 (.map (some w0.heap.size)) (.int .i64 11) (.string ⟨#[60]⟩)).run Tryz.prog (w0.alloc (.map #[{ key := .int .i64 4, val := .string ⟨#[43]⟩, born := 0 }, { key := .int .i64 5, val := .string ⟨#[45]⟩, born := 1 }, { key := .int .i64 6, val := .string ⟨#[42]⟩, born := 2 }, { key := .int .i64 7, val := .string ⟨#[47]⟩, born := 3 }] 4)) = .ok () (w0.alloc (.map #[{ key := .int .i64 4, val := .string ⟨#[43]⟩, born := 0 }, { key := .int .i64 5, val := .string ⟨#[45]⟩, born := 1 }, { key := .int .i64 6, val := .string ⟨#[42]⟩, born := 2 }, { key := .int .i64 7, val := .string ⟨#[47]⟩, born := 3 }, { key := .int .i64 11, val := .string ⟨#[60]⟩, born := 4 }] 5)) :=
  run_insert_new Tryz.underlying92 Tryz.underlying3 w0 #[{ key := .int .i64 4, val := .string ⟨#[43]⟩, born := 0 }, { key := .int .i64 5, val := .string ⟨#[45]⟩, born := 1 }, { key := .int .i64 6, val := .string ⟨#[42]⟩, born := 2 }, { key := .int .i64 7, val := .string ⟨#[47]⟩, born := 3 }] 4 11 _ (by kernel_rfl)
theorem sgn_put5 (w0 : World) : (Instr.mapUpdate 92 (.map (some w0.heap.size)) (.int .i64 12) (.string ⟨#[61]⟩)).run Tryz.prog (w0.alloc (.map #[{ key := .int .i64 4, val := .string ⟨#[43]⟩, born := 0 }, { key := .int .i64 5, val := .string ⟨#[45]⟩, born := 1 }, { key := .int .i64 6, val := .string ⟨#[42]⟩, born := 2 }, { key := .int .i64 7, val := .string ⟨#[47]⟩, born := 3 }, { key := .int .i64 11, val := .string ⟨#[60]⟩, born := 4 }] 5)) = .ok () (w0.alloc (.map #[{ key := .int .i64 4, val := .string ⟨#[43]⟩, born := 0 }, { key := .int .i64 5, val := .string ⟨#[45]⟩, born := 1 }, { key := .int .i64 6, val := .string ⟨#[42]⟩, born := 2 }, { key := .int .i64 7, val := .string ⟨#[47]⟩, born := 3 }, { key := .int .i64 11, val := .string ⟨#[60]⟩, born := 4 }, { key := .int .i64 12, val := .string ⟨#[61]⟩, born := 5 }] 6)) :=
  run_insert_new Tryz.underlying92 Tryz.underlying3 w0 #[{ key := .int .i64 4, val := .string ⟨#[43]⟩, born := 0 }, { key := .int .i64 5, val := .string ⟨#[45]⟩, born := 1 }, { key := .int .i64 6, val := .string ⟨#[42]⟩, born := 2 }, { key := .int .i64 7, val := .string ⟨#[47]⟩, born := 3 }, { key := .int .i64 11, val := .string ⟨#[60]⟩, born := 4 }] 5 12 _ (by kernel_rfl)
theorem sgn_put6 (w0 : World) : (Instr.mapUpdate 92 (.map (some w0.heap.size)) (.int .i64 13) (.string ⟨#[97, 110, 100]⟩)).run Tryz.prog (w0.alloc (.map #[{ key := .int .i64 4, val := .string ⟨#[43]⟩, born := 0 }, { key := .int .i64 5, val := .string ⟨#[45]⟩, born := 1 }, { key := .int .i64 6, val := .string ⟨#[42]⟩, born := 2 }, { key := .int .i64 7, val := .string ⟨#[47]⟩, born := 3 }, { key := .int .i64 11, val := .string ⟨#[60]⟩, born := 4 }, { key := .int .i64 12, val := .string ⟨#[61]⟩, born := 5 }] 6)) = .ok () (w0.alloc (.map #[{ key := .int .i64 4, val := .string ⟨#[43]⟩, born := 0 }, { key := .int .i64 5, val := .string ⟨#[45]⟩, born := 1 }, { key := .int .i64 6, val := .string ⟨#[42]⟩, born := 2 }, { key := .int .i64 7, val := .string ⟨#[47]⟩, born := 3 }, { key := .int .i64 11, val := .string ⟨#[60]⟩, born := 4 }, { key := .int .i64 12, val := .string ⟨#[61]⟩, born := 5 }, { key := .int .i64 13, val := .string ⟨#[97, 110, 100]⟩, born := 6 }] 7)) :=
  run_insert_new Tryz.underlying92 Tryz.underlying3 w0 #[{ key := .int .i64 4, val := .string ⟨#[43]⟩, born := 0 }, { key := .int .i64 5, val := .string ⟨#[45]⟩, born := 1 }, { key := .int .i64 6, val := .string ⟨#[42]⟩, born := 2 }, { key := .int .i64 7, val := .string ⟨#[47]⟩, born := 3 }, { key := .int .i64 11, val := .string ⟨#[60]⟩, born := 4 }, { key := .int .i64 12, val := .string ⟨#[61]⟩, born := 5 }] 6 13 _ (by kernel_rfl)
theorem sgn_put7 (w0 : World) : (Instr.mapUpdate 92 (.map (some w0.heap.size)) (.int .i64 14) (.string ⟨#[111, 114]⟩)).run Tryz.prog (w0.alloc (.map #[{ key := .int .i64 4, val := .string ⟨#[43]⟩, born := 0 }, { key := .int .i64 5, val := .string ⟨#[45]⟩, born := 1 }, { key := .int .i64 6, val := .string ⟨#[42]⟩, born := 2 }, { key := .int .i64 7, val := .string ⟨#[47]⟩, born := 3 }, { key := .int .i64 11, val := .string ⟨#[60]⟩, born := 4 }, { key := .int .i64 12, val := .string ⟨#[61]⟩, born := 5 }, { key := .int .i64 13, val := .string ⟨#[97, 110, 100]⟩, born := 6 }] 7)) = .ok () (w0.alloc (.map #[{ key := .int .i64 4, val := .string ⟨#[43]⟩, born := 0 }, { key := .int .i64 5, val := .string ⟨#[45]⟩, born := 1 }, { key := .int .i64 6, val := .string ⟨#[42]⟩, born := 2 }, { key := .int .i64 7, val := .string ⟨#[47]⟩, born := 3 }, { key := .int .i64 11, val := .string ⟨#[60]⟩, born := 4 }, { key := .int .i64 12, val := .string ⟨#[61]⟩, born := 5 }, { key := .int .i64 13, val := .string ⟨#[97, 110, 100]⟩, born := 6 }, { key := .int .i64 14, val := .string ⟨#[111, 114]⟩, born := 7 }] 8)) :=
  run_insert_new Tryz.underlying92 Tryz.underlying3 w0 #[{ key := .int .i64 4, val := .string ⟨#[43]⟩, born := 0 }, { key := .int .i64 5, val := .string ⟨#[45]⟩, born := 1 }, { key := .int .i64 6, val := .string ⟨#[42]⟩, born := 2 }, { key := .int .i64 7, val := .string ⟨#[47]⟩, born := 3 }, { key := .int .i64 11, val := .string ⟨#[60]⟩, born := 4 }, { key := .int .i64 12, val := .string ⟨#[61]⟩, born := 5 }, { key := .int .i64 13, val := .string ⟨#[97, 110, 100]⟩, born := 6 }] 7 14 _ (by kernel_rfl)
theorem sgn_at0 (w0 : World) : (Instr.lookup 92 (.map (some w0.heap.size)) (.int .i64 4) false).run Tryz.prog (w0.alloc (.map #[{ key := .int .i64 4, val := .string ⟨#[43]⟩, born := 0 }, { key := .int .i64 5, val := .string ⟨#[45]⟩, born := 1 }, { key := .int .i64 6, val := .string ⟨#[42]⟩, born := 2 }, { key := .int .i64 7, val := .string ⟨#[47]⟩, born := 3 }, { key := .int .i64 11, val := .string ⟨#[60]⟩, born := 4 }, { key := .int .i64 12, val := .string ⟨#[61]⟩, born := 5 }, { key := .int .i64 13, val := .string ⟨#[97, 110, 100]⟩, born := 6 }, { key := .int .i64 14, val := .string ⟨#[111, 114]⟩, born := 7 }] 8)) = .ok (.string ⟨#[43]⟩) (w0.alloc (.map #[{ key := .int .i64 4, val := .string ⟨#[43]⟩, born := 0 }, { key := .int .i64 5, val := .string ⟨#[45]⟩, born := 1 }, { key := .int .i64 6, val := .string ⟨#[42]⟩, born := 2 }, { key := .int .i64 7, val := .string ⟨#[47]⟩, born := 3 }, { key := .int .i64 11, val := .string ⟨#[60]⟩, born := 4 }, { key := .int .i64 12, val := .string ⟨#[61]⟩, born := 5 }, { key := .int .i64 13, val := .string ⟨#[97, 110, 100]⟩, born := 6 }, { key := .int .i64 14, val := .string ⟨#[111, 114]⟩, born := 7 }] 8)) :=
  run_lookup_one Tryz.underlying92 Tryz.underlying3 _ _ #[{ key := .int .i64 4, val := .string ⟨#[43]⟩, born := 0 }, { key := .int .i64 5, val := .string ⟨#[45]⟩, born := 1 }, { key := .int .i64 6, val := .string ⟨#[42]⟩, born := 2 }, { key := .int .i64 7, val := .string ⟨#[47]⟩, born := 3 }, { key := .int .i64 11, val := .string ⟨#[60]⟩, born := 4 }, { key := .int .i64 12, val := .string ⟨#[61]⟩, born := 5 }, { key := .int .i64 13, val := .string ⟨#[97, 110, 100]⟩, born := 6 }, { key := .int .i64 14, val := .string ⟨#[111, 114]⟩, born := 7 }] 8 0 4 _ (MapKept.heap_alloc w0 _).1 (by kernel_rfl)
theorem sgn_at1 (w0 : World) : (Instr.lookup 92 (.map (some w0.heap.size)) (.int .i64 5) false).run Tryz.prog (w0.alloc (.map #[{ key := .int .i64 4, val := .string ⟨#[43]⟩, born := 0 }, { key := .int .i64 5, val := .string ⟨#[45]⟩, born := 1 }, { key := .int .i64 6, val := .string ⟨#[42]⟩, born := 2 }, { key := .int .i64 7, val := .string ⟨#[47]⟩, born := 3 }, { key := .int .i64 11, val := .string ⟨#[60]⟩, born := 4 }, { key := .int .i64 12, val := .string ⟨#[61]⟩, born := 5 }, { key := .int .i64 13, val := .string ⟨#[97, 110, 100]⟩, born := 6 }, { key := .int .i64 14, val := .string ⟨#[111, 114]⟩, born := 7 }] 8)) = .ok (.string ⟨#[45]⟩) (w0.alloc (.map #[{ key := .int .i64 4, val := .string ⟨#[43]⟩, born := 0 }, { key := .int .i64 5, val := .string ⟨#[45]⟩, born := 1 }, { key := .int .i64 6, val := .string ⟨#[42]⟩, born := 2 }, { key := .int .i64 7, val := .string ⟨#[47]⟩, born := 3 }, { key := .int .i64 11, val := .string ⟨#[60]⟩, born := 4 }, { key := .int .i64 12, val := .string ⟨#[61]⟩, born := 5 }, { key := .int .i64 13, val := .string ⟨#[97, 110, 100]⟩, born := 6 }, { key := .int .i64 14, val := .string ⟨#[111, 114]⟩, born := 7 }] 8)) :=
  run_lookup_one Tryz.underlying92 Tryz.underlying3 _ _ #[{ key := .int .i64 4, val := .string ⟨#[43]⟩, born := 0 }, { key := .int .i64 5, val := .string ⟨#[45]⟩, born := 1 }, { key := .int .i64 6, val := .string ⟨#[42]⟩, born := 2 }, { key := .int .i64 7, val := .string ⟨#[47]⟩, born := 3 }, { key := .int .i64 11, val := .string ⟨#[60]⟩, born := 4 }, { key := .int .i64 12, val := .string ⟨#[61]⟩, born := 5 }, { key := .int .i64 13, val := .string ⟨#[97, 110, 100]⟩, born := 6 }, { key := .int .i64 14, val := .string ⟨#[111, 114]⟩, born := 7 }] 8 1 5 _ (MapKept.heap_alloc w0 _).1 (by kernel_rfl)
theorem sgn_at2 (w0 : World) : (Instr.lookup 92 (.map (some w0.heap.size)) (.int .i64 6) false).run Tryz.prog (w0.alloc (.map #[{ key := .int .i64 4, val := .string ⟨#[43]⟩, born := 0 }, { key := .int .i64 5, val := .string ⟨#[45]⟩, born := 1 }, { key := .int .i64 6, val := .string ⟨#[42]⟩, born := 2 }, { key := .int .i64 7, val := .string ⟨#[47]⟩, born := 3 }, { key := .int .i64 11, val := .string ⟨#[60]⟩, born := 4 }, { key := .int .i64 12, val := .string ⟨#[61]⟩, born := 5 }, { key := .int .i64 13, val := .string ⟨#[97, 110, 100]⟩, born := 6 }, { key := .int .i64 14, val := .string ⟨#[111, 114]⟩, born := 7 }] 8)) = .ok (.string ⟨#[42]⟩) (w0.alloc (.map #[{ key := .int .i64 4, val := .string ⟨#[43]⟩, born := 0 }, { key := .int .i64 5, val := .string ⟨#[45]⟩, born := 1 }, { key := .int .i64 6, val := .string ⟨#[42]⟩, born := 2 }, { key := .int .i64 7, val := .string ⟨#[47]⟩, born := 3 }, { key := .int .i64 11, val := .string ⟨#[60]⟩, born := 4 }, { key := .int .i64 12, val := .string ⟨#[61]⟩, born := 5 }, { key := .int .i64 13, val := .string ⟨#[97, 110, 100]⟩, born := 6 }, { key := .int .i64 14, val := .string ⟨#[111, 114]⟩, born := 7 }] 8)) :=
  run_lookup_one Tryz.underlying92 Tryz.underlying3 _ _ #[{ key := .int .i64 4, val := .string ⟨#[43]⟩, born := 0 }, { key := .int .i64 5, val := .string ⟨#[45]⟩, born := 1 }, { key := .int .i64 6, val := .string ⟨#[42]⟩, born := 2 }, { key := .int .i64 7, val := .string ⟨#[47]⟩, born := 3 }, { key := .int .i64 11, val := .string ⟨#[60]⟩, born := 4 }, { key := .int .i64 12, val := .string ⟨#[61]⟩, born := 5 }, { key := .int .i64 13, val := .string ⟨#[97, 110, 100]⟩, born := 6 }, { key := .int .i64 14, val := .string ⟨#[111, 114]⟩, born := 7 }] 8 2 6 _ (MapKept.heap_alloc w0 _).1 (by kernel_rfl)
theorem sgn_at3 (w0 : World) : (Instr.lookup 92 (.map (some w0.heap.size)) (.int .i64 7) false).run Tryz.prog (w0.alloc (.map #[{ key := .int .i64 4, val := .string ⟨#[43]⟩, born := 0 }, { key := .int .i64 5, val := .string ⟨#[45]⟩, born := 1 }, { key := .int .i64 6, val := .string ⟨#[42]⟩, born := 2 }, { key := .int .i64 7, val := .string ⟨#[47]⟩, born := 3 }, { key := .int .i64 11, val := .string ⟨#[60]⟩, born := 4 }, { key := .int .i64 12, val := .string ⟨#[61]⟩, born := 5 }, { key := .int .i64 13, val := .string ⟨#[97, 110, 100]⟩, born := 6 }, { key := .int .i64 14, val := .string ⟨#[111, 114]⟩, born := 7 }] 8)) = .ok (.string ⟨#[47]⟩) (w0.alloc (.map #[{ key := .int .i64 4, val := .string ⟨#[43]⟩, born := 0 }, { key := .int .i64 5, val := .string ⟨#[45]⟩, born := 1 }, { key := .int .i64 6, val := .string ⟨#[42]⟩, born := 2 }, { key := .int .i64 7, val := .string ⟨#[47]⟩, born := 3 }, { key := .int .i64 11, val := .string ⟨#[60]⟩, born := 4 }, { key := .int .i64 12, val := .string ⟨#[61]⟩, born := 5 }, { key := .int .i64 13, val := .string ⟨#[97, 110, 100]⟩, born := 6 }, { key := .int .i64 14, val := .string ⟨#[111, 114]⟩, born := 7 }] 8)) :=
  run_lookup_one Tryz.underlying92 Tryz.underlying3 _ _ #[{ key := .int .i64 4, val := .string ⟨#[43]⟩, born := 0 }, { key := .int .i64 5, val := .string ⟨#[45]⟩, born := 1 }, { key := .int .i64 6, val := .string ⟨#[42]⟩, born := 2 }, { key := .int .i64 7, val := .string ⟨#[47]⟩, born := 3 }, { key := .int .i64 11, val := .string ⟨#[60]⟩, born := 4 }, { key := .int .i64 12, val := .string ⟨#[61]⟩, born := 5 }, { key := .int .i64 13, val := .string ⟨#[97, 110, 100]⟩, born := 6 }, { key := .int .i64 14, val := .string ⟨#[111, 114]⟩, born := 7 }] 8 3 7 _ (MapKept.heap_alloc w0 _).1 (by kernel_rfl)
theorem sgn_at4 (w0 : World) : (Instr.lookup 92 (.map (some w0.heap.size)) (.int .i64 11) false).run Tryz.prog (w0.alloc (.map #[{ key := .int .i64 4, val := .string ⟨#[43]⟩, born := 0 }, { key := .int .i64 5, val := .string ⟨#[45]⟩, born := 1 }, { key := .int .i64 6, val := .string ⟨#[42]⟩, born := 2 }, { key := .int .i64 7, val := .string ⟨#[47]⟩, born := 3 }, { key := .int .i64 11, val := .string ⟨#[60]⟩, born := 4 }, { key := .int .i64 12, val := .string ⟨#[61]⟩, born := 5 }, { key := .int .i64 13, val := .string ⟨#[97, 110, 100]⟩, born := 6 }, { key := .int .i64 14, val := .string ⟨#[111, 114]⟩, born := 7 }] 8)) = .ok (.string ⟨#[60]⟩) (w0.alloc (.map #[{ key := .int .i64 4, val := .string ⟨#[43]⟩, born := 0 }, { key := .int .i64 5, val := .string ⟨#[45]⟩, born := 1 }, { key := .int .i64 6, val := .string ⟨#[42]⟩, born := 2 }, { key := .int .i64 7, val := .string ⟨#[47]⟩, born := 3 }, { key := .int .i64 11, val := .string ⟨#[60]⟩, born := 4 }, { key := .int .i64 12, val := .string ⟨#[61]⟩, born := 5 }, { key := .int .i64 13, val := .string ⟨#[97, 110, 100]⟩, born := 6 }, { key := .int .i64 14, val := .string ⟨#[111, 114]⟩, born := 7 }] 8)) :=
  run_lookup_one Tryz.underlying92 Tryz.underlying3 _ _ #[{ key := .int .i64 4, val := .string ⟨#[43]⟩, born := 0 }, { key := .int .i64 5, val := .string ⟨#[45]⟩, born := 1 }, { key := .int .i64 6, val := .string ⟨#[42]⟩, born := 2 }, { key := .int .i64 7, val := .string ⟨#[47]⟩, born := 3 }, { key := .int .i64 11, val := .string ⟨#[60]⟩, born := 4 }, { key := .int .i64 12, val := .string ⟨#[61]⟩, born := 5 }, { key := .int .i64 13, val := .string ⟨#[97, 110, 100]⟩, born := 6 }, { key := .int .i64 14, val := .string ⟨#[111, 114]⟩, born := 7 }] 8 4 11 _ (MapKept.heap_alloc w0 _).1 (by kernel_rfl)
theorem sgn_at5 (w0 : World) : (Instr.lookup 92 (.map (some w0.heap.size)) (.int .i64 12) false).run Tryz.prog (w0.alloc (.map #[{ key := .int .i64 4, val := .string ⟨#[43]⟩, born := 0 }, { key := .int .i64 5, val := .string ⟨#[45]⟩, born := 1 }, { key := .int .i64 6, val := .string ⟨#[42]⟩, born := 2 }, { key := .int .i64 7, val := .string ⟨#[47]⟩, born := 3 }, { key := .int .i64 11, val := .string ⟨#[60]⟩, born := 4 }, { key := .int .i64 12, val := .string ⟨#[61]⟩, born := 5 }, { key := .int .i64 13, val := .string ⟨#[97, 110, 100]⟩, born := 6 }, { key := .int .i64 14, val := .string ⟨#[111, 114]⟩, born := 7 }] 8)) = .ok (.string ⟨#[61]⟩) (w0.alloc (.map #[{ key := .int .i64 4, val := .string ⟨#[43]⟩, born := 0 }, { key := .int .i64 5, val := .string ⟨#[45]⟩, born := 1 }, { key := .int .i64 6, val := .string ⟨#[42]⟩, born := 2 }, { key := .int .i64 7, val := .string ⟨#[47]⟩, born := 3 }, { key := .int .i64 11, val := .string ⟨#[60]⟩, born := 4 }, { key := .int .i64 12, val := .string ⟨#[61]⟩, born := 5 }, { key := .int .i64 13, val := .string ⟨#[97, 110, 100]⟩, born := 6 }, { key := .int .i64 14, val := .string ⟨#[111, 114]⟩, born := 7 }] 8)) :=
  run_lookup_one Tryz.underlying92 Tryz.underlying3 _ _ #[{ key := .int .i64 4, val := .string ⟨#[43]⟩, born := 0 }, { key := .int .i64 5, val := .string ⟨#[45]⟩, born := 1 }, { key := .int .i64 6, val := .string ⟨#[42]⟩, born := 2 }, { key := .int .i64 7, val := .string ⟨#[47]⟩, born := 3 }, { key := .int .i64 11, val := .string ⟨#[60]⟩, born := 4 }, { key := .int .i64 12, val := .string ⟨#[61]⟩, born := 5 }, { key := .int .i64 13, val := .string ⟨#[97, 110, 100]⟩, born := 6 }, { key := .int .i64 14, val := .string ⟨#[111, 114]⟩, born := 7 }] 8 5 12 _ (MapKept.heap_alloc w0 _).1 (by kernel_rfl)
theorem sgn_at6 (w0 : World) : (Instr.lookup 92 (.map (some w0.heap.size)) (.int .i64 13) false).run Tryz.prog (w0.alloc (.map #[{ key := .int .i64 4, val := .string ⟨#[43]⟩, born := 0 }, { key := .int .i64 5, val := .string ⟨#[45]⟩, born := 1 }, { key := .int .i64 6, val := .string ⟨#[42]⟩, born := 2 }, { key := .int .i64 7, val := .string ⟨#[47]⟩, born := 3 }, { key := .int .i64 11, val := .string ⟨#[60]⟩, born := 4 }, { key := .int .i64 12, val := .string ⟨#[61]⟩, born := 5 }, { key := .int .i64 13, val := .string ⟨#[97, 110, 100]⟩, born := 6 }, { key := .int .i64 14, val := .string ⟨#[111, 114]⟩, born := 7 }] 8)) = .ok (.string ⟨#[97, 110, 100]⟩) (w0.alloc (.map #[{ key := .int .i64 4, val := .string ⟨#[43]⟩, born := 0 }, { key := .int .i64 5, val := .string ⟨#[45]⟩, born := 1 }, { key := .int .i64 6, val := .string ⟨#[42]⟩, born := 2 }, { key := .int .i64 7, val := .string ⟨#[47]⟩, born := 3 }, { key := .int .i64 11, val := .string ⟨#[60]⟩, born := 4 }, { key := .int .i64 12, val := .string ⟨#[61]⟩, born := 5 }, { key := .int .i64 13, val := .string ⟨#[97, 110, 100]⟩, born := 6 }, { key := .int .i64 14, val := .string ⟨#[111, 114]⟩, born := 7 }] 8)) :=
  run_lookup_one Tryz.underlying92 Tryz.underlying3 _ _ #[{ key := .int .i64 4, val := .string ⟨#[43]⟩, born := 0 }, { key := .int .i64 5, val := .string ⟨#[45]⟩, born := 1 }, { key := .int .i64 6, val := .string ⟨#[42]⟩, born := 2 }, { key := .int .i64 7, val := .string ⟨#[47]⟩, born := 3 }, { key := .int .i64 11, val := .string ⟨#[60]⟩, born := 4 }, { key := .int .i64 12, val := .string ⟨#[61]⟩, born := 5 }, { key := .int .i64 13, val := .string ⟨#[97, 110, 100]⟩, born := 6 }, { key := .int .i64 14, val := .string ⟨#[111, 114]⟩, born := 7 }] 8 6 13 _ (MapKept.heap_alloc w0 _).1 (by kernel_rfl)
theorem sgn_at7 (w0 : World) : (Instr.lookup 92 (.map (some w0.heap.size)) (.int .i64 14) false).run Tryz.prog (w0.alloc (.map #[{ key := .int .i64 4, val := .string ⟨#[43]⟩, born := 0 }, { key := .int .i64 5, val := .string ⟨#[45]⟩, born := 1 }, { key := .int .i64 6, val := .string ⟨#[42]⟩, born := 2 }, { key := .int .i64 7, val := .string ⟨#[47]⟩, born := 3 }, { key := .int .i64 11, val := .string ⟨#[60]⟩, born := 4 }, { key := .int .i64 12, val := .string ⟨#[61]⟩, born := 5 }, { key := .int .i64 13, val := .string ⟨#[97, 110, 100]⟩, born := 6 }, { key := .int .i64 14, val := .string ⟨#[111, 114]⟩, born := 7 }] 8)) = .ok (.string ⟨#[111, 114]⟩) (w0.alloc (.map #[{ key := .int .i64 4, val := .string ⟨#[43]⟩, born := 0 }, { key := .int .i64 5, val := .string ⟨#[45]⟩, born := 1 }, { key := .int .i64 6, val := .string ⟨#[42]⟩, born := 2 }, { key := .int .i64 7, val := .string ⟨#[47]⟩, born := 3 }, { key := .int .i64 11, val := .string ⟨#[60]⟩, born := 4 }, { key := .int .i64 12, val := .string ⟨#[61]⟩, born := 5 }, { key := .int .i64 13, val := .string ⟨#[97, 110, 100]⟩, born := 6 }, { key := .int .i64 14, val := .string ⟨#[111, 114]⟩, born := 7 }] 8)) :=
  run_lookup_one Tryz.underlying92 Tryz.underlying3 _ _ #[{ key := .int .i64 4, val := .string ⟨#[43]⟩, born := 0 }, { key := .int .i64 5, val := .string ⟨#[45]⟩, born := 1 }, { key := .int .i64 6, val := .string ⟨#[42]⟩, born := 2 }, { key := .int .i64 7, val := .string ⟨#[47]⟩, born := 3 }, { key := .int .i64 11, val := .string ⟨#[60]⟩, born := 4 }, { key := .int .i64 12, val := .string ⟨#[61]⟩, born := 5 }, { key := .int .i64 13, val := .string ⟨#[97, 110, 100]⟩, born := 6 }, { key := .int .i64 14, val := .string ⟨#[111, 114]⟩, born := 7 }] 8 7 14 _ (MapKept.heap_alloc w0 _).1 (by kernel_rfl)
end Go.Proofs.YtoioegkpmncicaaGreatDoor
namespace Go.Proofs.YtoioegkpmncicaaGreatDoor
open Go.RowKit Go.Shelf
set_option maxRecDepth 100000

def SzEnd (e : Xp) (l m : Nat) (w : World) (x : Ending) (w' : World) : Prop :=
  ∃ z : Int, x = .returned (.int .i64 z) ∧ ((okE e = true ∧ depE e ≤ l ∧ cntE e ≤ m ∧ z = m - cntE e) ∨ (¬ (okE e = true ∧ depE e ≤ l ∧ cntE e ≤ m) ∧ z = -1)) ∧ Below w.heap.size w w'
set_option maxHeartbeats 3200000 in
theorem size_any (Q : Nat → Prop) : ∀ (e : Xp) (l m : Nat) (v : Value) (w : World), l ≤ 1000 → m ≤ 1000 → Tree Q w e v → Calls Tryz.prog 37 #[v, .int .i64 (l : Nat), .int .i64 (m : Nat)] w (SzEnd e l m w) := by
  intro e
  induction e using Xp.ind with
  | h o nn kids ih =>
  intro l m v w hl hm ht
  obtain ⟨ad, cap, rfl, hlen, hks⟩ := ht.shape
  simp only [Xp.o, Xp.n, Xp.ks] at *
  have hw1 : IntKind.i64.wrap ((l : Int) - 1) = (l : Int) - 1 := IntWalk.i64_in _ (by omega)
  have hw2 : IntKind.i64.wrap ((m : Int) - 1) = (m : Int) - 1 := IntWalk.i64_in _ (by omega)
  have hcnt : cntE (.mk o nn kids) = 1 + cntL kids := cntE_mk _ _ _
  have hdep : depE (.mk o nn kids) = 1 + depL kids := depE_mk _ _ _
  have hok : okE (.mk o nn kids) = (nodeB o nn kids.length && okL kids) := okE_mk _ _ _
  have hnd := fun w => rnode_any o nn ad kids.length cap w
  cases hC : nodeB o nn kids.length with
  | false =>
    have HF : Hid (¬ (okE (.mk o nn kids) = true ∧ depE (.mk o nn kids) ≤ l ∧ cntE (.mk o nn kids) ≤ m)) := Lib.hid (by rintro ⟨h, _, _⟩; rw [hok, hC] at h; cases h)
    rw [hC] at hnd
    clear ih hks ht hcnt hdep hok hC
    go_enter Tryz.func37, Tryz.ntmps37
    go_wp2_with fail
    refine (hnd _).mono ?_
    rintro e w1 ⟨rfl, hb⟩
    go_wp2_with fail
    go_ret
    exact ⟨-1, rfl, .inr ⟨HF.out, rfl⟩, Below.trans (by (repeat (first | exact Below.refl _ _ | assumption | refine Below.drew ?_ | refine below_drewN ?_ _ | refine Below.setCell ?_ (by first | omega | (simp <;> omega)) _ | refine Below.alloc ?_ (by first | omega | (simp <;> omega)) _))) (hb.mono (by simp))⟩
  | true =>
  rw [hC] at hnd
  by_cases hA : l < 1
  · have hA' : decide ((l : Int) < 1) = true := by simp; omega
    have hA2 : decide (l < 1) = true := by simp; omega
    have HF : Hid (¬ (okE (.mk o nn kids) = true ∧ depE (.mk o nn kids) ≤ l ∧ cntE (.mk o nn kids) ≤ m)) := Lib.hid (by rintro ⟨_, h, _⟩; omega)
    clear ih hks ht hcnt hdep hok hC hA
    go_enter Tryz.func37, Tryz.ntmps37
    go_wp2_with fail
    refine (hnd _).mono ?_
    rintro e w1 ⟨rfl, hb⟩
    go_wp2_with fail
    go_ret
    exact ⟨-1, rfl, .inr ⟨HF.out, rfl⟩, Below.trans (by (repeat (first | exact Below.refl _ _ | assumption | refine Below.drew ?_ | refine below_drewN ?_ _ | refine Below.setCell ?_ (by first | omega | (simp <;> omega)) _ | refine Below.alloc ?_ (by first | omega | (simp <;> omega)) _))) (hb.mono (by simp))⟩
  have hA' : decide ((l : Int) < 1) = false := by simp; omega
  have hA2 : decide (l < 1) = false := by simp; omega
  by_cases hB : m < 1
  · have hB' : decide ((m : Int) < 1) = true := by simp; omega
    have hB2 : decide (m < 1) = true := by simp; omega
    have HF : Hid (¬ (okE (.mk o nn kids) = true ∧ depE (.mk o nn kids) ≤ l ∧ cntE (.mk o nn kids) ≤ m)) := Lib.hid (by rintro ⟨_, _, h⟩; omega)
    clear ih hks ht hcnt hdep hok hC hA hB
    go_enter Tryz.func37, Tryz.ntmps37
    go_wp2_with fail
    refine (hnd _).mono ?_
    rintro e w1 ⟨rfl, hb⟩
    go_wp2_with fail
    go_ret
    exact ⟨-1, rfl, .inr ⟨HF.out, rfl⟩, Below.trans (by (repeat (first | exact Below.refl _ _ | assumption | refine Below.drew ?_ | refine below_drewN ?_ _ | refine Below.setCell ?_ (by first | omega | (simp <;> omega)) _ | refine Below.alloc ?_ (by first | omega | (simp <;> omega)) _))) (hb.mono (by simp))⟩
  have hB' : decide ((m : Int) < 1) = false := by simp; omega
  have hB2 : decide (m < 1) = false := by simp; omega
  have hIH : ∀ (k : Nat) (hk : k < kids.length) (m2 : Nat) (v2 : Value) (w2 : World), m2 ≤ 1000 → Tree Q w2 kids[k] v2 → Calls Tryz.prog 37 #[v2, .int .i64 ((l : Int) - 1), .int .i64 (m2 : Nat)] w2 (SzEnd kids[k] (l - 1) m2 w2) := fun k hk m2 v2 w2 h1 h2 => by
    have := ih kids[k] (List.getElem_mem hk) (l - 1) m2 v2 w2 (by omega) h1 h2
    rw [show ((l - 1 : Nat) : Int) = (l : Int) - 1 by omega] at this
    exact this
  have hC2 := hC
  clear ih hC
  go_enter Tryz.func37, Tryz.ntmps37
  go_wp2_with fail
  refine (hnd _).mono ?_
  rintro e w1 ⟨rfl, hb⟩
  have o2 := (Own.new w #[.int .i64 o, .int .i64 nn, .slice ad kids.length cap] 24).below hb
  have hb1 : Below w.heap.size w w1 := Below.trans (by (repeat (first | exact Below.refl _ _ | assumption | refine Below.drew ?_ | refine below_drewN ?_ _ | refine Below.setCell ?_ (by first | omega | (simp <;> omega)) _ | refine Below.alloc ?_ (by first | omega | (simp <;> omega)) _))) (hb.mono (by simp))
  clear hnd hb
  go_wp2_with fail
  go_loopw [8, 9] (fun z i wr => ∃ k : Nat, i = .int .i64 k ∧ k ≤ kids.length ∧ okL (kids.take k) = true ∧ depL (kids.take k) + 1 ≤ l ∧ 1 + cntL (kids.take k) ≤ m ∧ z = .int .i64 ((m - 1 - cntL (kids.take k) : Nat) : Int) ∧ Own wr w.heap.size [.int .i64 o, .int .i64 nn, .slice ad kids.length cap] ∧ Below w.heap.size w wr) (fun _ i _ => kids.length - (intOf i).toNat)
  case atStart => exact ⟨0, rfl, Nat.zero_le _, by simp [okL], by simp [depL]; omega, by simp [cntL]; omega, by simp [cntL]; omega, o2, hb1⟩
  case round =>
    obtain ⟨k, rfl, hkl, r1, r2, r3, rfl, q1, q2⟩ := hrel
    obtain ⟨u0, u1, u2, -, -, -, uz⟩ := q1.three
    by_cases hk : k < kids.length
    · obtain ⟨c1, c2⟩ := cnt_at hk
      obtain ⟨d1, d2⟩ := dep_at hk
      have e1 := ok_at hk
      have t1 := ht.below q2
      obtain ⟨ad', cap', hv', -, ts⟩ := t1.shape
      have hadd : ad' = ad := by simp [Xp.o, Xp.n, Xp.ks] at hv'; exact hv'.1.symm
      subst hadd
      obtain ⟨a, ad2, cap2, rfl, m0, m1, m2, tk, hab⟩ := ts.reads k hk
      simp only [Xp.ks] at m0 m1 m2 tk
      have hmem := List.getElem_mem hk
      have hwk : IntKind.i64.wrap ((k : Int) + 1) = (k : Int) + 1 := IntWalk.i64_in _ (by omega)
      obtain ⟨c, hc⟩ : ∃ c, m - 1 - cntL (kids.take k) = c := ⟨_, rfl⟩
      have hcall := hIH k hk c _ wr (by omega) tk
      have HA : Hid (okE kids[k] = true ∧ depE kids[k] ≤ l - 1 ∧ cntE kids[k] ≤ c → okL (kids.take (k + 1)) = true ∧ depL (kids.take (k + 1)) + 1 ≤ l ∧ 1 + cntL (kids.take (k + 1)) ≤ m ∧ (c : Int) - cntE kids[k] = ((m - 1 - cntL (kids.take (k + 1)) : Nat) : Int)) := Lib.hid (by
        rintro ⟨h1, h2, h3⟩
        exact ⟨by rw [e1, r1, h1]; rfl, by omega, by omega, by omega⟩)
      have HB : Hid (okE (.mk o nn kids) = true ∧ depE (.mk o nn kids) ≤ l ∧ cntE (.mk o nn kids) ≤ m → okE kids[k] = true ∧ depE kids[k] ≤ l - 1 ∧ cntE kids[k] ≤ c) := Lib.hid (by
        rintro ⟨h1, h2, h3⟩
        rw [hok, Bool.and_eq_true] at h1
        exact ⟨okL_mem h1.2 _ hmem, by omega, by omega⟩)
      rw [hc]
      generalize kids[k] = x at *
      clear c1 c2 d1 d2 e1 hmem r1 r2 r3 hv' t1 ts hcnt hdep hok hc
      go_wp2_with fail
      refine hcall.mono ?_
      rintro e w2 ⟨z, rfl, hz, kk⟩
      have q3 := q2.trans (kk.mono q2.size)
      replace q1 := q1.below kk
      rcases hz with ⟨h1, h2, h3, rfl⟩ | ⟨h1, rfl⟩
      · obtain ⟨g1, g2, g3, g4⟩ := HA.out ⟨h1, h2, h3⟩
        have hg5 : decide ((m : Int) - 1 - cntL (kids.take (k + 1)) < 0) = false := by simp; omega
        rw [g4]
        clear h1 h2 h3 u0 u1 u2 g4
        go_wp2_with fail
        go_roundw
        case rel => exact ⟨k + 1, by go_num, by omega, g1, g2, g3, rfl, q1, q3⟩
        case measure => simp [intOf]; omega
      · have HF : Hid (¬ (okE (.mk o nn kids) = true ∧ depE (.mk o nn kids) ≤ l ∧ cntE (.mk o nn kids) ≤ m)) := Lib.hid (fun h => h1 (HB.out h))
        clear h1
        go_wp2_with fail
        go_ret
        exact ⟨-1, rfl, .inr ⟨HF.out, rfl⟩, q3⟩
    · have hkE : k = kids.length := by omega
      subst hkE
      rw [List.take_length] at *
      have HT : Hid (okE (.mk o nn kids) = true ∧ depE (.mk o nn kids) ≤ l ∧ cntE (.mk o nn kids) ≤ m ∧ ((m - 1 - cntL kids : Nat) : Int) = m - cntE (.mk o nn kids)) := Lib.hid ⟨by rw [hok, r1, Bool.and_true]; exact hC2, by omega, by omega, by omega⟩
      clear hcnt hdep hok r1 r2 r3
      go_wp2_with fail
      go_ret
      exact ⟨_, rfl, .inl HT.out, q2⟩
set_option maxHeartbeats 800000 in
theorem rvalid8_any {Q : Nat → Prop} (e : Xp) (v : Value) (w : World) (ht : Tree Q w e v) : Calls Tryz.prog 16 #[v] w (Ret (.bool (validF e)) w) := by
  have hsz := fun w1 h => size_any Q e 30 200 v w1 (by omega) (by omega) (Tree.below ht (w' := w1) h)
  obtain ⟨ad, cap, rfl, -, -⟩ := ht.shape
  have HV : Hid (validF e = true ↔ okE e = true ∧ depE e ≤ 30 ∧ cntE e ≤ 200) := Lib.hid (by
    unfold validF
    simp only [Bool.and_eq_true, decide_eq_true_eq]
    exact ⟨fun ⟨⟨h1, h2⟩, h3⟩ => ⟨h1, h3, h2⟩, fun ⟨h1, h2, h3⟩ => ⟨⟨h1, h3⟩, h2⟩⟩)
  go_enter Tryz.func16, Tryz.ntmps16
  go_wp2_with fail
  refine (hsz _ (by (repeat (first | exact Below.refl _ _ | assumption | refine Below.drew ?_ | refine below_drewN ?_ _ | refine Below.setCell ?_ (by first | omega | (simp <;> omega)) _ | refine Below.alloc ?_ (by first | omega | (simp <;> omega)) _)))).mono ?_
  rintro x w1 ⟨z, rfl, hz, hk⟩
  have hb1 : Below w.heap.size w w1 := Below.trans (by (repeat (first | exact Below.refl _ _ | assumption | refine Below.drew ?_ | refine below_drewN ?_ _ | refine Below.setCell ?_ (by first | omega | (simp <;> omega)) _ | refine Below.alloc ?_ (by first | omega | (simp <;> omega)) _))) (hk.mono (by simp))
  rcases hz with ⟨h1, h2, h3, rfl⟩ | ⟨h1, rfl⟩
  · have hd : decide (((200 : Nat) : Int) - cntE e ≥ 0) = true := by simp; omega
    have e1 : Hid (validF e = true) := Lib.hid (HV.out.2 ⟨h1, h2, h3⟩)
    clear h1 h2
    go_wp2_with fail
    go_ret
    exact Ret.mk (boolV (by simp [e1.out]; omega)) hb1
  · have e1 : Hid (validF e = false) := Lib.hid (by rw [Bool.eq_false_iff]; exact fun h => h1 (HV.out.1 h))
    clear h1
    go_wp2_with fail
    go_ret
    exact Ret.mk (boolV (by simp [e1.out])) hb1

/-! ### left and few -/
def LfEnd (e : Xp) (l m : Nat) (w : World) (x : Ending) (w' : World) : Prop :=
  ∃ z : Int, x = .returned (.int .i64 z) ∧ ((depE e ≤ l ∧ cntE e ≤ m ∧ z = m - cntE e) ∨ (¬ (depE e ≤ l ∧ cntE e ≤ m) ∧ z < 0 ∧ -1 ≤ z)) ∧ Below w.heap.size w w'
set_option maxHeartbeats 3200000 in
theorem left_any (Q : Nat → Prop) : ∀ (e : Xp) (l m : Nat) (v : Value) (w : World), l ≤ 1000 → m ≤ 1000 → Tree Q w e v → Calls Tryz.prog 29 #[v, .int .i64 (l : Nat), .int .i64 (m : Nat)] w (LfEnd e l m w) := by
  intro e
  induction e using Xp.ind with
  | h o nn kids ih =>
  intro l m v w hl hm ht
  obtain ⟨ad, cap, rfl, hlen, hks⟩ := ht.shape
  simp only [Xp.o, Xp.n, Xp.ks] at *
  have hw1 : IntKind.i64.wrap ((l : Int) - 1) = (l : Int) - 1 := IntWalk.i64_in _ (by omega)
  have hw2 : IntKind.i64.wrap ((m : Int) - 1) = (m : Int) - 1 := IntWalk.i64_in _ (by omega)
  have hcnt : cntE (.mk o nn kids) = 1 + cntL kids := cntE_mk _ _ _
  have hdep : depE (.mk o nn kids) = 1 + depL kids := depE_mk _ _ _
  by_cases hA : l < 1
  · have hA' : decide ((l : Int) < 1) = true := by simp; omega
    have hA2 : decide (l < 1) = true := by simp; omega
    have HF : Hid (¬ (depE (.mk o nn kids) ≤ l ∧ cntE (.mk o nn kids) ≤ m)) := Lib.hid (by rintro ⟨h, _⟩; omega)
    clear ih hks ht hcnt hdep hA
    go_enter Tryz.func29, Tryz.ntmps29
    go_wp2_with fail
    go_ret
    exact ⟨-1, rfl, .inr ⟨HF.out, by omega, by omega⟩, by (repeat (first | exact Below.refl _ _ | assumption | refine Below.drew ?_ | refine below_drewN ?_ _ | refine Below.setCell ?_ (by first | omega | (simp <;> omega)) _ | refine Below.alloc ?_ (by first | omega | (simp <;> omega)) _))⟩
  have hA' : decide ((l : Int) < 1) = false := by simp; omega
  have hA2 : decide (l < 1) = false := by simp; omega
  have hIH : ∀ (k : Nat) (hk : k < kids.length) (m2 : Nat) (v2 : Value) (w2 : World), m2 ≤ 1000 → Tree Q w2 kids[k] v2 → Calls Tryz.prog 29 #[v2, .int .i64 ((l : Int) - 1), .int .i64 (m2 : Nat)] w2 (LfEnd kids[k] (l - 1) m2 w2) := fun k hk m2 v2 w2 h1 h2 => by
    have := ih kids[k] (List.getElem_mem hk) (l - 1) m2 v2 w2 (by omega) h1 h2
    rw [show ((l - 1 : Nat) : Int) = (l : Int) - 1 by omega] at this
    exact this
  clear ih
  have o2 := Own.new w #[.int .i64 o, .int .i64 nn, .slice ad kids.length cap] 24
  have hb1 : Below w.heap.size w (w.alloc (.cells #[.int .i64 o, .int .i64 nn, .slice ad kids.length cap] 24)) := by (repeat (first | exact Below.refl _ _ | assumption | refine Below.drew ?_ | refine below_drewN ?_ _ | refine Below.setCell ?_ (by first | omega | (simp <;> omega)) _ | refine Below.alloc ?_ (by first | omega | (simp <;> omega)) _))
  go_enter Tryz.func29, Tryz.ntmps29
  go_wp2_with fail
  go_loopw [2, 7] (fun z i wr => ∃ (k : Nat) (y : Int), i = .int .i64 k ∧ z = .int .i64 y ∧ k ≤ kids.length ∧ ((depL (kids.take k) + 1 ≤ l ∧ cntL (kids.take k) ≤ m ∧ y = (m : Int) - 1 - cntL (kids.take k)) ∨ (y < 0 ∧ -1 ≤ y ∧ ¬ (depE (.mk o nn kids) ≤ l ∧ cntE (.mk o nn kids) ≤ m))) ∧ Own wr w.heap.size [.int .i64 o, .int .i64 nn, .slice ad kids.length cap] ∧ Below w.heap.size w wr) (fun _ i _ => kids.length - (intOf i).toNat)
  case atStart => exact ⟨0, (m : Int) - 1, rfl, rfl, Nat.zero_le _, .inl ⟨by simp [depL]; omega, by simp [cntL], by simp [cntL]⟩, o2, hb1⟩
  case round =>
    obtain ⟨k, y, rfl, rfl, hkl, hy, q1, q2⟩ := hrel
    obtain ⟨u0, u1, u2, -, -, -, uz⟩ := q1.three
    have hyl : -1 ≤ y ∧ y ≤ 1000 := by rcases hy with h | h <;> omega
    by_cases hk : k < kids.length
    · by_cases hy0 : 0 ≤ y
      · obtain ⟨r1, r2, r3⟩ : depL (kids.take k) + 1 ≤ l ∧ cntL (kids.take k) ≤ m ∧ y = (m : Int) - 1 - cntL (kids.take k) := by
          rcases hy with h | h
          · exact h
          · omega
        clear hy
        obtain ⟨c1, c2⟩ := cnt_at hk
        obtain ⟨d1, d2⟩ := dep_at hk
        have t1 := ht.below q2
        obtain ⟨ad', cap', hv', -, ts⟩ := t1.shape
        have hadd : ad' = ad := by simp [Xp.o, Xp.n, Xp.ks] at hv'; exact hv'.1.symm
        subst hadd
        obtain ⟨a, ad2, cap2, rfl, m0, m1, m2, tk, hab⟩ := ts.reads k hk
        simp only [Xp.ks] at m0 m1 m2 tk
        have hwk : IntKind.i64.wrap ((k : Int) + 1) = (k : Int) + 1 := IntWalk.i64_in _ (by omega)
        obtain ⟨c, rfl⟩ : ∃ c : Nat, y = c := ⟨y.toNat, by omega⟩
        have hcall := hIH k hk c _ wr (by omega) tk
        have HA : Hid (depE kids[k] ≤ l - 1 ∧ cntE kids[k] ≤ c → depL (kids.take (k + 1)) + 1 ≤ l ∧ cntL (kids.take (k + 1)) ≤ m ∧ (c : Int) - cntE kids[k] = (m : Int) - 1 - cntL (kids.take (k + 1))) := Lib.hid (by
          rintro ⟨h1, h2⟩
          exact ⟨by omega, by omega, by omega⟩)
        have HB : Hid (depE (.mk o nn kids) ≤ l ∧ cntE (.mk o nn kids) ≤ m → depE kids[k] ≤ l - 1 ∧ cntE kids[k] ≤ c) := Lib.hid (by
          rintro ⟨h1, h2⟩
          exact ⟨by omega, by omega⟩)
        have hg : decide ((c : Int) ≥ 0) = true := by simp
        generalize kids[k] = x at *
        clear c1 c2 d1 d2 r1 r2 r3 hv' t1 ts hcnt hdep
        go_wp2_with fail
        refine hcall.mono ?_
        rintro e w2 ⟨z, rfl, hz, kk⟩
        have q3 := q2.trans (kk.mono q2.size)
        replace q1 := q1.below kk
        have HZ : Hid ((depL (kids.take (k + 1)) + 1 ≤ l ∧ cntL (kids.take (k + 1)) ≤ m ∧ z = (m : Int) - 1 - cntL (kids.take (k + 1))) ∨ (z < 0 ∧ -1 ≤ z ∧ ¬ (depE (.mk o nn kids) ≤ l ∧ cntE (.mk o nn kids) ≤ m))) := Lib.hid (by
          rcases hz with ⟨h1, h2, h3⟩ | ⟨h1, h2, h3⟩
          · obtain ⟨g1, g2, g3⟩ := HA.out ⟨h1, h2⟩
            exact .inl ⟨g1, g2, h3.trans g3⟩
          · exact .inr ⟨h2, h3, fun h => h1 (HB.out h)⟩)
        clear hz u0 u1 u2
        go_wp2_with fail
        go_roundw
        case rel => exact ⟨k + 1, z, by go_num, rfl, by omega, HZ.out, q1, q3⟩
        case measure => simp [intOf]; omega
      · have hg : decide (y ≥ 0) = false := by simp; omega
        have hg2 : decide (0 ≤ y) = false := by simp; omega
        have HF : Hid (¬ (depE (.mk o nn kids) ≤ l ∧ cntE (.mk o nn kids) ≤ m)) := Lib.hid (by
          rcases hy with ⟨h1, h2, h3⟩ | ⟨_, _, h⟩
          · rintro ⟨_, h5⟩
            obtain ⟨c1, c2⟩ := cnt_at hk
            have := cnt_pos kids[k]
            omega
          · exact h)
        clear hy hcnt hdep
        go_wp2_with fail
        go_ret
        exact ⟨y, rfl, .inr ⟨HF.out, by omega, hyl.1⟩, q2⟩
    · have hkE : k = kids.length := by omega
      subst hkE
      rw [List.take_length] at *
      have HT : Hid ((depE (.mk o nn kids) ≤ l ∧ cntE (.mk o nn kids) ≤ m ∧ y = m - cntE (.mk o nn kids)) ∨ (¬ (depE (.mk o nn kids) ≤ l ∧ cntE (.mk o nn kids) ≤ m) ∧ y < 0 ∧ -1 ≤ y)) := Lib.hid (by
        rcases hy with ⟨h1, h2, h3⟩ | ⟨h1, h2, h3⟩
        · by_cases hc : 1 + cntL kids ≤ m
          · exact .inl ⟨by omega, by omega, by omega⟩
          · exact .inr ⟨by omega, by omega, by omega⟩
        · exact .inr ⟨h3, h1, h2⟩)
      clear hcnt hdep hy
      go_wp2_with fail
      go_ret
      exact ⟨y, rfl, HT.out, q2⟩
def fewE (e : Xp) : Bool := decide (depE e ≤ 60) && decide (cntE e ≤ 400)
set_option maxHeartbeats 800000 in
theorem few8_any {Q : Nat → Prop} (e : Xp) (v : Value) (w : World) (ht : Tree Q w e v) : Calls Tryz.prog 11 #[v] w (Ret (.bool (fewE e)) w) := by
  have hsz := fun w1 h => left_any Q e 60 400 v w1 (by omega) (by omega) (Tree.below ht (w' := w1) h)
  obtain ⟨ad, cap, rfl, -, -⟩ := ht.shape
  have HV : Hid (fewE e = true ↔ depE e ≤ 60 ∧ cntE e ≤ 400) := Lib.hid (by
    unfold fewE
    simp only [Bool.and_eq_true, decide_eq_true_eq])
  go_enter Tryz.func11, Tryz.ntmps11
  go_wp2_with fail
  refine (hsz _ (by (repeat (first | exact Below.refl _ _ | assumption | refine Below.drew ?_ | refine below_drewN ?_ _ | refine Below.setCell ?_ (by first | omega | (simp <;> omega)) _ | refine Below.alloc ?_ (by first | omega | (simp <;> omega)) _)))).mono ?_
  rintro x w1 ⟨z, rfl, hz, hk⟩
  have hb1 : Below w.heap.size w w1 := Below.trans (by (repeat (first | exact Below.refl _ _ | assumption | refine Below.drew ?_ | refine below_drewN ?_ _ | refine Below.setCell ?_ (by first | omega | (simp <;> omega)) _ | refine Below.alloc ?_ (by first | omega | (simp <;> omega)) _))) (hk.mono (by simp))
  have HZ : Hid (0 ≤ z ↔ fewE e = true) := Lib.hid (by
    rw [HV.out]
    rcases hz with ⟨h1, h2, h3⟩ | ⟨h1, h2, h3⟩
    · exact ⟨fun _ => ⟨h1, h2⟩, fun _ => by omega⟩
    · exact ⟨fun h => by omega, fun h => absurd h h1⟩)
  clear hz
  go_wp2_with fail
  go_ret
  exact Ret.mk (boolV (by simp [← HZ.out])) hb1
end Go.Proofs.YtoioegkpmncicaaGreatDoor
namespace Go.Proofs.YtoioegkpmncicaaGreatDoor
open Go.RowKit Go.Shelf
set_option maxRecDepth 100000

def vS (s : List UInt8) : Value := .string ⟨s.toArray⟩
theorem infoStr8 : (Tryz.prog.info? 9).map (fun i => (i.zero, i.size, i.bytes)) = some (some (.string ⟨#[]⟩), 1, 16) := by kernel_rfl
theorem own_bas8 {w w' : World} {B base : Nat} {xs : List Value} (h : Own w B xs) (hb : Below base w w') (hB : B < base) : Own w' B xs :=
  ⟨fun i v hi => (World.cell?_of_block (w := w) (hb.block B hB)).trans (h.cell i v hi), fun i v hi => (World.frozen?_of_block (w := w) (hb.block B hB)).trans (h.fro i v hi), Nat.lt_of_lt_of_le h.lt hb.size⟩
theorem cntL_len : ∀ l : List Xp, l.length ≤ cntL l
  | [] => by simp [cntL]
  | e :: r => by
    have := cntL_len r
    have := cnt_pos e
    simp only [cntL, List.length_cons]; omega
theorem cnt_le : ∀ {l : List Xp} {e : Xp}, e ∈ l → cntE e ≤ cntL l
  | x :: r, e, h => by
    simp only [cntL]
    rcases List.mem_cons.1 h with rfl | h
    · omega
    · have := cnt_le h; omega
def ShEnd (e : Xp) (w : World) (x : Ending) (w' : World) : Prop := ∃ s k, Sw e s k ∧ x = .returned (.string ⟨s.toArray⟩) ∧ Below w.heap.size w w'
theorem nodeB_is {o n : Int} {k : Nat} (h : nodeB o n k = true) : (o = 1 ∧ k = 0 ∧ 0 ≤ n ∧ n ≤ 999999999) ∨ (o = 2 ∧ k = 0 ∧ 0 ≤ n ∧ n ≤ 1000000000) ∨ (o = 3 ∧ k = 0 ∧ 1 ≤ n ∧ n ≤ 4) ∨ (o = 15 ∧ k = 1 ∧ n = 0) ∨ (o = 10 ∧ k = 3 ∧ n = 0) ∨
    ((o = 8 ∨ o = 9 ∨ o = 4 ∨ o = 5 ∨ o = 6 ∨ o = 7 ∨ o = 11 ∨ o = 12 ∨ o = 13 ∨ o = 14) ∧ k = 2 ∧ n = 0) := by
  unfold nodeB at h
  repeat' split at h
  all_goals simp only [Bool.and_eq_true, decide_eq_true_eq] at h
  all_goals omega
theorem row_own8 {w : World} {base n : Nat} {v : Value} {ss : List (List UInt8)} (h : Dg.OwnRow w base 9 v (ss.map vS)) (hl : ss.length = n) (h0 : 0 < n) (hn : n ≤ 200) :
    ∃ g cap, v = .slice (some ⟨g, 0, none⟩) n cap ∧ ∀ j (hj : j < ss.length), w.cell? ⟨g, j, none⟩ = some (.string ⟨ss[j].toArray⟩) := by
  have hr := Dg.Row.of_own h (by simp; omega)
  obtain ⟨_, ⟨_, h2⟩ | ⟨g, cap', cur, hv, -⟩⟩ := h
  · simp at h2; subst h2; simp at hl; omega
  · subst hl
    rw [List.length_map] at hv
    refine ⟨g, _, hv, fun j hj => ?_⟩
    obtain ⟨a, e, _, h3⟩ := hr.cells _ _ _ hv j (by simpa using hj)
    cases e
    rw [Dg.add_zero0] at h3
    rw [h3]; simp [vS]
theorem str_eq {b : ByteArray} {l : List UInt8} (h : b = ⟨l.toArray⟩) : Ending.returned (.string b) = .returned (.string ⟨l.toArray⟩) := by rw [h]
set_option maxHeartbeats 3200000 in
theorem show_any (Q : Nat → Prop) : ∀ (e : Xp) (v : Value) (w : World), okE e = true → cntE e ≤ 200 → Tree Q w e v → Calls Tryz.prog 22 #[v] w (ShEnd e w) := by
  intro e
  induction e using Xp.ind with
  | h o nn kids ih =>
  intro v w hok hcn ht
  obtain ⟨ad, cap, rfl, hlen, hks⟩ := ht.shape
  simp only [Xp.o, Xp.n, Xp.ks] at *
  rw [okE_mk, Bool.and_eq_true] at hok
  rw [cntE_mk] at hcn
  have hkn := cntL_len kids
  have hIH : ∀ (k : Nat) (hk : k < kids.length) (v2 : Value) (w2 : World), Tree Q w2 kids[k] v2 → Calls Tryz.prog 22 #[v2] w2 (ShEnd kids[k] w2) := fun k hk v2 w2 h2 => by
    have hm := List.getElem_mem hk
    exact ih kids[k] hm v2 w2 (okL_mem hok.2 _ hm) (by have := cnt_le hm; omega) h2
  obtain ⟨hnd, -⟩ := hok
  clear ih
  have o2 := Own.new w #[.int .i64 o, .int .i64 nn, .slice ad kids.length cap] 24
  have hb1 : Below w.heap.size w (w.alloc (.cells #[.int .i64 o, .int .i64 nn, .slice ad kids.length cap] 24)) := by (repeat (first | exact Below.refl _ _ | assumption | refine Below.drew ?_ | refine below_drewN ?_ _ | refine Below.setCell ?_ (by first | omega | (simp <;> omega)) _ | refine Below.alloc ?_ (by first | omega | (simp <;> omega)) _))
  go_enter Tryz.func22, Tryz.ntmps22
  go_wp2_with fail
  go_loopw [3, 4] (fun z i wr => ∃ (k : Nat) (ss : List (List UInt8)), i = .int .i64 k ∧ k ≤ kids.length ∧ ss.length = k ∧ (∀ j (h : j < kids.length) (h2 : j < ss.length), ∃ q, Sw kids[j] ss[j] q) ∧ Dg.OwnRow wr (w.heap.size + 1) 9 z (ss.map vS) ∧ Own wr w.heap.size [.int .i64 o, .int .i64 nn, .slice ad kids.length cap] ∧ Below w.heap.size w wr ∧ w.heap.size + 1 ≤ wr.heap.size) (fun _ i _ => kids.length - (intOf i).toNat)
  case atStart => exact ⟨0, [], rfl, Nat.zero_le _, rfl, fun j _ h => by simp at h, Dg.OwnRow.nil _ _ _, o2, hb1, by simp⟩
  case round =>
    obtain ⟨k, ss, rfl, hkl, hsl, hss, hown, q1, q2, q4⟩ := hrel
    obtain ⟨u0, u1, u2, -, -, -, uz⟩ := q1.three
    by_cases hk : k < kids.length
    · have t1 := ht.below q2
      obtain ⟨ad', cap', hv', -, ts⟩ := t1.shape
      have hadd : ad' = ad := by simp [Xp.o, Xp.n, Xp.ks] at hv'; exact hv'.1.symm
      subst hadd
      obtain ⟨a, ad2, cap2, rfl, m0, m1, m2, tk, hab⟩ := ts.reads k hk
      simp only [Xp.ks] at m0 m1 m2 tk
      have hwk : IntKind.i64.wrap ((k : Int) + 1) = (k : Int) + 1 := IntWalk.i64_in _ (by omega)
      have hcall := hIH k hk _ wr tk
      have HN : Hid (∀ s q, Sw kids[k] s q → ∀ j (h : j < kids.length) (h2 : j < (ss ++ [s]).length), ∃ q, Sw kids[j] (ss ++ [s])[j] q) := Lib.hid (fun s q hq j h h2 => by
        rw [List.getElem_append]
        split
        · next h3 => exact hss j h h3
        · next h3 =>
          have : j = k := by simp at h2; omega
          subst this
          simp only [hsl, Nat.sub_self, List.getElem_cons_zero]
          exact ⟨q, hq⟩)
      generalize kids[k] = x at hcall HN m0 m1 m2 tk
      clear hss hv' t1 ts hnd
      go_wp2_with fail
      refine hcall.mono ?_
      rintro e w2 ⟨s, q, hq, rfl, kk⟩
      have hnx := HN.out s q hq
      have q3 := q2.trans (kk.mono q2.size)
      replace q1 := q1.below kk
      replace hown := Dg.own_below hown kk
      have q5 : w.heap.size + 1 ≤ w2.heap.size := Nat.le_trans q4 kk.size
      have hl1 : (ss.map vS).length ≤ 200 := by simp; omega
      clear u0 u1 u2 HN hq kk q2 q4
      go_wp2_with (at_builtin; refine Dg.app_row _ rfl _ _ 58 rfl (w.heap.size + 1) 9 (.string ⟨#[]⟩) 16 Tryz.underlying58 infoStr8 rfl (by decide) _ (ss.map vS) rfl (Dg.own_below hown ((Below.refl _ w2).alloc (Nat.le_refl _) _)) _ [vS s] rfl (Dg.byte_row (Own.new _ #[vS s] _)) (by intro u hu; simp at hu; subst hu; rfl) (by simp; omega) (by simp; omega) ?_; intro v3 w3 hown3 hx3; refine Hid.out ?_)
      have q6 : Below w.heap.size w w3 := by
        have a1 := (Below.refl w2.heap.size w2).alloc (Nat.le_refl _) (.cells #[vS s] 9)
        exact q3.trans ((a1.mono q3.size).trans (hx3.mono (by omega)))
      have q7 : Own w3 w.heap.size [.int .i64 o, .int .i64 nn, .slice (some a) kids.length cap] := own_bas8 (q1.below ((Below.refl w2.heap.size w2).alloc (Nat.le_refl _) _)) hx3 (by omega)
      have q8 : w.heap.size + 1 ≤ w3.heap.size := by have := hx3.size; simp at this; omega
      clear hx3 q1 q3 hown
      refine Lib.hid ?_
      go_wp2_with fail
      go_roundw
      case rel => exact ⟨k + 1, ss ++ [s], by go_num, by omega, by simp; omega, hnx, by rw [List.map_append]; exact hown3, q7, q6, q8⟩
      case measure => simp [intOf]; omega
    · have hkE : k = kids.length := by omega
      subst hkE
      clear hIH hks ht
      rcases nodeB_is hnd with ⟨rfl, hk0, h1, h2⟩ | ⟨rfl, hk0, h1, h2⟩ | ⟨rfl, hk0, h1, h2⟩ | ⟨rfl, hk0, rfl⟩ | ⟨rfl, hk0, rfl⟩ | ⟨ho, hk0, rfl⟩
      · obtain rfl := List.length_eq_zero_iff.1 hk0
        obtain ⟨a, rfl⟩ : ∃ a : Nat, nn = a := ⟨nn.toNat, by omega⟩
        clear hnd hown hss hkn hcn
        go_wp2_with fail
        refine (rdec_any a (by omega) _).mono ?_
        rintro e w' ⟨rfl, hk⟩
        obtain ⟨g1, g2⟩ := num_kind a (by omega)
        go_wp2_with fail
        go_ret
        exact ⟨_, _, .num g1 g2, rfl, q2.trans (hk.mono q2.size)⟩
      · obtain rfl := List.length_eq_zero_iff.1 hk0
        obtain ⟨a, rfl⟩ : ∃ a : Nat, nn = a := ⟨nn.toNat, by omega⟩
        clear hnd hown hss hkn hcn
        go_wp2_with fail
        refine (rtext_any a (by omega) _).mono ?_
        rintro e w' ⟨rfl, hk⟩
        obtain ⟨g1, g2⟩ := mon_kind a (by omega)
        go_wp2_with fail
        go_ret
        exact ⟨_, _, .mon g1 g2, rfl, q2.trans (hk.mono q2.size)⟩
      · obtain rfl := List.length_eq_zero_iff.1 hk0
        clear hnd hown hss hkn hcn
        obtain rfl | rfl | rfl | rfl : nn = 1 ∨ nn = 2 ∨ nn = 3 ∨ nn = 4 := by omega
        · go_wp2_with fail
          go_ret
          exact ⟨_, _, .var (t := [110, 105, 103, 104, 116, 115]) (n := 1) (by decide) (by decide) (by decide), str_eq rfl, by (repeat (first | exact Below.refl _ _ | assumption | refine Below.drew ?_ | refine below_drewN ?_ _ | refine Below.setCell ?_ (by first | omega | (simp <;> omega)) _ | refine Below.alloc ?_ (by first | omega | (simp <;> omega)) _))⟩
        · go_wp2_with fail
          go_ret
          exact ⟨_, _, .var (t := [112, 101, 114, 115, 111, 110, 115]) (n := 2) (by decide) (by decide) (by decide), str_eq rfl, by (repeat (first | exact Below.refl _ _ | assumption | refine Below.drew ?_ | refine below_drewN ?_ _ | refine Below.setCell ?_ (by first | omega | (simp <;> omega)) _ | refine Below.alloc ?_ (by first | omega | (simp <;> omega)) _))⟩
        · go_wp2_with fail
          go_ret
          exact ⟨_, _, .var (t := [110, 105, 103, 104, 116]) (n := 3) (by decide) (by decide) (by decide), str_eq rfl, by (repeat (first | exact Below.refl _ _ | assumption | refine Below.drew ?_ | refine below_drewN ?_ _ | refine Below.setCell ?_ (by first | omega | (simp <;> omega)) _ | refine Below.alloc ?_ (by first | omega | (simp <;> omega)) _))⟩
        · go_wp2_with fail
          go_ret
          exact ⟨_, _, .var (t := [119, 101, 101, 107, 100, 97, 121]) (n := 4) (by decide) (by decide) (by decide), str_eq rfl, by (repeat (first | exact Below.refl _ _ | assumption | refine Below.drew ?_ | refine below_drewN ?_ _ | refine Below.setCell ?_ (by first | omega | (simp <;> omega)) _ | refine Below.alloc ?_ (by first | omega | (simp <;> omega)) _))⟩
      · match kids, hk0, ss, hsl with
        | [x], _, [s], _ =>
          obtain ⟨g3, cap3, rfl, hc3⟩ := row_own8 (n := 1) hown rfl (by decide) (by decide)
          have r0 := hc3 0 (by simp)
          obtain ⟨p0, S0⟩ := hss 0 (by simp) (by simp)
          simp only [List.getElem_cons_zero] at r0 S0
          have z0 := (sw_count S0).2
          simp only [cntL] at hcn
          clear hnd hown hc3 hss hkn
          go_wp2_with fail
          go_ret
          exact ⟨_, _, .not S0, str_eq (by apply ByteArray.ext; simp [ByteArray.data_append, wNot]), q2⟩
      · match kids, hk0, ss, hsl with
        | [x, y, z], _, [s, t, u], _ =>
          obtain ⟨g3, cap3, rfl, hc3⟩ := row_own8 (n := 3) hown rfl (by decide) (by decide)
          have r0 := hc3 0 (by simp)
          have r1 := hc3 1 (by simp)
          have r2 := hc3 2 (by simp)
          obtain ⟨p0, S0⟩ := hss 0 (by simp) (by simp)
          obtain ⟨p1, S1⟩ := hss 1 (by simp) (by simp)
          obtain ⟨p2, S2⟩ := hss 2 (by simp) (by simp)
          simp only [List.getElem_cons_zero, List.getElem_cons_succ] at r0 S0 r1 S1 r2 S2
          have z0 := (sw_count S0).2
          have z1 := (sw_count S1).2
          have z2 := (sw_count S2).2
          simp only [cntL] at hcn
          clear hnd hown hc3 hss hkn
          have n1 : ¬ (9223372036854775807 < 4 + s.length) := by omega
          have m1 : ¬ (9223372036854775807 < (4 : Int) + (s.length : Int)) := by omega
          have n2 : ¬ (9223372036854775807 < 4 + s.length + 6) := by omega
          have m2 : ¬ (9223372036854775807 < (4 : Int) + (s.length : Int) + 6) := by omega
          have n3 : ¬ (9223372036854775807 < 4 + s.length + 6 + t.length) := by omega
          have m3 : ¬ (9223372036854775807 < (4 : Int) + (s.length : Int) + 6 + (t.length : Int)) := by omega
          have n4 : ¬ (9223372036854775807 < 4 + s.length + 6 + t.length + 6) := by omega
          have m4 : ¬ (9223372036854775807 < (4 : Int) + (s.length : Int) + 6 + (t.length : Int) + 6) := by omega
          have n5 : ¬ (9223372036854775807 < 4 + s.length + 6 + t.length + 6 + u.length) := by omega
          have m5 : ¬ (9223372036854775807 < (4 : Int) + (s.length : Int) + 6 + (t.length : Int) + 6 + (u.length : Int)) := by omega
          have n6 : ¬ (9223372036854775807 < 4 + s.length + 6 + t.length + 6 + u.length + 1) := by omega
          have m6 : ¬ (9223372036854775807 < (4 : Int) + (s.length : Int) + 6 + (t.length : Int) + 6 + (u.length : Int) + 1) := by omega
          go_wp2_with fail
          go_quiet (fail)
          go_wp2_with fail
          go_ret
          exact ⟨_, _, .ite S0 S1 S2, str_eq (by apply ByteArray.ext; simp [ByteArray.data_append, wIf, wThen, wElse]), belD q2 _⟩
      · match kids, hk0, ss, hsl with
        | [x, y], _, [s, t], _ =>
          obtain ⟨g3, cap3, rfl, hc3⟩ := row_own8 (n := 2) hown rfl (by decide) (by decide)
          have r0 := hc3 0 (by simp)
          have r1 := hc3 1 (by simp)
          obtain ⟨p0, S0⟩ := hss 0 (by simp) (by simp)
          obtain ⟨p1, S1⟩ := hss 1 (by simp) (by simp)
          simp only [List.getElem_cons_zero, List.getElem_cons_succ] at r0 S0 r1 S1
          have z0 := (sw_count S0).2
          have z1 := (sw_count S1).2
          simp only [cntL] at hcn
          clear hown hc3 hss hkn
          rcases ho with rfl | rfl | ho
          · clear hnd
            have n1 : ¬ (9223372036854775807 < 4 + s.length) := by omega
            have m1 : ¬ (9223372036854775807 < (4 : Int) + (s.length : Int)) := by omega
            have n2 : ¬ (9223372036854775807 < 4 + s.length + 2) := by omega
            have m2 : ¬ (9223372036854775807 < (4 : Int) + (s.length : Int) + 2) := by omega
            have n3 : ¬ (9223372036854775807 < 4 + s.length + 2 + t.length) := by omega
            have m3 : ¬ (9223372036854775807 < (4 : Int) + (s.length : Int) + 2 + (t.length : Int)) := by omega
            have n4 : ¬ (9223372036854775807 < 4 + s.length + 2 + t.length + 1) := by omega
            have m4 : ¬ (9223372036854775807 < (4 : Int) + (s.length : Int) + 2 + (t.length : Int) + 1) := by omega
            go_wp2_with fail
            go_quiet (fail)
            go_wp2_with fail
            go_ret
            exact ⟨_, _, .min S0 S1, str_eq (by apply ByteArray.ext; simp [ByteArray.data_append, wMin]), belD q2 _⟩
          · clear hnd
            have n1 : ¬ (9223372036854775807 < 4 + s.length) := by omega
            have m1 : ¬ (9223372036854775807 < (4 : Int) + (s.length : Int)) := by omega
            have n2 : ¬ (9223372036854775807 < 4 + s.length + 2) := by omega
            have m2 : ¬ (9223372036854775807 < (4 : Int) + (s.length : Int) + 2) := by omega
            have n3 : ¬ (9223372036854775807 < 4 + s.length + 2 + t.length) := by omega
            have m3 : ¬ (9223372036854775807 < (4 : Int) + (s.length : Int) + 2 + (t.length : Int)) := by omega
            have n4 : ¬ (9223372036854775807 < 4 + s.length + 2 + t.length + 1) := by omega
            have m4 : ¬ (9223372036854775807 < (4 : Int) + (s.length : Int) + 2 + (t.length : Int) + 1) := by omega
            go_wp2_with fail
            go_quiet (fail)
            go_wp2_with fail
            go_ret
            exact ⟨_, _, .max S0 S1, str_eq (by apply ByteArray.ext; simp [ByteArray.data_append, wMax]), belD q2 _⟩
          · have hmm := @run_makeMap Tryz.prog
            have hp0 := sgn_put0
            have hp1 := sgn_put1
            have hp2 := sgn_put2
            have hp3 := sgn_put3
            have hp4 := sgn_put4
            have hp5 := sgn_put5
            have hp6 := sgn_put6
            have hp7 := sgn_put7
            have bb : Below wr.heap.size wr (wr.alloc (.map #[{ key := .int .i64 4, val := .string ⟨#[43]⟩, born := 0 }, { key := .int .i64 5, val := .string ⟨#[45]⟩, born := 1 }, { key := .int .i64 6, val := .string ⟨#[42]⟩, born := 2 }, { key := .int .i64 7, val := .string ⟨#[47]⟩, born := 3 }, { key := .int .i64 11, val := .string ⟨#[60]⟩, born := 4 }, { key := .int .i64 12, val := .string ⟨#[61]⟩, born := 5 }, { key := .int .i64 13, val := .string ⟨#[97, 110, 100]⟩, born := 6 }, { key := .int .i64 14, val := .string ⟨#[111, 114]⟩, born := 7 }] 8)) := (Below.refl _ wr).alloc (Nat.le_refl _) _
            have b0 := (bb.cell (p := ⟨g3, 0, none⟩) (lblock_lt r0)).trans r0
            have b1 := (bb.cell (p := ⟨g3, 1, none⟩) (lblock_lt r1)).trans r1
            have q9 := q1.below bb
            have qz : Below w.heap.size w (wr.alloc (.map #[{ key := .int .i64 4, val := .string ⟨#[43]⟩, born := 0 }, { key := .int .i64 5, val := .string ⟨#[45]⟩, born := 1 }, { key := .int .i64 6, val := .string ⟨#[42]⟩, born := 2 }, { key := .int .i64 7, val := .string ⟨#[47]⟩, born := 3 }, { key := .int .i64 11, val := .string ⟨#[60]⟩, born := 4 }, { key := .int .i64 12, val := .string ⟨#[61]⟩, born := 5 }, { key := .int .i64 13, val := .string ⟨#[97, 110, 100]⟩, born := 6 }, { key := .int .i64 14, val := .string ⟨#[111, 114]⟩, born := 7 }] 8)) := q2.trans (bb.mono q2.size)
            rcases ho with rfl | rfl | rfl | rfl | rfl | rfl | rfl | rfl
            · clear hnd
              obtain ⟨y0, y1, y2, -, -, -, yz⟩ := q9.three
              have hlk := sgn_at0 wr
              have n1 : ¬ (9223372036854775807 < 1 + s.length) := by omega
              have m1 : ¬ (9223372036854775807 < (1 : Int) + (s.length : Int)) := by omega
              have n2 : ¬ (9223372036854775807 < 1 + s.length + 1) := by omega
              have m2 : ¬ (9223372036854775807 < (1 : Int) + (s.length : Int) + 1) := by omega
              have n3 : ¬ (9223372036854775807 < 1 + s.length + 1 + 1) := by omega
              have m3 : ¬ (9223372036854775807 < (1 : Int) + (s.length : Int) + 1 + 1) := by omega
              have n4 : ¬ (9223372036854775807 < 1 + s.length + 1 + 1 + 1) := by omega
              have m4 : ¬ (9223372036854775807 < (1 : Int) + (s.length : Int) + 1 + 1 + 1) := by omega
              have n5 : ¬ (9223372036854775807 < 1 + s.length + 1 + 1 + 1 + t.length) := by omega
              have m5 : ¬ (9223372036854775807 < (1 : Int) + (s.length : Int) + 1 + 1 + 1 + (t.length : Int)) := by omega
              have n6 : ¬ (9223372036854775807 < 1 + s.length + 1 + 1 + 1 + t.length + 1) := by omega
              have m6 : ¬ (9223372036854775807 < (1 : Int) + (s.length : Int) + 1 + 1 + 1 + (t.length : Int) + 1) := by omega
              go_wp2_with fail
              go_quiet (fail)
              go_wp2_with fail
              go_ret
              exact ⟨_, _, .two S0 .add S1, str_eq (by apply ByteArray.ext; simp [ByteArray.data_append]), belD qz _⟩
            · clear hnd
              obtain ⟨y0, y1, y2, -, -, -, yz⟩ := q9.three
              have hlk := sgn_at1 wr
              have n1 : ¬ (9223372036854775807 < 1 + s.length) := by omega
              have m1 : ¬ (9223372036854775807 < (1 : Int) + (s.length : Int)) := by omega
              have n2 : ¬ (9223372036854775807 < 1 + s.length + 1) := by omega
              have m2 : ¬ (9223372036854775807 < (1 : Int) + (s.length : Int) + 1) := by omega
              have n3 : ¬ (9223372036854775807 < 1 + s.length + 1 + 1) := by omega
              have m3 : ¬ (9223372036854775807 < (1 : Int) + (s.length : Int) + 1 + 1) := by omega
              have n4 : ¬ (9223372036854775807 < 1 + s.length + 1 + 1 + 1) := by omega
              have m4 : ¬ (9223372036854775807 < (1 : Int) + (s.length : Int) + 1 + 1 + 1) := by omega
              have n5 : ¬ (9223372036854775807 < 1 + s.length + 1 + 1 + 1 + t.length) := by omega
              have m5 : ¬ (9223372036854775807 < (1 : Int) + (s.length : Int) + 1 + 1 + 1 + (t.length : Int)) := by omega
              have n6 : ¬ (9223372036854775807 < 1 + s.length + 1 + 1 + 1 + t.length + 1) := by omega
              have m6 : ¬ (9223372036854775807 < (1 : Int) + (s.length : Int) + 1 + 1 + 1 + (t.length : Int) + 1) := by omega
              go_wp2_with fail
              go_quiet (fail)
              go_wp2_with fail
              go_ret
              exact ⟨_, _, .two S0 .sub S1, str_eq (by apply ByteArray.ext; simp [ByteArray.data_append]), belD qz _⟩
            · clear hnd
              obtain ⟨y0, y1, y2, -, -, -, yz⟩ := q9.three
              have hlk := sgn_at2 wr
              have n1 : ¬ (9223372036854775807 < 1 + s.length) := by omega
              have m1 : ¬ (9223372036854775807 < (1 : Int) + (s.length : Int)) := by omega
              have n2 : ¬ (9223372036854775807 < 1 + s.length + 1) := by omega
              have m2 : ¬ (9223372036854775807 < (1 : Int) + (s.length : Int) + 1) := by omega
              have n3 : ¬ (9223372036854775807 < 1 + s.length + 1 + 1) := by omega
              have m3 : ¬ (9223372036854775807 < (1 : Int) + (s.length : Int) + 1 + 1) := by omega
              have n4 : ¬ (9223372036854775807 < 1 + s.length + 1 + 1 + 1) := by omega
              have m4 : ¬ (9223372036854775807 < (1 : Int) + (s.length : Int) + 1 + 1 + 1) := by omega
              have n5 : ¬ (9223372036854775807 < 1 + s.length + 1 + 1 + 1 + t.length) := by omega
              have m5 : ¬ (9223372036854775807 < (1 : Int) + (s.length : Int) + 1 + 1 + 1 + (t.length : Int)) := by omega
              have n6 : ¬ (9223372036854775807 < 1 + s.length + 1 + 1 + 1 + t.length + 1) := by omega
              have m6 : ¬ (9223372036854775807 < (1 : Int) + (s.length : Int) + 1 + 1 + 1 + (t.length : Int) + 1) := by omega
              go_wp2_with fail
              go_quiet (fail)
              go_wp2_with fail
              go_ret
              exact ⟨_, _, .two S0 .mul S1, str_eq (by apply ByteArray.ext; simp [ByteArray.data_append]), belD qz _⟩
            · clear hnd
              obtain ⟨y0, y1, y2, -, -, -, yz⟩ := q9.three
              have hlk := sgn_at3 wr
              have n1 : ¬ (9223372036854775807 < 1 + s.length) := by omega
              have m1 : ¬ (9223372036854775807 < (1 : Int) + (s.length : Int)) := by omega
              have n2 : ¬ (9223372036854775807 < 1 + s.length + 1) := by omega
              have m2 : ¬ (9223372036854775807 < (1 : Int) + (s.length : Int) + 1) := by omega
              have n3 : ¬ (9223372036854775807 < 1 + s.length + 1 + 1) := by omega
              have m3 : ¬ (9223372036854775807 < (1 : Int) + (s.length : Int) + 1 + 1) := by omega
              have n4 : ¬ (9223372036854775807 < 1 + s.length + 1 + 1 + 1) := by omega
              have m4 : ¬ (9223372036854775807 < (1 : Int) + (s.length : Int) + 1 + 1 + 1) := by omega
              have n5 : ¬ (9223372036854775807 < 1 + s.length + 1 + 1 + 1 + t.length) := by omega
              have m5 : ¬ (9223372036854775807 < (1 : Int) + (s.length : Int) + 1 + 1 + 1 + (t.length : Int)) := by omega
              have n6 : ¬ (9223372036854775807 < 1 + s.length + 1 + 1 + 1 + t.length + 1) := by omega
              have m6 : ¬ (9223372036854775807 < (1 : Int) + (s.length : Int) + 1 + 1 + 1 + (t.length : Int) + 1) := by omega
              go_wp2_with fail
              go_quiet (fail)
              go_wp2_with fail
              go_ret
              exact ⟨_, _, .two S0 .div S1, str_eq (by apply ByteArray.ext; simp [ByteArray.data_append]), belD qz _⟩
            · clear hnd
              obtain ⟨y0, y1, y2, -, -, -, yz⟩ := q9.three
              have hlk := sgn_at4 wr
              have n1 : ¬ (9223372036854775807 < 1 + s.length) := by omega
              have m1 : ¬ (9223372036854775807 < (1 : Int) + (s.length : Int)) := by omega
              have n2 : ¬ (9223372036854775807 < 1 + s.length + 1) := by omega
              have m2 : ¬ (9223372036854775807 < (1 : Int) + (s.length : Int) + 1) := by omega
              have n3 : ¬ (9223372036854775807 < 1 + s.length + 1 + 1) := by omega
              have m3 : ¬ (9223372036854775807 < (1 : Int) + (s.length : Int) + 1 + 1) := by omega
              have n4 : ¬ (9223372036854775807 < 1 + s.length + 1 + 1 + 1) := by omega
              have m4 : ¬ (9223372036854775807 < (1 : Int) + (s.length : Int) + 1 + 1 + 1) := by omega
              have n5 : ¬ (9223372036854775807 < 1 + s.length + 1 + 1 + 1 + t.length) := by omega
              have m5 : ¬ (9223372036854775807 < (1 : Int) + (s.length : Int) + 1 + 1 + 1 + (t.length : Int)) := by omega
              have n6 : ¬ (9223372036854775807 < 1 + s.length + 1 + 1 + 1 + t.length + 1) := by omega
              have m6 : ¬ (9223372036854775807 < (1 : Int) + (s.length : Int) + 1 + 1 + 1 + (t.length : Int) + 1) := by omega
              go_wp2_with fail
              go_quiet (fail)
              go_wp2_with fail
              go_ret
              exact ⟨_, _, .two S0 .less S1, str_eq (by apply ByteArray.ext; simp [ByteArray.data_append]), belD qz _⟩
            · clear hnd
              obtain ⟨y0, y1, y2, -, -, -, yz⟩ := q9.three
              have hlk := sgn_at5 wr
              have n1 : ¬ (9223372036854775807 < 1 + s.length) := by omega
              have m1 : ¬ (9223372036854775807 < (1 : Int) + (s.length : Int)) := by omega
              have n2 : ¬ (9223372036854775807 < 1 + s.length + 1) := by omega
              have m2 : ¬ (9223372036854775807 < (1 : Int) + (s.length : Int) + 1) := by omega
              have n3 : ¬ (9223372036854775807 < 1 + s.length + 1 + 1) := by omega
              have m3 : ¬ (9223372036854775807 < (1 : Int) + (s.length : Int) + 1 + 1) := by omega
              have n4 : ¬ (9223372036854775807 < 1 + s.length + 1 + 1 + 1) := by omega
              have m4 : ¬ (9223372036854775807 < (1 : Int) + (s.length : Int) + 1 + 1 + 1) := by omega
              have n5 : ¬ (9223372036854775807 < 1 + s.length + 1 + 1 + 1 + t.length) := by omega
              have m5 : ¬ (9223372036854775807 < (1 : Int) + (s.length : Int) + 1 + 1 + 1 + (t.length : Int)) := by omega
              have n6 : ¬ (9223372036854775807 < 1 + s.length + 1 + 1 + 1 + t.length + 1) := by omega
              have m6 : ¬ (9223372036854775807 < (1 : Int) + (s.length : Int) + 1 + 1 + 1 + (t.length : Int) + 1) := by omega
              go_wp2_with fail
              go_quiet (fail)
              go_wp2_with fail
              go_ret
              exact ⟨_, _, .two S0 .equal S1, str_eq (by apply ByteArray.ext; simp [ByteArray.data_append]), belD qz _⟩
            · clear hnd
              obtain ⟨y0, y1, y2, -, -, -, yz⟩ := q9.three
              have hlk := sgn_at6 wr
              have n1 : ¬ (9223372036854775807 < 1 + s.length) := by omega
              have m1 : ¬ (9223372036854775807 < (1 : Int) + (s.length : Int)) := by omega
              have n2 : ¬ (9223372036854775807 < 1 + s.length + 1) := by omega
              have m2 : ¬ (9223372036854775807 < (1 : Int) + (s.length : Int) + 1) := by omega
              have n3 : ¬ (9223372036854775807 < 1 + s.length + 1 + 3) := by omega
              have m3 : ¬ (9223372036854775807 < (1 : Int) + (s.length : Int) + 1 + 3) := by omega
              have n4 : ¬ (9223372036854775807 < 1 + s.length + 1 + 3 + 1) := by omega
              have m4 : ¬ (9223372036854775807 < (1 : Int) + (s.length : Int) + 1 + 3 + 1) := by omega
              have n5 : ¬ (9223372036854775807 < 1 + s.length + 1 + 3 + 1 + t.length) := by omega
              have m5 : ¬ (9223372036854775807 < (1 : Int) + (s.length : Int) + 1 + 3 + 1 + (t.length : Int)) := by omega
              have n6 : ¬ (9223372036854775807 < 1 + s.length + 1 + 3 + 1 + t.length + 1) := by omega
              have m6 : ¬ (9223372036854775807 < (1 : Int) + (s.length : Int) + 1 + 3 + 1 + (t.length : Int) + 1) := by omega
              go_wp2_with fail
              go_quiet (fail)
              go_wp2_with fail
              go_ret
              exact ⟨_, _, .two S0 .and S1, str_eq (by apply ByteArray.ext; simp [ByteArray.data_append, wAnd]), belD qz _⟩
            · clear hnd
              obtain ⟨y0, y1, y2, -, -, -, yz⟩ := q9.three
              have hlk := sgn_at7 wr
              have n1 : ¬ (9223372036854775807 < 1 + s.length) := by omega
              have m1 : ¬ (9223372036854775807 < (1 : Int) + (s.length : Int)) := by omega
              have n2 : ¬ (9223372036854775807 < 1 + s.length + 1) := by omega
              have m2 : ¬ (9223372036854775807 < (1 : Int) + (s.length : Int) + 1) := by omega
              have n3 : ¬ (9223372036854775807 < 1 + s.length + 1 + 2) := by omega
              have m3 : ¬ (9223372036854775807 < (1 : Int) + (s.length : Int) + 1 + 2) := by omega
              have n4 : ¬ (9223372036854775807 < 1 + s.length + 1 + 2 + 1) := by omega
              have m4 : ¬ (9223372036854775807 < (1 : Int) + (s.length : Int) + 1 + 2 + 1) := by omega
              have n5 : ¬ (9223372036854775807 < 1 + s.length + 1 + 2 + 1 + t.length) := by omega
              have m5 : ¬ (9223372036854775807 < (1 : Int) + (s.length : Int) + 1 + 2 + 1 + (t.length : Int)) := by omega
              have n6 : ¬ (9223372036854775807 < 1 + s.length + 1 + 2 + 1 + t.length + 1) := by omega
              have m6 : ¬ (9223372036854775807 < (1 : Int) + (s.length : Int) + 1 + 2 + 1 + (t.length : Int) + 1) := by omega
              go_wp2_with fail
              go_quiet (fail)
              go_wp2_with fail
              go_ret
              exact ⟨_, _, .two S0 .or S1, str_eq (by apply ByteArray.ext; simp [ByteArray.data_append, wOr]), belD qz _⟩
end Go.Proofs.YtoioegkpmncicaaGreatDoor
namespace Go.Proofs.YtoioegkpmncicaaGreatDoor

theorem lx_inD {k l : List (Nat × List UInt8)} {s t : List UInt8} (h : LxD k s) (h2 : LxD l t) : LxD (k ++ l) (s ++ 32 :: t) := fun line cnt b hb hc => by
  rw [List.length_append] at hc
  rw [List.append_assoc, h line cnt (32 :: t ++ b) (fun d r e => by cases e; decide) (by omega), List.cons_append, toks_blank, h2 line _ b hb (by omega), app_app, List.length_append, Nat.add_assoc]
  unfold onL; rw [List.map_append]
theorem lx_op {k l : List (Nat × List UInt8)} {s t w : List UInt8} {q n o : Nat} (h : LxD k s) (hw : OpW w q n o) (h2 : LxD l t) : LxD (k ++ (q, w) :: l) (s ++ 32 :: (w ++ 32 :: t)) := lx_inD h (lx_inD hw.lx h2)
theorem ep_of {s : List UInt8} {e : Xp} {k : List (Nat × List UInt8)} (h : LxD k s) (hk : k.length ≤ 5000) (hs : s.length ≤ 20000) (hr : Re e (onL 1 k)) (hv : validF e = true) : EP s e 0 := by
  have ht : tokP s = (onL 1 k, 0, 0) := by unfold tokP; rw [if_neg (by omega), lx_all h hk 1]
  refine .ok (by rw [ht]) ?_ hv
  rw [ht]
  have := hr [] (fun n => rfl)
  rw [List.append_nil] at this; exact this
/-- a small expression -/
def smallE (e : Xp) : Prop := okE e = true ∧ cntE e ≤ 8 ∧ depE e ≤ 8
theorem valid_of {e : Xp} (h : okE e = true) (hc : cntE e ≤ 200) (hd : depE e ≤ 30) : validF e = true := by unfold validF; rw [h, decide_eq_true hc, decide_eq_true hd]; rfl
theorem ok_two {o : Int} {a b : Xp} (ha : okE a = true) (hb : okE b = true) (h : nodeB o 0 2 = true) : okE (nodeE o [a, b]) = true := by
  unfold nodeE okE; simp only [List.length_cons, List.length_nil, okL, ha, hb]; rw [h]; rfl
theorem ok_not {a : Xp} (ha : okE a = true) : okE (nodeE 15 [a]) = true := by
  unfold nodeE okE; simp only [List.length_cons, List.length_nil, okL, ha]; rfl
theorem ok_if {a b c : Xp} (ha : okE a = true) (hb : okE b = true) (hc : okE c = true) : okE (nodeE 10 [a, b, c]) = true := by
  unfold nodeE okE; simp only [List.length_cons, List.length_nil, okL, ha, hb, hc]; rfl
section
variable {a b c d : Xp} {w x y z : List UInt8} {ka kb kc kd : List (Nat × List UInt8)} (ha : Sw a w ka) (hb : Sw b x kb) (hc : Sw c y kc) (hd : Sw d z kd) (sa : smallE a) (sb : smallE b) (sc : smallE c) (sd : smallE d)
include ha hb hc hd sa sb sc sd
theorem src_p : EP (w ++ 32 :: ([43] ++ 32 :: (x ++ 32 :: ([42] ++ 32 :: (y ++ 32 :: ([60] ++ 32 :: (z ++ 32 :: ([45] ++ 32 :: (w ++ 32 :: ([47] ++ 32 :: x)))))))))) (nodeE 11 [nodeE 4 [a, nodeE 6 [b, c]], nodeE 5 [d, nodeE 7 [a, b]]]) 0 := by
  have ca := sw_count ha
  have cb := sw_count hb
  have cc := sw_count hc
  have cd := sw_count hd
  obtain ⟨oa, na, da⟩ := sa
  obtain ⟨ob, nb, db⟩ := sb
  obtain ⟨oc, nc, dc⟩ := sc
  obtain ⟨od, nd, dd⟩ := sd
  refine ep_of (lx_op (sw_lx ha) .add (lx_op (sw_lx hb) .mul (lx_op (sw_lx hc) .less (lx_op (sw_lx hd) .sub (lx_op (sw_lx ha) .div (sw_lx hb)))))) ?_ ?_ ?_ ?_
  · simp only [List.length_append, List.length_cons]; omega
  · simp only [List.length_append, List.length_cons, List.length_nil]; omega
  · have := prec_p (sw_sh 1 ha) (sw_sh 1 hb) (sw_sh 1 hc) (sw_sh 1 hd) (OpW.add.tok 1) (OpW.mul.tok 1) (OpW.less.tok 1) (OpW.sub.tok 1) (OpW.div.tok 1)
    simpa only [onL_app, onL_cons, List.append_assoc, List.append_nil, List.cons_append] using this
  · refine valid_of (ok_two (ok_two oa (ok_two ob oc rfl) rfl) (ok_two od (ok_two oa ob rfl) rfl) rfl) ?_ ?_
    · simp only [nodeE, cntE, cntL]; omega
    · simp only [nodeE, depE, depL]; omega
theorem src_q : EP (wNot ++ 32 :: (w ++ 32 :: ([61] ++ 32 :: (x ++ 32 :: (wAnd ++ 32 :: (y ++ 32 :: (wOr ++ 32 :: (z ++ 32 :: (wAnd ++ 32 :: (wNot ++ 32 :: (wNot ++ 32 :: w))))))))))) (nodeE 14 [nodeE 13 [nodeE 15 [nodeE 12 [a, b]], c], nodeE 13 [d, nodeE 15 [nodeE 15 [a]]]]) 0 := by
  have ca := sw_count ha
  have cb := sw_count hb
  have cc := sw_count hc
  have cd := sw_count hd
  obtain ⟨oa, na, da⟩ := sa
  obtain ⟨ob, nb, db⟩ := sb
  obtain ⟨oc, nc, dc⟩ := sc
  obtain ⟨od, nd, dd⟩ := sd
  have hn : LxD [(1, wNot)] wNot := lx_word (by decide) (by decide)
  refine ep_of (lx_inD hn (lx_op (sw_lx ha) .equal (lx_op (sw_lx hb) .and (lx_op (sw_lx hc) .or (lx_op (sw_lx hd) .and (lx_inD hn (lx_inD hn (sw_lx ha)))))))) ?_ ?_ ?_ ?_
  · simp only [List.length_append, List.length_cons, List.length_nil]; omega
  · simp only [List.length_append, List.length_cons, List.length_nil, wNot, wAnd, wOr]; omega
  · have := prec_q (sw_sh 1 ha) (sw_sh 1 hb) (sw_sh 1 hc) (sw_sh 1 hd) (p := ⟨1, 1, wNot⟩) (u := ⟨1, 1, wNot⟩) (v := ⟨1, 1, wNot⟩) rfl (OpW.equal.tok 1) (OpW.and.tok 1) (OpW.or.tok 1) (OpW.and.tok 1) rfl rfl
    simpa only [onL_app, onL_cons, List.append_assoc, List.append_nil, List.cons_append, List.nil_append] using this
  · refine valid_of (ok_two (ok_two (ok_not (ok_two oa ob rfl)) oc rfl) (ok_two od (ok_not (ok_not oa)) rfl) rfl) ?_ ?_
    · simp only [nodeE, cntE, cntL]; omega
    · simp only [nodeE, depE, depL]; omega
theorem src_r : EP (w ++ 32 :: ([45] ++ 32 :: (x ++ 32 :: ([43] ++ 32 :: (y ++ 32 :: ([45] ++ 32 :: z)))))) (nodeE 5 [nodeE 4 [nodeE 5 [a, b], c], d]) 0 := by
  have ca := sw_count ha
  have cb := sw_count hb
  have cc := sw_count hc
  have cd := sw_count hd
  obtain ⟨oa, na, da⟩ := sa
  obtain ⟨ob, nb, db⟩ := sb
  obtain ⟨oc, nc, dc⟩ := sc
  obtain ⟨od, nd, dd⟩ := sd
  refine ep_of (lx_op (sw_lx ha) .sub (lx_op (sw_lx hb) .add (lx_op (sw_lx hc) .sub (sw_lx hd)))) ?_ ?_ ?_ ?_
  · simp only [List.length_append, List.length_cons]; omega
  · simp only [List.length_append, List.length_cons, List.length_nil]; omega
  · have := prec_r (sw_sh 1 ha) (sw_sh 1 hb) (sw_sh 1 hc) (sw_sh 1 hd) (OpW.sub.tok 1) (OpW.add.tok 1) (OpW.sub.tok 1)
    simpa only [onL_app, onL_cons, List.append_assoc, List.append_nil, List.cons_append] using this
  · refine valid_of (ok_two (ok_two (ok_two oa ob rfl) oc rfl) od rfl) ?_ ?_
    · simp only [nodeE, cntE, cntL]; omega
    · simp only [nodeE, depE, depL]; omega
theorem src_s : EP (w ++ 32 :: ([47] ++ 32 :: (x ++ 32 :: ([42] ++ 32 :: (y ++ 32 :: (wOr ++ 32 :: (z ++ 32 :: (wOr ++ 32 :: w)))))))) (nodeE 14 [nodeE 14 [nodeE 6 [nodeE 7 [a, b], c], d], a]) 0 := by
  have ca := sw_count ha
  have cb := sw_count hb
  have cc := sw_count hc
  have cd := sw_count hd
  obtain ⟨oa, na, da⟩ := sa
  obtain ⟨ob, nb, db⟩ := sb
  obtain ⟨oc, nc, dc⟩ := sc
  obtain ⟨od, nd, dd⟩ := sd
  refine ep_of (lx_op (sw_lx ha) .div (lx_op (sw_lx hb) .mul (lx_op (sw_lx hc) .or (lx_op (sw_lx hd) .or (sw_lx ha))))) ?_ ?_ ?_ ?_
  · simp only [List.length_append, List.length_cons]; omega
  · simp only [List.length_append, List.length_cons, List.length_nil, wOr]; omega
  · have := prec_s (sw_sh 1 ha) (sw_sh 1 hb) (sw_sh 1 hc) (sw_sh 1 hd) (OpW.div.tok 1) (OpW.mul.tok 1) (OpW.or.tok 1) (OpW.or.tok 1)
    simpa only [onL_app, onL_cons, List.append_assoc, List.append_nil, List.cons_append] using this
  · refine valid_of (ok_two (ok_two (ok_two (ok_two oa ob rfl) oc rfl) od rfl) oa rfl) ?_ ?_
    · simp only [nodeE, cntE, cntL]; omega
    · simp only [nodeE, depE, depL]; omega
theorem src_t : EP (wIf ++ 32 :: (w ++ 32 :: (wThen ++ 32 :: (x ++ 32 :: (wElse ++ 32 :: (wIf ++ 32 :: (y ++ 32 :: (wThen ++ 32 :: (z ++ 32 :: (wElse ++ 32 :: (w ++ 32 :: ([43] ++ 32 :: x)))))))))))) (nodeE 10 [a, b, nodeE 10 [c, d, nodeE 4 [a, b]]]) 0 := by
  have ca := sw_count ha
  have cb := sw_count hb
  have cc := sw_count hc
  have cd := sw_count hd
  obtain ⟨oa, na, da⟩ := sa
  obtain ⟨ob, nb, db⟩ := sb
  obtain ⟨oc, nc, dc⟩ := sc
  obtain ⟨od, nd, dd⟩ := sd
  have hI : LxD [(1, wIf)] wIf := lx_word (by decide) (by decide)
  have hT : LxD [(1, wThen)] wThen := lx_word (by decide) (by decide)
  have hE : LxD [(1, wElse)] wElse := lx_word (by decide) (by decide)
  refine ep_of (lx_inD hI (lx_inD (sw_lx ha) (lx_inD hT (lx_inD (sw_lx hb) (lx_inD hE (lx_inD hI (lx_inD (sw_lx hc) (lx_inD hT (lx_inD (sw_lx hd) (lx_inD hE (lx_op (sw_lx ha) .add (sw_lx hb)))))))))))) ?_ ?_ ?_ ?_
  · simp only [List.length_append, List.length_cons, List.length_nil]; omega
  · simp only [List.length_append, List.length_cons, List.length_nil, wIf, wThen, wElse]; omega
  · have := prec_t (sw_sh 1 ha) (sw_sh 1 hb) (sw_sh 1 hc) (sw_sh 1 hd) (x := ⟨1, 1, wIf⟩) (y := ⟨1, 1, wThen⟩) (z := ⟨1, 1, wElse⟩) (x2 := ⟨1, 1, wIf⟩) (y2 := ⟨1, 1, wThen⟩) (z2 := ⟨1, 1, wElse⟩) rfl rfl rfl rfl rfl rfl (OpW.add.tok 1)
    simpa only [onL_app, onL_cons, List.append_assoc, List.append_nil, List.cons_append, List.nil_append] using this
  · refine valid_of (ok_if oa ob (ok_if oc od (ok_two oa ob rfl))) ?_ ?_
    · simp only [nodeE, cntE, cntL]; omega
    · simp only [nodeE, depE, depL]; omega
end
/-- P8.4: the source in brackets -/
theorem src_show {e : Xp} {s : List UInt8} {k : List (Nat × List UInt8)} (h : Sw e s k) (hv : validF e = true) : EP s e 0 := by
  have hc : cntE e ≤ 200 := by unfold validF at hv; simp only [Bool.and_eq_true, decide_eq_true_eq] at hv; exact hv.1.2
  have := sw_count h
  exact ep_of (sw_lx h) (by omega) (by omega) (re_sh (sw_sh 1 h)) hv
end Go.Proofs.YtoioegkpmncicaaGreatDoor
