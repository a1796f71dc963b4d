/-
  An argument that is a slice of tokens: what it reads.
-/
import Derived.Test.YthnlenbfknbmcaaGreatDoorQd
import Derived.Deep.Slices
import Derived.Deep.Strs
import Derived.ChangeSame
import Derived.ChangeSlices
import Derived.Test.YthnlenbfknbmcaaGreatDoorQi
import Derived.ChangeArms
namespace Go.Proofs.YthnlenbfknbmcaaGreatDoor
open Go.ChangeShapes Go.WideShapes Go.RowKit Go.Deep
set_option maxRecDepth 100000

theorem ladd_add (a : Addr) (m n : Nat) : (a.add m).add n = a.add (m + n) := by
  induction n with
  | zero => unfold Addr.add; split <;> simp_all
  | succ n ih => rw [ladd_succ, ih, ← Nat.add_assoc, ladd_succ]
theorem lblock_lt {w : World} {a : Addr} {v : Value} (h : w.cell? a = some v) : a.block < w.heap.size := by
  unfold World.cell? at h
  rcases Nat.lt_or_ge a.block w.heap.size with hl | hg
  · exact hl
  · rw [Array.getElem?_eq_none hg] at h; cases h
theorem toks_of_trod {H : Type} {enc : TypeId × Value → H} {W : World} {base : Nat} {held : Bool} {p : Option Addr} {n c : Nat} {d : DataW H} {ps : List MemPlace}
    (h : DataW.Trod enc Tryz.prog W base (fun _ => true) held 56 (.slice p n c) d ps) : ∃ l, Toks W (.slice p n c) l := by
  obtain ⟨fuel, hf⟩ := h
  have hce : Tryz.prog.cellsOf 87 = 3 := by kernel_rfl
  have hci : Tryz.prog.cellsOf 3 = 1 := by kernel_rfl
  have hcs' : Tryz.prog.cellsOf 9 = 1 := by kernel_rfl
  rcases open_slice Tryz.underlying56 hf with ⟨hcs, _⟩ | ⟨a, len, cap, m, k, D, Pl, hcs, hbl, hlc, hcm, hm, _, hall⟩
  · simp [Value.cells] at hcs
    obtain ⟨rfl, rfl, rfl⟩ := hcs
    exact ⟨[], ⟨_, _, rfl⟩, fun _ _ _ _ i hi => by simp at hi, fun s hs => (by cases hs), by simp⟩
  · simp [Value.cells] at hcs
    obtain ⟨rfl, rfl, rfl⟩ := hcs
    simp only [if_true] at hm
    subst hm
    have hint : ∀ i, i < n → ∃ x : RT, W.cell? (a.add (i * 3)) = some (.int .i64 x.k) ∧ W.cell? (a.add (i * 3 + 1)) = some (.int .i64 x.n) ∧ W.cell? (a.add (i * 3 + 2)) = some (.string ⟨x.t.toArray⟩) ∧
        (I64 x.k ∧ I64 x.n ∧ x.t.length ≤ 9223372036854775807) := by
      intro i hi
      obtain ⟨cs', h1, h2⟩ := hall i (by omega)
      rw [hce] at h1
      obtain ⟨_, hlen, hcell⟩ := World.cells?_some h1
      obtain ⟨y0, y1, y2, k1, _, _, g0, g1, g2⟩ := trod_struct3 Tryz.underlying87 h2
      match cs', hlen with
      | [v0, v1, v2], _ =>
        simp only [hci, hcs'] at g0 g1 g2
        obtain ⟨x0, e0, _, w0⟩ := DataW.trod_int Tryz.underlying3 g0
        obtain ⟨x1, e1, _, w1⟩ := DataW.trod_int Tryz.underlying3 g1
        obtain ⟨x2, e2, _, w2⟩ := DataW.trod_string Tryz.underlying9 g2
        simp at e0 e1 e2
        subst e0 e1 e2
        simp only [Lit.wf, Bool.and_eq_true, decide_eq_true_eq] at w0 w1
        have c0 := hcell 0 (by omega)
        have c1 := hcell 1 (by omega)
        have c2 := hcell 2 (by omega)
        rw [ladd_add] at c0 c1 c2
        have hx2 : (⟨x2.data.toList.toArray⟩ : ByteArray) = x2 := congrArg ByteArray.mk (Array.toArray_toList (xs := x2.data))
        refine ⟨⟨x0, x1, x2.data.toList⟩, by simpa using c0, by simpa using c1, ?_, w0, w1, ?_⟩
        · simp only [hx2]; simpa using c2
        · have : x2.data.toList.length = x2.size := Array.length_toList
          unfold maxLen at w2
          show x2.data.toList.length ≤ _; omega
    haveI : Inhabited RT := ⟨⟨0, 0, []⟩⟩
    obtain ⟨X, hX⟩ := choose_lt hint
    refine ⟨(List.range n).map X, ⟨some a, m, by simp⟩, fun ad n' cap' e i hi => ?_, fun s hs => ?_, by unfold maxLen at hcm; simp; omega⟩
    · cases e
      have hi' : i < n := by simpa using hi
      obtain ⟨g0, g1, g2, _⟩ := hX i hi'
      have hbk := lblock_lt g0
      rw [lblk_add] at hbk
      refine ⟨a, rfl, hbk, ?_, ?_, ?_⟩
      · rw [g0]; simp
      · rw [g1]; simp
      · rw [g2]; simp
    · simp only [List.mem_map, List.mem_range] at hs
      obtain ⟨i, hi, rfl⟩ := hs
      exact (hX i hi).2.2.2
end Go.Proofs.YthnlenbfknbmcaaGreatDoor
namespace Go.Proofs.YthnlenbfknbmcaaGreatDoor
open Go.ChangeShapes Go.WideShapes Go.RowKit Go.Deep
set_option maxRecDepth 100000

theorem tree_trod {H : Type} {enc : TypeId × Value → H} {W : World} {base : Nat} {spare : Nat → Bool} {held : Bool} (fuel : Nat) : ∀ {cs : List Value} {x : DataW H × List MemPlace}, DataW.trod enc Tryz.prog W base spare held fuel 24 cs = some x →
    ∃ v0 v1 v2 e, cs = [v0, v1, v2] ∧ Tree (fun _ => False) W e (.agg #[v0, v1, v2]) := by
  induction fuel using Nat.strongRecOn with
  | ind fuel ih =>
    intro cs x h
    have hce : Tryz.prog.cellsOf 24 = 3 := by kernel_rfl
    have hci : Tryz.prog.cellsOf 3 = 1 := by kernel_rfl
    have hcs' : Tryz.prog.cellsOf 22 = 1 := by kernel_rfl
    obtain ⟨xs, n, hn, _, hl, hlen, hf⟩ := DataW.trod_struct Tryz.underlying24 h
    rw [hce] at hl
    match xs, hlen with
    | [y0, y1, y2], _ =>
      match cs, hl with
      | [v0, v1, v2], _ =>
        have g0' : DataW.trod enc Tryz.prog W base spare held n 3 [v0] = some y0 := by
          have g : DataW.trod enc Tryz.prog W base spare held n 3 (([v0, v1, v2].drop 0).take (Tryz.prog.cellsOf 3)) = some y0 := hf 0 _ rfl
          rw [hci] at g
          exact g
        have g1' : DataW.trod enc Tryz.prog W base spare held n 3 [v1] = some y1 := by
          have g : DataW.trod enc Tryz.prog W base spare held n 3 (([v0, v1, v2].drop 1).take (Tryz.prog.cellsOf 3)) = some y1 := hf 1 _ rfl
          rw [hci] at g
          exact g
        have g2' : DataW.trod enc Tryz.prog W base spare held n 22 [v2] = some y2 := by
          have g : DataW.trod enc Tryz.prog W base spare held n 22 (([v0, v1, v2].drop 2).take (Tryz.prog.cellsOf 22)) = some y2 := hf 2 _ rfl
          rw [hcs'] at g
          exact g
        obtain ⟨x0, e0, _, _⟩ := DataW.trod_int Tryz.underlying3 g0'
        obtain ⟨x1, e1, _, _⟩ := DataW.trod_int Tryz.underlying3 g1'
        simp at e0 e1
        subst e0 e1
        rcases DataW.trod_slice Tryz.underlying22 g2' with ⟨e2, _⟩ | ⟨a, len, cap, elems, rest, m, hm, e2, _, _, hlc, hcm, hel, hev, _⟩
        · simp at e2
          subst e2
          exact ⟨_, _, _, leafE x0 x1, rfl, tree_leaf _ _ _ _ _ _⟩
        · simp at e2
          subst e2
          have each : ∀ i, i < len → ∃ q : Xp × Value × Value × Value, W.cell? (a.add (i * 3)) = some q.2.1 ∧ W.cell? (a.add (i * 3 + 1)) = some q.2.2.1 ∧ W.cell? (a.add (i * 3 + 2)) = some q.2.2.2 ∧ Tree (fun _ => False) W q.1 (.agg #[q.2.1, q.2.2.1, q.2.2.2]) := by
            intro i hi
            have h1 := hev i hi
            rw [hce, List.getElem?_eq_getElem (by omega)] at h1
            obtain ⟨cs', hc', h2⟩ := Option.bind_eq_some_iff.1 h1
            obtain ⟨w0, w1, w2, e, rfl, ht⟩ := ih m (by omega) h2
            obtain ⟨_, _, hcell⟩ := World.cells?_some hc'
            have c0 := hcell 0 (by simp)
            have c1 := hcell 1 (by simp)
            have c2 := hcell 2 (by simp)
            rw [ladd_add] at c0 c1 c2
            exact ⟨(e, w0, w1, w2), by simpa using c0, by simpa using c1, by simpa using c2, ht⟩
          haveI : Inhabited (Xp × Value × Value × Value) := ⟨(leafE 0 0, .nilIface, .nilIface, .nilIface)⟩
          obtain ⟨X, hX⟩ := choose_lt each
          have hll : ((List.range len).map fun i => (X i).1).length = len := by simp
          refine ⟨_, _, _, .mk x0 x1 ((List.range len).map fun i => (X i).1), rfl, tree_mk.2 ⟨some a, cap, by rw [hll], by rw [hll]; unfold maxLen at hcm; omega, ?_⟩⟩
          by_cases hz : len = 0
          · subst hz; simp [Trees]
          · have hb : a.block < W.heap.size := by
              have := lblock_lt (hX 0 (by omega)).1
              rwa [lblk_add] at this
            refine trees_of hb (fun hf => hf) fun k hk => ?_
            have hk' : k < len := by rw [hll] at hk; exact hk
            obtain ⟨g0, g1, g2, g3⟩ := hX k hk'
            rw [Nat.zero_add]
            exact ⟨_, _, _, g0, g1, g2, by simpa using g3⟩
/-- the value of an argument of type api.Expr, as the call is handed it -/
theorem tree_of_trod {H : Type} {enc : TypeId × Value → H} {W : World} {base b0 : Nat} {r : Reach} {spare : Nat → Bool} {held : Bool} {v : Value} {d : DataW H} {ps : List MemPlace}
    (hv : Value.okWide Tryz.prog W r b0 24 v) (h : DataW.Trod enc Tryz.prog W base spare held 24 v d ps) : ∃ e, Tree (fun _ => False) W e v := by
  obtain ⟨cs, rfl, _⟩ := okWide_struct Tryz.underlying24 hv
  obtain ⟨fuel, hf⟩ := h
  obtain ⟨u0, u1, u2, e, he, ht⟩ := tree_trod fuel hf
  have hcs : cs = #[u0, u1, u2] := by
    have : cs.toList = [u0, u1, u2] := he
    cases cs; simpa using this
  subst hcs
  exact ⟨e, ht⟩
end Go.Proofs.YthnlenbfknbmcaaGreatDoor
namespace Go.Proofs.YthnlenbfknbmcaaGreatDoor
open Go.ChangeShapes Go.WideShapes Go.RowKit Go.Deep
set_option maxRecDepth 100000

theorem two_trod {H : Type} {enc : TypeId × Value → H} {W : World} {base : Nat} {spare : Nat → Bool} {held : Bool} {fuel : Nat} {t : TypeId} {fs : Array Field} {cs : List Value} {x : DataW H × List MemPlace} (ht : Tryz.prog.underlying t = some (.struct fs)) (hc : Tryz.prog.cellsOf t = 2) (h0 : fs[0]?.map (fun f => (f.type, f.offset)) = some (3, 0)) (h1 : fs[1]?.map (fun f => (f.type, f.offset)) = some (3, 1))
    (h : DataW.trod enc Tryz.prog W base spare held fuel t cs = some x) : ∃ a b : Int, cs = [.int .i64 a, .int .i64 b] := by
  have hci : Tryz.prog.cellsOf 3 = 1 := by kernel_rfl
  obtain ⟨xs, n, hn, _, hl, hlen, hf⟩ := DataW.trod_struct ht h
  rw [hc] at hl
  obtain ⟨f0, g0, e0⟩ := Option.map_eq_some_iff.1 h0
  obtain ⟨f1, g1, e1⟩ := Option.map_eq_some_iff.1 h1
  have k0 := hf 0 f0 g0
  have k1 := hf 1 f1 g1
  have s0 : f0.type = 3 := congrArg Prod.fst e0
  have s1 : f0.offset = 0 := congrArg Prod.snd e0
  have s2 : f1.type = 3 := congrArg Prod.fst e1
  have s3 : f1.offset = 1 := congrArg Prod.snd e1
  rw [s0, s1, hci] at k0
  rw [s2, s3, hci] at k1
  match cs, hl with
  | [v0, v1], _ =>
    have hsz : 1 < fs.size := by
      rcases Nat.lt_or_ge 1 fs.size with h | h
      · exact h
      · rw [Array.getElem?_eq_none h] at g1; cases g1
    have m0 : xs[0]? = some (xs[0]'(by omega)) := List.getElem?_eq_getElem (by omega)
    have m1 : xs[1]? = some (xs[1]'(by omega)) := List.getElem?_eq_getElem (by omega)
    rw [m0] at k0
    rw [m1] at k1
    obtain ⟨a, ea, _, _⟩ := DataW.trod_int Tryz.underlying3 k0
    obtain ⟨b, eb, _, _⟩ := DataW.trod_int Tryz.underlying3 k1
    simp at ea eb
    subst ea eb
    exact ⟨a, b, rfl⟩
/-- what a rate reads -/
def RateAt (w : World) (v : Value) (a0 a1 a2 a3 a4 a5 a6 a7 kn kd : Int) (we pe : Xp) (ad1 : Option Addr) (cap1 : Nat) (ad2 : Option Addr) (cap2 : Nat) : Prop :=
  v = .agg #[.int .i64 a0, .int .i64 a1, .int .i64 a2, .int .i64 a3, .int .i64 a4, .int .i64 a5, .int .i64 a6, .int .i64 a7, .int .i64 kn, .int .i64 kd, .int .i64 we.o, .int .i64 we.n, .slice ad1 we.ks.length cap1, .int .i64 pe.o, .int .i64 pe.n, .slice ad2 pe.ks.length cap2] ∧
  Tree (fun _ => False) w we (.agg #[.int .i64 we.o, .int .i64 we.n, .slice ad1 we.ks.length cap1]) ∧ Tree (fun _ => False) w pe (.agg #[.int .i64 pe.o, .int .i64 pe.n, .slice ad2 pe.ks.length cap2])
theorem rate_of_trod {H : Type} {enc : TypeId × Value → H} {W : World} {base b0 : Nat} {r : Reach} {spare : Nat → Bool} {held : Bool} {v : Value} {d : DataW H} {ps : List MemPlace}
    (hv : Value.okWide Tryz.prog W r b0 52 v) (h : DataW.Trod enc Tryz.prog W base spare held 52 v d ps) : ∃ a0 a1 a2 a3 a4 a5 a6 a7 kn kd we pe ad1 cap1 ad2 cap2, RateAt W v a0 a1 a2 a3 a4 a5 a6 a7 kn kd we pe ad1 cap1 ad2 cap2 := by
  have hcr : Tryz.prog.cellsOf 52 = 16 := by kernel_rfl
  have hce : Tryz.prog.cellsOf 24 = 3 := by kernel_rfl
  have hci : Tryz.prog.cellsOf 3 = 1 := by kernel_rfl
  have hcq : Tryz.prog.cellsOf 46 = 2 := by kernel_rfl
  have hcp : Tryz.prog.cellsOf 50 = 2 := by kernel_rfl
  obtain ⟨cs, rfl, _⟩ := okWide_struct Tryz.underlying52 hv
  obtain ⟨fuel, hf0⟩ := h
  obtain ⟨xs, n, hn, _, hl, hlen, hf⟩ := DataW.trod_struct Tryz.underlying52 hf0
  rw [hcr] at hl
  have e10 : xs.length = 10 := hlen
  have hx : ∀ i (h : i < 10), xs[i]? = some (xs[i]'(by omega)) := fun i h => List.getElem?_eq_getElem (by omega)
  obtain ⟨cs⟩ := cs
  have hl2 : cs.length = 16 := hl
  match cs, hl2 with
  | [v0, v1, v2, v3, v4, v5, v6, v7, v8, v9, v10, v11, v12, v13, v14, v15], _ =>
    have one : ∀ (i : Nat) (hi : i < 10) (u : Value), DataW.trod enc Tryz.prog W base spare held n 3 [u] = xs[i]? → ∃ a : Int, u = .int .i64 a := by
      intro i hi u hu
      rw [hx i hi] at hu
      obtain ⟨a, ea, _, _⟩ := DataW.trod_int Tryz.underlying3 hu
      exact ⟨a, by simpa using ea⟩
    obtain ⟨a0, rfl⟩ := one 0 (by decide) v0 (hf 0 _ rfl)
    obtain ⟨a1, rfl⟩ := one 1 (by decide) v1 (hf 1 _ rfl)
    obtain ⟨a2, rfl⟩ := one 2 (by decide) v2 (hf 2 _ rfl)
    obtain ⟨a5, rfl⟩ := one 4 (by decide) v5 (hf 4 _ rfl)
    obtain ⟨a6, rfl⟩ := one 5 (by decide) v6 (hf 5 _ rfl)
    obtain ⟨a7, rfl⟩ := one 6 (by decide) v7 (hf 6 _ rfl)
    have hs : DataW.trod enc Tryz.prog W base spare held n 50 [v3, v4] = some (xs[3]'(by omega)) := (hf 3 _ rfl).trans (hx 3 (by decide))
    have hk : DataW.trod enc Tryz.prog W base spare held n 46 [v8, v9] = some (xs[7]'(by omega)) := (hf 7 _ rfl).trans (hx 7 (by decide))
    have hw : DataW.trod enc Tryz.prog W base spare held n 24 [v10, v11, v12] = some (xs[8]'(by omega)) := (hf 8 _ rfl).trans (hx 8 (by decide))
    have hp : DataW.trod enc Tryz.prog W base spare held n 24 [v13, v14, v15] = some (xs[9]'(by omega)) := (hf 9 _ rfl).trans (hx 9 (by decide))
    obtain ⟨a3, a4, e1⟩ := two_trod Tryz.underlying50 hcp rfl rfl hs
    obtain ⟨kn, kd, e2⟩ := two_trod Tryz.underlying46 hcq rfl rfl hk
    obtain ⟨u0, u1, u2, we, e3, tw⟩ := tree_trod n hw
    obtain ⟨z0, z1, z2, pe, e4, tp⟩ := tree_trod n hp
    simp at e1 e2 e3 e4
    obtain ⟨rfl, rfl⟩ := e1
    obtain ⟨rfl, rfl⟩ := e2
    obtain ⟨rfl, rfl, rfl⟩ := e3
    obtain ⟨rfl, rfl, rfl⟩ := e4
    obtain ⟨ad1, cap1, hv1, -, -⟩ := tw.shape
    obtain ⟨ad2, cap2, hv2, -, -⟩ := tp.shape
    simp at hv1 hv2
    obtain ⟨rfl, rfl, rfl⟩ := hv1
    obtain ⟨rfl, rfl, rfl⟩ := hv2
    exact ⟨a0, a1, a2, a3, a4, a5, a6, a7, kn, kd, we, pe, ad1, cap1, ad2, cap2, rfl, tw, tp⟩
end Go.Proofs.YthnlenbfknbmcaaGreatDoor
