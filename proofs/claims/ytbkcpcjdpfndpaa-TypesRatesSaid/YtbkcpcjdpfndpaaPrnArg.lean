/-
  An argument that is a rate.
-/
import Derived.Test.YtbkcpcjdpfndpaaParArg
namespace Go.Proofs.Ytbkcpcjdpfndpaa
open Go.ChangeShapes Go.WideShapes Go.RowKit Go.Deep
set_option maxRecDepth 100000

theorem two_trod {H : Type} {enc : TypeId × Value → H} {W : World} {base : Nat} {spare : Nat → Bool} {held : Bool} {fuel : Nat} {t : TypeId} {fs : Array Field} {cs : List Value} {x : DataW H × List MemPlace} (ht : Try.prog.underlying t = some (.struct fs)) (hc : Try.prog.cellsOf t = 2) (h0 : fs[0]?.map (fun f => (f.type, f.offset)) = some (3, 0)) (h1 : fs[1]?.map (fun f => (f.type, f.offset)) = some (3, 1))
    (h : DataW.trod enc Try.prog W base spare held fuel t cs = some x) : ∃ a b : Int, cs = [.int .i64 a, .int .i64 b] := by
  have hci : Try.prog.cellsOf 3 = 1 := by kernel_rfl
  obtain ⟨xs, n, hn, _, hl, hlen, hf⟩ := DataW.trod_struct ht h
  rw [hc] at hl
  obtain ⟨f0, g0, e0⟩ := Option.map_eq_some_iff.1 h0
  obtain ⟨f1, g1, e1⟩ := Option.map_eq_some_iff.1 h1
  have k0 := hf 0 f0 g0
  have k1 := hf 1 f1 g1
  have s0 : f0.type = 3 := congrArg Prod.fst e0
  have s1 : f0.offset = 0 := congrArg Prod.snd e0
  have s2 : f1.type = 3 := congrArg Prod.fst e1
  have s3 : f1.offset = 1 := congrArg Prod.snd e1
  rw [s0, s1, hci] at k0
  rw [s2, s3, hci] at k1
  match cs, hl with
  | [v0, v1], _ =>
    have hsz : 1 < fs.size := by
      rcases Nat.lt_or_ge 1 fs.size with h | h
      · exact h
      · rw [Array.getElem?_eq_none h] at g1; cases g1
    have m0 : xs[0]? = some (xs[0]'(by omega)) := List.getElem?_eq_getElem (by omega)
    have m1 : xs[1]? = some (xs[1]'(by omega)) := List.getElem?_eq_getElem (by omega)
    rw [m0] at k0
    rw [m1] at k1
    obtain ⟨a, ea, _, _⟩ := DataW.trod_int Try.underlying3 k0
    obtain ⟨b, eb, _, _⟩ := DataW.trod_int Try.underlying3 k1
    simp at ea eb
    subst ea eb
    exact ⟨a, b, rfl⟩
/-- what a rate reads -/
def RateAt (w : World) (v : Value) (a0 a1 a2 a3 a4 a5 a6 a7 kn kd : Int) (we pe : Xp) (ad1 : Option Addr) (cap1 : Nat) (ad2 : Option Addr) (cap2 : Nat) : Prop :=
  v = .agg #[.int .i64 a0, .int .i64 a1, .int .i64 a2, .int .i64 a3, .int .i64 a4, .int .i64 a5, .int .i64 a6, .int .i64 a7, .int .i64 kn, .int .i64 kd, .int .i64 we.o, .int .i64 we.n, .slice ad1 we.ks.length cap1, .int .i64 pe.o, .int .i64 pe.n, .slice ad2 pe.ks.length cap2] ∧
  Tree (fun _ => False) w we (.agg #[.int .i64 we.o, .int .i64 we.n, .slice ad1 we.ks.length cap1]) ∧ Tree (fun _ => False) w pe (.agg #[.int .i64 pe.o, .int .i64 pe.n, .slice ad2 pe.ks.length cap2])
theorem rate_of_trod {H : Type} {enc : TypeId × Value → H} {W : World} {base b0 : Nat} {r : Reach} {spare : Nat → Bool} {held : Bool} {v : Value} {d : DataW H} {ps : List MemPlace}
    (hv : Value.okWide Try.prog W r b0 30 v) (h : DataW.Trod enc Try.prog W base spare held 30 v d ps) : ∃ a0 a1 a2 a3 a4 a5 a6 a7 kn kd we pe ad1 cap1 ad2 cap2, RateAt W v a0 a1 a2 a3 a4 a5 a6 a7 kn kd we pe ad1 cap1 ad2 cap2 := by
  have hcr : Try.prog.cellsOf 30 = 16 := by kernel_rfl
  have hce : Try.prog.cellsOf 24 = 3 := by kernel_rfl
  have hci : Try.prog.cellsOf 3 = 1 := by kernel_rfl
  have hcq : Try.prog.cellsOf 28 = 2 := by kernel_rfl
  have hcp : Try.prog.cellsOf 26 = 2 := by kernel_rfl
  obtain ⟨cs, rfl, _⟩ := okWide_struct Try.underlying30 hv
  obtain ⟨fuel, hf0⟩ := h
  obtain ⟨xs, n, hn, _, hl, hlen, hf⟩ := DataW.trod_struct Try.underlying30 hf0
  rw [hcr] at hl
  have e10 : xs.length = 10 := hlen
  have hx : ∀ i (h : i < 10), xs[i]? = some (xs[i]'(by omega)) := fun i h => List.getElem?_eq_getElem (by omega)
  obtain ⟨cs⟩ := cs
  have hl2 : cs.length = 16 := hl
  match cs, hl2 with
  | [v0, v1, v2, v3, v4, v5, v6, v7, v8, v9, v10, v11, v12, v13, v14, v15], _ =>
    have one : ∀ (i : Nat) (hi : i < 10) (u : Value), DataW.trod enc Try.prog W base spare held n 3 [u] = xs[i]? → ∃ a : Int, u = .int .i64 a := by
      intro i hi u hu
      rw [hx i hi] at hu
      obtain ⟨a, ea, _, _⟩ := DataW.trod_int Try.underlying3 hu
      exact ⟨a, by simpa using ea⟩
    obtain ⟨a0, rfl⟩ := one 0 (by decide) v0 (hf 0 _ rfl)
    obtain ⟨a1, rfl⟩ := one 1 (by decide) v1 (hf 1 _ rfl)
    obtain ⟨a2, rfl⟩ := one 2 (by decide) v2 (hf 2 _ rfl)
    obtain ⟨a5, rfl⟩ := one 4 (by decide) v5 (hf 4 _ rfl)
    obtain ⟨a6, rfl⟩ := one 5 (by decide) v6 (hf 5 _ rfl)
    obtain ⟨a7, rfl⟩ := one 6 (by decide) v7 (hf 6 _ rfl)
    have hs : DataW.trod enc Try.prog W base spare held n 26 [v3, v4] = some (xs[3]'(by omega)) := (hf 3 _ rfl).trans (hx 3 (by decide))
    have hk : DataW.trod enc Try.prog W base spare held n 28 [v8, v9] = some (xs[7]'(by omega)) := (hf 7 _ rfl).trans (hx 7 (by decide))
    have hw : DataW.trod enc Try.prog W base spare held n 24 [v10, v11, v12] = some (xs[8]'(by omega)) := (hf 8 _ rfl).trans (hx 8 (by decide))
    have hp : DataW.trod enc Try.prog W base spare held n 24 [v13, v14, v15] = some (xs[9]'(by omega)) := (hf 9 _ rfl).trans (hx 9 (by decide))
    obtain ⟨a3, a4, e1⟩ := two_trod Try.underlying26 hcp rfl rfl hs
    obtain ⟨kn, kd, e2⟩ := two_trod Try.underlying28 hcq rfl rfl hk
    obtain ⟨u0, u1, u2, we, e3, tw⟩ := tree_trod n hw
    obtain ⟨z0, z1, z2, pe, e4, tp⟩ := tree_trod n hp
    simp at e1 e2 e3 e4
    obtain ⟨rfl, rfl⟩ := e1
    obtain ⟨rfl, rfl⟩ := e2
    obtain ⟨rfl, rfl, rfl⟩ := e3
    obtain ⟨rfl, rfl, rfl⟩ := e4
    obtain ⟨ad1, cap1, hv1, -, -⟩ := tw.shape
    obtain ⟨ad2, cap2, hv2, -, -⟩ := tp.shape
    simp at hv1 hv2
    obtain ⟨rfl, rfl, rfl⟩ := hv1
    obtain ⟨rfl, rfl, rfl⟩ := hv2
    exact ⟨a0, a1, a2, a3, a4, a5, a6, a7, kn, kd, we, pe, ad1, cap1, ad2, cap2, rfl, tw, tp⟩
end Go.Proofs.Ytbkcpcjdpfndpaa
