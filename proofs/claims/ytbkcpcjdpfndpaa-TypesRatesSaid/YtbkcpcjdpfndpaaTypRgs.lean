/-
  Rates with any numbers, in memory: one of them, a list; as arguments.
-/
import Derived.Test.YtbkcpcjdpfndpaaTypRRate
import Derived.Test.YtbkcpcjdpfndpaaPrnArg
namespace Go.Proofs.Ytbkcpcjdpfndpaa
open Go.ChangeShapes Go.WideShapes Go.RowKit Go.Shelf Go.Deep
set_option maxRecDepth 100000
set_option linter.unusedVariables false

/-- the sixteen cells of a rate -/
def rgC (r : Rg) (x y : Value) : List Value := [.int .i64 r.a0, .int .i64 r.a1, .int .i64 r.a2, .int .i64 r.a3, .int .i64 r.a4, .int .i64 r.a5, .int .i64 r.a6, .int .i64 r.a7, .int .i64 r.kn, .int .i64 r.kd,
  .int .i64 r.when.o, .int .i64 r.when.n, x, .int .i64 r.price.o, .int .i64 r.price.n, y]
def RgV (Q : Nat → Prop) (w : World) (r : Rg) (cells : List Value) : Prop := ∃ ad cap ad2 cap2, cells = rgC r (.slice ad r.when.ks.length cap) (.slice ad2 r.price.ks.length cap2) ∧
  Tree Q w r.when (.agg #[.int .i64 r.when.o, .int .i64 r.when.n, .slice ad r.when.ks.length cap]) ∧ Tree Q w r.price (.agg #[.int .i64 r.price.o, .int .i64 r.price.n, .slice ad2 r.price.ks.length cap2])
theorem RgV.go {Q R : Nat → Prop} {w w' : World} (hz : w.heap.size ≤ w'.heap.size) (h : ∀ k, k < w.heap.size → ¬ Q k → w'.heap[k]? = w.heap[k]? ∧ ¬ R k) {r : Rg} {c : List Value} (hr : RgV Q w r c) : RgV R w' r c := by
  obtain ⟨ad, cap, ad2, cap2, e, h1, h2⟩ := hr
  exact ⟨ad, cap, ad2, cap2, e, Tree.go hz h h1, Tree.go hz h h2⟩
def RgC (Q : Nat → Prop) (w : World) : List Rg → List Value → Prop
  | [], c => c = []
  | r :: rs, c => ∃ c1 c2, c = c1 ++ c2 ∧ RgV Q w r c1 ∧ RgC Q w rs c2
theorem RgC.go {Q R : Nat → Prop} {w w' : World} (hz : w.heap.size ≤ w'.heap.size) (h : ∀ k, k < w.heap.size → ¬ Q k → w'.heap[k]? = w.heap[k]? ∧ ¬ R k) : ∀ {rs : List Rg} {c : List Value}, RgC Q w rs c → RgC R w' rs c
  | [], _, hr => hr
  | _ :: _, _, ⟨c1, c2, e, h1, h2⟩ => ⟨c1, c2, e, h1.go hz h, RgC.go hz h h2⟩
theorem RgC.snoc {Q : Nat → Prop} {w : World} {r : Rg} {d : List Value} (hd : RgV Q w r d) : ∀ {rs : List Rg} {c : List Value}, RgC Q w rs c → RgC Q w (rs ++ [r]) (c ++ d)
  | [], _, hr => ⟨d, [], by rw [hr]; simp, hd, rfl⟩
  | x :: rs, _, ⟨c1, c2, e, h1, h2⟩ => ⟨c1, c2 ++ d, by rw [e, List.append_assoc], h1, RgC.snoc hd h2⟩
theorem RgV.len {Q : Nat → Prop} {w : World} {r : Rg} {c : List Value} (h : RgV Q w r c) : c.length = 16 := by
  obtain ⟨_, _, _, _, rfl, _, _⟩ := h; rfl
theorem RgC.len {Q : Nat → Prop} {w : World} : ∀ {rs : List Rg} {c : List Value}, RgC Q w rs c → c.length = rs.length * 16
  | [], _, h => by rw [h]; rfl
  | r :: rs, _, ⟨c1, c2, e, h1, h2⟩ => by rw [e, List.length_append, h1.len, RgC.len h2, List.length_cons]; omega
theorem RgC.app {Q : Nat → Prop} {w : World} {ss : List Rg} {d : List Value} (hd : RgC Q w ss d) : ∀ {rs : List Rg} {c : List Value}, RgC Q w rs c → RgC Q w (rs ++ ss) (c ++ d)
  | [], _, hr => by rw [hr]; exact hd
  | x :: rs, _, ⟨c1, c2, e, h1, h2⟩ => ⟨c1, c2 ++ d, by rw [e, List.append_assoc], h1, RgC.app hd h2⟩
/-- the cells of the rate at a place -/
theorem RgC.at {Q : Nat → Prop} {w : World} : ∀ {rs : List Rg} {c : List Value}, RgC Q w rs c → ∀ (k : Nat) (hk : k < rs.length), ∃ c1, RgV Q w rs[k] c1 ∧ ∀ j u, c1[j]? = some u → c[k * 16 + j]? = some u
  | _ :: _, _, ⟨c1, c2, e, h1, _⟩, 0, _ => ⟨c1, h1, fun j u hj => by rw [e, Nat.zero_mul, Nat.zero_add, List.getElem?_append_left (List.getElem?_eq_some_iff.1 hj).1]; exact hj⟩
  | r :: rs, _, ⟨c1, c2, e, h1, h2⟩, k + 1, hk => by
    obtain ⟨d, hd, hc⟩ := RgC.at h2 k (by simpa using hk)
    refine ⟨d, hd, fun j u hj => ?_⟩
    rw [e, List.getElem?_append_right (by rw [h1.len]; omega), h1.len, show (k + 1) * 16 + j - 16 = k * 16 + j by omega]
    exact hc j u hj
theorem RgC.bars {Q R : Nat → Prop} {w : World} {rs : List Rg} {c : List Value} (h : RgC Q w rs c) (hb : ∀ k, k < w.heap.size → R k → Q k) : RgC R w rs c := h.go (Nat.le_refl _) fun k hk hq => ⟨rfl, fun hr => hq (hb k hk hr)⟩
theorem RgC.below {Q : Nat → Prop} {w w' : World} {rs : List Rg} {c : List Value} (h : RgC Q w rs c) (hb : Below w.heap.size w w') : RgC Q w' rs c := h.go hb.size (fun k hk hq => ⟨hb.block k hk, hq⟩)
theorem RgV.below {Q : Nat → Prop} {w w' : World} {r : Rg} {c : List Value} (h : RgV Q w r c) (hb : Below w.heap.size w w') : RgV Q w' r c := h.go hb.size (fun k hk hq => ⟨hb.block k hk, hq⟩)
/-! ### Lists of rates -/
/-- v is a slice that reads rs -/
def RgS (w : World) (v : Value) (rs : List Rg) : Prop := ∃ ad cap cells, v = .slice ad rs.length cap ∧ rs.length ≤ 9223372036854775807 ∧ RgC (fun _ => False) w rs cells ∧ (rs = [] ∨ ∃ a, ad = some a ∧ a.block < w.heap.size ∧ ∀ j u, cells[j]? = some u → w.cell? (a.add j) = some u)
theorem RgC.free {Q : Nat → Prop} {w : World} {rs : List Rg} {c : List Value} (h : RgC Q w rs c) : RgC (fun _ => False) w rs c := h.bars fun _ _ h => h.elim
theorem RgS.below {w w' : World} {v : Value} {rs : List Rg} (h : RgS w v rs) (hb : Below w.heap.size w w') : RgS w' v rs := by
  obtain ⟨ad, cap, cells, e, hl, hc, h1⟩ := h
  refine ⟨ad, cap, cells, e, hl, hc.below hb, ?_⟩
  rcases h1 with h1 | ⟨a, h2, h3, h4⟩
  · exact .inl h1
  · exact .inr ⟨a, h2, Nat.lt_of_lt_of_le h3 hb.size, fun j u hj => (hb.cell (p := a.add j) (by rw [tblk_add]; exact h3)).trans (h4 j u hj)⟩
theorem rgs_own {Q : Nat → Prop} {w : World} {base : Nat} {v : Value} {rs : List Rg} {cells : List Value} (h : w.ownsRow base 30 16 v rs.length cells) (hc : RgC Q w rs cells) (hl : rs.length ≤ 9223372036854775807) : RgS w v rs := by
  obtain ⟨_, ⟨rfl, h0⟩ | ⟨g, cap, cur, rfl, _, hh, _, _, _, hct⟩⟩ := h
  · exact ⟨none, 0, cells, by rw [h0], hl, hc.free, .inl (List.length_eq_zero_iff.1 h0)⟩
  · refine ⟨_, cap, cells, rfl, hl, hc.free, .inr ⟨_, rfl, (Array.getElem?_eq_some_iff.1 hh).1, fun j u hj => ?_⟩⟩
    have hjl := (List.getElem?_eq_some_iff.1 hj).1
    rw [xadd_zero0]
    rw [← hct, List.getElem?_take] at hj
    split at hj
    · simp only [World.cell?, hh]; simpa using hj
    · cases hj
theorem rgs_new {Q : Nat → Prop} {w : World} {B : Nat} {r : Rg} {c : List Value} (h : Own w B c) (hc : RgV Q w r c) (cap : Nat) : RgS w (.slice (some ⟨B, 0, none⟩) 1 cap) [r] :=
  ⟨_, cap, c, rfl, by simp, RgC.free (Q := Q) ⟨c, [], by simp, hc, rfl⟩, .inr ⟨_, rfl, h.lt, fun j u hj => by rw [xadd_zero0]; exact h.cell j u hj⟩⟩
theorem add_moreT (a : Addr) (m j : Nat) (hj : 0 < j) : a.add (m + j) = { block := (a.add m).block, off := (a.add m).off + j } := by
  unfold Addr.add; split <;> split <;> simp_all <;> omega
/-- the sixteen cells of a place -/
theorem RgS.reads {w : World} {ad : Option Addr} {cap : Nat} {rs : List Rg} (h : RgS w (.slice ad rs.length cap) rs) (k : Nat) (hk : k < rs.length) : ∃ a ad1 cap1 ad2 cap2, ad = some a ∧ (a.add (k * 16)).block < w.heap.size ∧
    RgV (fun _ => False) w rs[k] (rgC rs[k] (.slice ad1 (rs[k]).when.ks.length cap1) (.slice ad2 (rs[k]).price.ks.length cap2)) ∧
    w.cell? (a.add (k * 16)) = some (.int .i64 (rs[k]).a0) ∧
    w.cell? { block := (a.add (k * 16)).block, off := (a.add (k * 16)).off + 1 } = some (.int .i64 (rs[k]).a1) ∧ w.cell? { block := (a.add (k * 16)).block, off := (a.add (k * 16)).off + 2 } = some (.int .i64 (rs[k]).a2) ∧ w.cell? { block := (a.add (k * 16)).block, off := (a.add (k * 16)).off + 3 } = some (.int .i64 (rs[k]).a3) ∧ w.cell? { block := (a.add (k * 16)).block, off := (a.add (k * 16)).off + 4 } = some (.int .i64 (rs[k]).a4) ∧ w.cell? { block := (a.add (k * 16)).block, off := (a.add (k * 16)).off + 5 } = some (.int .i64 (rs[k]).a5) ∧ w.cell? { block := (a.add (k * 16)).block, off := (a.add (k * 16)).off + 6 } = some (.int .i64 (rs[k]).a6) ∧ w.cell? { block := (a.add (k * 16)).block, off := (a.add (k * 16)).off + 7 } = some (.int .i64 (rs[k]).a7) ∧ w.cell? { block := (a.add (k * 16)).block, off := (a.add (k * 16)).off + 8 } = some (.int .i64 (rs[k]).kn) ∧ w.cell? { block := (a.add (k * 16)).block, off := (a.add (k * 16)).off + 9 } = some (.int .i64 (rs[k]).kd) ∧ w.cell? { block := (a.add (k * 16)).block, off := (a.add (k * 16)).off + 10 } = some (.int .i64 (rs[k]).when.o) ∧ w.cell? { block := (a.add (k * 16)).block, off := (a.add (k * 16)).off + 11 } = some (.int .i64 (rs[k]).when.n) ∧ w.cell? { block := (a.add (k * 16)).block, off := (a.add (k * 16)).off + 12 } = some (.slice ad1 (rs[k]).when.ks.length cap1) ∧ w.cell? { block := (a.add (k * 16)).block, off := (a.add (k * 16)).off + 13 } = some (.int .i64 (rs[k]).price.o) ∧ w.cell? { block := (a.add (k * 16)).block, off := (a.add (k * 16)).off + 14 } = some (.int .i64 (rs[k]).price.n) ∧ w.cell? { block := (a.add (k * 16)).block, off := (a.add (k * 16)).off + 15 } = some (.slice ad2 (rs[k]).price.ks.length cap2) := by
  obtain ⟨ad', cap', cells, e, hl, hc, h1⟩ := h
  have e1 : ad = ad' := by injection e
  subst e1
  rcases h1 with rfl | ⟨a, rfl, h3, h4⟩
  · simp at hk
  · obtain ⟨c1, hr, hat⟩ := hc.at k hk
    obtain ⟨ad1, cap1, ad2, cap2, rfl, t1, t2⟩ := hr
    have key : ∀ j u, 0 < j → (rgC rs[k] (.slice ad1 (rs[k]).when.ks.length cap1) (.slice ad2 (rs[k]).price.ks.length cap2))[j]? = some u → w.cell? { block := (a.add (k * 16)).block, off := (a.add (k * 16)).off + j } = some u := fun j u hj hu => by
      rw [← add_moreT a (k * 16) j hj]; exact h4 _ _ (hat j u hu)
    refine ⟨a, ad1, cap1, ad2, cap2, rfl, by rw [tblk_add]; exact h3, ⟨ad1, cap1, ad2, cap2, rfl, t1, t2⟩, h4 _ _ (by have := hat 0 _ rfl; exact this), key 1 _ (by decide) rfl, key 2 _ (by decide) rfl, key 3 _ (by decide) rfl, key 4 _ (by decide) rfl, key 5 _ (by decide) rfl, key 6 _ (by decide) rfl, key 7 _ (by decide) rfl, key 8 _ (by decide) rfl, key 9 _ (by decide) rfl, key 10 _ (by decide) rfl, key 11 _ (by decide) rfl, key 12 _ (by decide) rfl, key 13 _ (by decide) rfl, key 14 _ (by decide) rfl, key 15 _ (by decide) rfl⟩
theorem sixteenT {cs : List Value} (h : cs.length = 16) : ∃ v0 v1 v2 v3 v4 v5 v6 v7 v8 v9 v10 v11 v12 v13 v14 v15, cs = [v0, v1, v2, v3, v4, v5, v6, v7, v8, v9, v10, v11, v12, v13, v14, v15] := by
  match cs, h with
  | [v0, v1, v2, v3, v4, v5, v6, v7, v8, v9, v10, v11, v12, v13, v14, v15], _ => exact ⟨v0, v1, v2, v3, v4, v5, v6, v7, v8, v9, v10, v11, v12, v13, v14, v15, rfl⟩
theorem rate_cellsT {H : Type} {enc : TypeId × Value → H} {W : World} {base fuel : Nat} {spare : Nat → Bool} {held : Bool} {cs : List Value} {x : DataW H × List MemPlace}
    (hl2 : cs.length = 16) (hf0 : DataW.trod enc Try.prog W base spare held fuel 30 cs = some x) : ∃ a0 a1 a2 a3 a4 a5 a6 a7 kn kd we pe ad1 cap1 ad2 cap2, RateAt W (.agg cs.toArray) a0 a1 a2 a3 a4 a5 a6 a7 kn kd we pe ad1 cap1 ad2 cap2 := by
  obtain ⟨v0, v1, v2, v3, v4, v5, v6, v7, v8, v9, v10, v11, v12, v13, v14, v15, rfl⟩ := sixteenT hl2
  have hcr : Try.prog.cellsOf 30 = 16 := by kernel_rfl
  have hce : Try.prog.cellsOf 24 = 3 := by kernel_rfl
  have hci : Try.prog.cellsOf 3 = 1 := by kernel_rfl
  have hcq : Try.prog.cellsOf 28 = 2 := by kernel_rfl
  have hcp : Try.prog.cellsOf 26 = 2 := by kernel_rfl
  obtain ⟨xs, n, hn, _, hl, hlen, hf⟩ := DataW.trod_struct Try.underlying30 hf0
  have e10 : xs.length = 10 := hlen
  have hx : ∀ i (h : i < 10), xs[i]? = some (xs[i]'(by omega)) := fun i h => List.getElem?_eq_getElem (by omega)
  have one : ∀ (i : Nat) (hi : i < 10) (u : Value), DataW.trod enc Try.prog W base spare held n 3 [u] = xs[i]? → ∃ a : Int, u = .int .i64 a := by
    intro i hi u hu
    rw [hx i hi] at hu
    obtain ⟨a, ea, _, _⟩ := DataW.trod_int Try.underlying3 hu
    exact ⟨a, by simpa using ea⟩
  obtain ⟨a0, rfl⟩ := one 0 (by decide) v0 (hf 0 _ rfl)
  obtain ⟨a1, rfl⟩ := one 1 (by decide) v1 (hf 1 _ rfl)
  obtain ⟨a2, rfl⟩ := one 2 (by decide) v2 (hf 2 _ rfl)
  obtain ⟨a5, rfl⟩ := one 4 (by decide) v5 (hf 4 _ rfl)
  obtain ⟨a6, rfl⟩ := one 5 (by decide) v6 (hf 5 _ rfl)
  obtain ⟨a7, rfl⟩ := one 6 (by decide) v7 (hf 6 _ rfl)
  have hs : DataW.trod enc Try.prog W base spare held n 26 [v3, v4] = some (xs[3]'(by omega)) := (hf 3 _ rfl).trans (hx 3 (by decide))
  have hk : DataW.trod enc Try.prog W base spare held n 28 [v8, v9] = some (xs[7]'(by omega)) := (hf 7 _ rfl).trans (hx 7 (by decide))
  have hw : DataW.trod enc Try.prog W base spare held n 24 [v10, v11, v12] = some (xs[8]'(by omega)) := (hf 8 _ rfl).trans (hx 8 (by decide))
  have hp : DataW.trod enc Try.prog W base spare held n 24 [v13, v14, v15] = some (xs[9]'(by omega)) := (hf 9 _ rfl).trans (hx 9 (by decide))
  obtain ⟨a3, a4, e1⟩ := two_trod Try.underlying26 hcp rfl rfl hs
  obtain ⟨kn, kd, e2⟩ := two_trod Try.underlying28 hcq rfl rfl hk
  obtain ⟨u0, u1, u2, we, e3, tw⟩ := tree_trod n hw
  obtain ⟨z0, z1, z2, pe, e4, tp⟩ := tree_trod n hp
  simp at e1 e2 e3 e4
  obtain ⟨rfl, rfl⟩ := e1
  obtain ⟨rfl, rfl⟩ := e2
  obtain ⟨rfl, rfl, rfl⟩ := e3
  obtain ⟨rfl, rfl, rfl⟩ := e4
  obtain ⟨ad1, cap1, hv1, -, -⟩ := tw.shape
  obtain ⟨ad2, cap2, hv2, -, -⟩ := tp.shape
  simp at hv1 hv2
  obtain ⟨rfl, rfl, rfl⟩ := hv1
  obtain ⟨rfl, rfl, rfl⟩ := hv2
  exact ⟨a0, a1, a2, a3, a4, a5, a6, a7, kn, kd, we, pe, ad1, cap1, ad2, cap2, rfl, tw, tp⟩
/-- a rate as an argument -/
def RgAt (w : World) (v : Value) (r : Rg) : Prop := ∃ c, v = .agg (c : List Value).toArray ∧ RgV (fun _ => False) w r c
theorem rgat_of {w : World} {v : Value} {a0 a1 a2 a3 a4 a5 a6 a7 kn kd : Int} {we pe : Xp} {ad1 : Option Addr} {cap1 : Nat} {ad2 : Option Addr} {cap2 : Nat} (h : RateAt w v a0 a1 a2 a3 a4 a5 a6 a7 kn kd we pe ad1 cap1 ad2 cap2) : RgAt w v ⟨a0, a1, a2, a3, a4, a5, a6, a7, kn, kd, we, pe⟩ := by
  obtain ⟨hv, t1, t2⟩ := h
  exact ⟨_, hv, ad1, cap1, ad2, cap2, rfl, t1, t2⟩
theorem rgv_of {w : World} {c : List Value} {a0 a1 a2 a3 a4 a5 a6 a7 kn kd : Int} {we pe : Xp} {ad1 : Option Addr} {cap1 : Nat} {ad2 : Option Addr} {cap2 : Nat} (h : RateAt w (.agg c.toArray) a0 a1 a2 a3 a4 a5 a6 a7 kn kd we pe ad1 cap1 ad2 cap2) : RgV (fun _ => False) w ⟨a0, a1, a2, a3, a4, a5, a6, a7, kn, kd, we, pe⟩ c := by
  obtain ⟨hv, t1, t2⟩ := h
  have : c = rgC ⟨a0, a1, a2, a3, a4, a5, a6, a7, kn, kd, we, pe⟩ (.slice ad1 we.ks.length cap1) (.slice ad2 pe.ks.length cap2) := by
    injection hv with hv
    exact List.toArray_inj (by simpa [rgC] using hv)
  exact ⟨ad1, cap1, ad2, cap2, this, t1, t2⟩
/-- the rates of a slice, as far as they have been read -/
theorem rgs_build {W : World} {b : Addr} (n : Nat) (h : ∀ k, k < n → ∃ r cs, RgV (fun _ => False) W r cs ∧ ∀ j u, cs[j]? = some u → W.cell? (b.add (k * 16 + j)) = some u) : ∃ l cells, l.length = n ∧ RgC (fun _ => False) W l cells ∧ ∀ j u, cells[j]? = some u → W.cell? (b.add j) = some u := by
  induction n with
  | zero => exact ⟨[], [], rfl, rfl, fun j u hj => by simp at hj⟩
  | succ n ih =>
    obtain ⟨l, cells, hl, hc, hr⟩ := ih fun k hk => h k (by omega)
    obtain ⟨r, cs, hv, hat⟩ := h n (by omega)
    refine ⟨l ++ [r], cells ++ cs, by simp [hl], RgC.snoc hv hc, fun j u hj => ?_⟩
    have hlen := hc.len
    rw [List.getElem?_append] at hj
    split at hj
    · exact hr j u hj
    · next hlt =>
      have := hat _ _ hj
      rw [show n * 16 + (j - cells.length) = j by rw [hlen, hl] at hlt ⊢; omega] at this
      exact this
theorem rgs_of_trod {H : Type} {enc : TypeId × Value → H} {W : World} {base : Nat} {held : Bool} {p : Option Addr} {n c : Nat} {d : DataW H} {ps : List MemPlace}
    (h : DataW.Trod enc Try.prog W base (fun _ => true) held 31 (.slice p n c) d ps) : ∃ l, RgS W (.slice p n c) l := by
  obtain ⟨fuel, hf⟩ := h
  have hcr : Try.prog.cellsOf 30 = 16 := by kernel_rfl
  rcases open_slice Try.underlying31 hf with ⟨hcs, _⟩ | ⟨a, len, cap, m, k, D, Pl, hcs, hbl, hlc, hcm, hm, _, hall⟩
  · simp [Value.cells] at hcs
    obtain ⟨rfl, rfl, rfl⟩ := hcs
    exact ⟨[], none, 0, [], rfl, by simp, rfl, .inl rfl⟩
  · simp [Value.cells] at hcs
    obtain ⟨rfl, rfl, rfl⟩ := hcs
    simp only [if_true] at hm
    subst hm
    have each : ∀ k, k < n → ∃ r cs, RgV (fun _ => False) W r cs ∧ ∀ j u, cs[j]? = some u → W.cell? (a.add (k * 16 + j)) = some u := by
      intro i hi
      obtain ⟨cs', h1, h2⟩ := hall i (by omega)
      rw [hcr] at h1
      obtain ⟨_, hlen, hcell⟩ := World.cells?_some h1
      obtain ⟨a0, a1, a2, a3, a4, a5, a6, a7, kn, kd, we, pe, ad1, cap1, ad2, cap2, hr⟩ := rate_cellsT hlen h2
      refine ⟨_, cs', rgv_of hr, fun j u hj => ?_⟩
      have hjl := (List.getElem?_eq_some_iff.1 hj).1
      have h3 := hcell j (by omega)
      rw [ladd_add] at h3
      rw [h3]
      exact hj
    obtain ⟨l, cells, hl, hc, hr⟩ := rgs_build n each
    refine ⟨l, some a, _, cells, by rw [hl], by rw [hl]; unfold maxLen at hcm; omega, hc, ?_⟩
    by_cases hz : l = []
    · exact .inl hz
    · refine .inr ⟨a, rfl, ?_, hr⟩
      have hn : 0 < n := by
        rw [← hl]
        exact List.length_pos_iff.2 hz
      obtain ⟨r, cs, ⟨_, _, _, _, rfl, _, _⟩, hat⟩ := each 0 hn
      have := lblock_lt (hat 0 _ rfl)
      rwa [tblk_add] at this
end Go.Proofs.Ytbkcpcjdpfndpaa
