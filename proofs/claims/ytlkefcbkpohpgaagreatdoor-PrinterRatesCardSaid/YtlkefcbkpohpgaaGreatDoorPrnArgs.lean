/-
  An argument that is a slice of rates; a rate that can be written, as what the parser gives.
-/
import Derived.Test.YtlkefcbkpohpgaaGreatDoorQpa
import Derived.Test.YtlkefcbkpohpgaaGreatDoorRefCan
import Derived.Test.YtlkefcbkpohpgaaGreatDoorPrnRates
import Derived.Test.YtlkefcbkpohpgaaGreatDoorQt
namespace Go.Proofs.YtlkefcbkpohpgaaGreatDoor
open Go.ChangeShapes Go.WideShapes Go.RowKit Go.Deep
set_option maxRecDepth 100000
set_option linter.unusedVariables false
set_option linter.unusedSimpArgs false

theorem sixteen {cs : List Value} (h : cs.length = 16) : ∃ v0 v1 v2 v3 v4 v5 v6 v7 v8 v9 v10 v11 v12 v13 v14 v15, cs = [v0, v1, v2, v3, v4, v5, v6, v7, v8, v9, v10, v11, v12, v13, v14, v15] := by
  match cs, h with
  | [v0, v1, v2, v3, v4, v5, v6, v7, v8, v9, v10, v11, v12, v13, v14, v15], _ => exact ⟨v0, v1, v2, v3, v4, v5, v6, v7, v8, v9, v10, v11, v12, v13, v14, v15, rfl⟩
theorem rate_cells {H : Type} {enc : TypeId × Value → H} {W : World} {base fuel : Nat} {spare : Nat → Bool} {held : Bool} {cs : List Value} {x : DataW H × List MemPlace}
    (hl2 : cs.length = 16) (hf0 : DataW.trod enc Tryz.prog W base spare held fuel 52 cs = some x) : ∃ a0 a1 a2 a3 a4 a5 a6 a7 kn kd we pe ad1 cap1 ad2 cap2, RateAt W (.agg cs.toArray) a0 a1 a2 a3 a4 a5 a6 a7 kn kd we pe ad1 cap1 ad2 cap2 := by
  obtain ⟨v0, v1, v2, v3, v4, v5, v6, v7, v8, v9, v10, v11, v12, v13, v14, v15, rfl⟩ := sixteen hl2
  have hcr : Tryz.prog.cellsOf 52 = 16 := by kernel_rfl
  have hce : Tryz.prog.cellsOf 24 = 3 := by kernel_rfl
  have hci : Tryz.prog.cellsOf 3 = 1 := by kernel_rfl
  have hcq : Tryz.prog.cellsOf 46 = 2 := by kernel_rfl
  have hcp : Tryz.prog.cellsOf 50 = 2 := by kernel_rfl
  obtain ⟨xs, n, hn, _, hl, hlen, hf⟩ := DataW.trod_struct Tryz.underlying52 hf0
  have e10 : xs.length = 10 := hlen
  have hx : ∀ i (h : i < 10), xs[i]? = some (xs[i]'(by omega)) := fun i h => List.getElem?_eq_getElem (by omega)
  have one : ∀ (i : Nat) (hi : i < 10) (u : Value), DataW.trod enc Tryz.prog W base spare held n 3 [u] = xs[i]? → ∃ a : Int, u = .int .i64 a := by
    intro i hi u hu
    rw [hx i hi] at hu
    obtain ⟨a, ea, _, _⟩ := DataW.trod_int Tryz.underlying3 hu
    exact ⟨a, by simpa using ea⟩
  obtain ⟨a0, rfl⟩ := one 0 (by decide) v0 (hf 0 _ rfl)
  obtain ⟨a1, rfl⟩ := one 1 (by decide) v1 (hf 1 _ rfl)
  obtain ⟨a2, rfl⟩ := one 2 (by decide) v2 (hf 2 _ rfl)
  obtain ⟨a5, rfl⟩ := one 4 (by decide) v5 (hf 4 _ rfl)
  obtain ⟨a6, rfl⟩ := one 5 (by decide) v6 (hf 5 _ rfl)
  obtain ⟨a7, rfl⟩ := one 6 (by decide) v7 (hf 6 _ rfl)
  have hs : DataW.trod enc Tryz.prog W base spare held n 50 [v3, v4] = some (xs[3]'(by omega)) := (hf 3 _ rfl).trans (hx 3 (by decide))
  have hk : DataW.trod enc Tryz.prog W base spare held n 46 [v8, v9] = some (xs[7]'(by omega)) := (hf 7 _ rfl).trans (hx 7 (by decide))
  have hw : DataW.trod enc Tryz.prog W base spare held n 24 [v10, v11, v12] = some (xs[8]'(by omega)) := (hf 8 _ rfl).trans (hx 8 (by decide))
  have hp : DataW.trod enc Tryz.prog W base spare held n 24 [v13, v14, v15] = some (xs[9]'(by omega)) := (hf 9 _ rfl).trans (hx 9 (by decide))
  obtain ⟨a3, a4, e1⟩ := two_trod Tryz.underlying50 hcp rfl rfl hs
  obtain ⟨kn, kd, e2⟩ := two_trod Tryz.underlying46 hcq rfl rfl hk
  obtain ⟨u0, u1, u2, we, e3, tw⟩ := tree_trod n hw
  obtain ⟨z0, z1, z2, pe, e4, tp⟩ := tree_trod n hp
  simp at e1 e2 e3 e4
  obtain ⟨rfl, rfl⟩ := e1
  obtain ⟨rfl, rfl⟩ := e2
  obtain ⟨rfl, rfl, rfl⟩ := e3
  obtain ⟨rfl, rfl, rfl⟩ := e4
  obtain ⟨ad1, cap1, hv1, -, -⟩ := tw.shape
  obtain ⟨ad2, cap2, hv2, -, -⟩ := tp.shape
  simp at hv1 hv2
  obtain ⟨rfl, rfl, rfl⟩ := hv1
  obtain ⟨rfl, rfl, rfl⟩ := hv2
  exact ⟨a0, a1, a2, a3, a4, a5, a6, a7, kn, kd, we, pe, ad1, cap1, ad2, cap2, rfl, tw, tp⟩
/-- what a slice of rates reads -/
def RatesAt (W : World) (p : Option Addr) (n : Nat) : Prop := n ≤ 9223372036854775807 ∧ ∀ k, k < n → ∃ b cs a0 a1 a2 a3 a4 a5 a6 a7 kn kd we pe ad1 cap1 ad2 cap2, p = some b ∧ RateAt W (.agg (cs : List Value).toArray) a0 a1 a2 a3 a4 a5 a6 a7 kn kd we pe ad1 cap1 ad2 cap2 ∧
  (b.add (k * 16)).block < W.heap.size ∧ ∀ j u, cs[j]? = some u → W.cell? (b.add (k * 16 + j)) = some u
theorem rates_of_trod {H : Type} {enc : TypeId × Value → H} {W : World} {base : Nat} {held : Bool} {p : Option Addr} {n c : Nat} {d : DataW H} {ps : List MemPlace}
    (h : DataW.Trod enc Tryz.prog W base (fun _ => true) held 31 (.slice p n c) d ps) : RatesAt W p n := by
  obtain ⟨fuel, hf⟩ := h
  have hcr : Tryz.prog.cellsOf 52 = 16 := by kernel_rfl
  rcases open_slice Tryz.underlying31 hf with ⟨hcs, _⟩ | ⟨a, len, cap, m, k, D, Pl, hcs, hbl, hlc, hcm, hm, _, hall⟩
  · simp [Value.cells] at hcs
    obtain ⟨rfl, rfl, rfl⟩ := hcs
    exact ⟨by omega, fun k hk => by omega⟩
  · simp [Value.cells] at hcs
    obtain ⟨rfl, rfl, rfl⟩ := hcs
    simp only [if_true] at hm
    subst hm
    refine ⟨by unfold maxLen at hcm; omega, fun i hi => ?_⟩
    obtain ⟨cs', h1, h2⟩ := hall i (by omega)
    rw [hcr] at h1
    obtain ⟨_, hlen, hcell⟩ := World.cells?_some h1
    obtain ⟨a0, a1, a2, a3, a4, a5, a6, a7, kn, kd, we, pe, ad1, cap1, ad2, cap2, hr⟩ := rate_cells hlen h2
    have c0 := hcell 0 (by omega)
    rw [List.getElem?_eq_getElem (by omega)] at c0
    have hbk := lblock_lt c0
    rw [ladd_add, Nat.add_zero] at hbk
    refine ⟨a, cs', a0, a1, a2, a3, a4, a5, a6, a7, kn, kd, we, pe, ad1, cap1, ad2, cap2, rfl, hr, hbk, fun j u hj => ?_⟩
    have hjl := (List.getElem?_eq_some_iff.1 hj).1
    have h3 := hcell j (by omega)
    rw [ladd_add] at h3
    rw [h3]
    exact hj
/-- the percentage as it is kept -/
theorem keep_back {kn kd : Int} (hv : vldB kn kd = true) (h0 : 100 % kd = 0) (h9 : nineB (kn * (100 / kd)) = true) : mkF (kn * (100 / kd)) 100 = (kn, kd, 0) := by
  obtain ⟨d1, d2, n1, n2⟩ := vldb_bd9 hv
  have hg0 : Int.gcd kn kd = 1 := by unfold vldB at hv; simp at hv; exact hv.2
  have hfit : fitB kn kd = true := by unfold vldB at hv; simp only [Bool.and_eq_true] at hv; exact hv.1
  have hq : kd * (100 / kd) = 100 := Int.mul_ediv_cancel' (Int.dvd_of_emod_eq_zero h0)
  generalize hqq : 100 / kd = q at h9 hq ⊢
  have hq0 : 0 < q := by
    rcases Int.lt_or_le 0 q with h | h
    · exact h
    · have := Int.mul_nonpos_of_nonneg_of_nonpos (show (0 : Int) ≤ kd by omega) h; omega
  have hc : 0 ≤ kn * q ∧ kn * q ≤ 999999999 := by simpa [nineB] using h9
  have h1 : wthB (kn * q) 1000000000000000 = true := by unfold wthB; simp; omega
  have h2 : wthB 100 1000000000000000 = true := by decide
  have hgc : Int.gcd (kn * q) 100 = q.natAbs := by
    rw [← hq, Int.gcd_mul_right, hg0, Nat.one_mul]
  have hg : common (kn * q) 100 = q := by
    rw [common_eq _ _ (by decide), if_neg (by decide), hgc]
    omega
  have hN : redN (kn * q) 100 = kn := by unfold redN; rw [hg]; exact Int.mul_tdiv_cancel kn (by omega)
  have hD : redD (kn * q) 100 = kd := by unfold redD; rw [hg, ← hq]; exact Int.mul_tdiv_cancel kd (by omega)
  unfold mkF
  rw [if_pos ⟨by decide, h1, h2⟩]
  unfold setl
  rw [hN, hD, if_pos hfit]
theorem rt_of_can {a0 a1 a2 a3 a4 a5 a6 a7 kn kd : Int} {we pe : Xp} (h : canR a0 a1 a2 a3 a4 a5 a6 a7 kn kd we pe = true) : ∃ r : Rt, goodR r ∧ a0 = (r.a0 : Nat) ∧ a1 = (r.a1 : Nat) ∧ a2 = (r.a2 : Nat) ∧ a3 = (r.a3 : Nat) ∧ a4 = (r.a4 : Nat) ∧ a5 = (r.a5 : Nat) ∧ a6 = (r.a6 : Nat) ∧ a7 = (r.a7 : Nat) ∧ kn = r.kn ∧ kd = r.kd ∧ we = r.when ∧ pe = r.price := by
  unfold canR at h
  simp only [Bool.and_eq_true] at h
  obtain ⟨⟨⟨⟨⟨⟨⟨⟨⟨⟨h0, h1⟩, h2⟩, h3⟩, h4⟩, h5⟩, h6⟩, h7⟩, hkp⟩, v1⟩, v2⟩ := h
  unfold keepB at hkp
  simp only [Bool.and_eq_true, decide_eq_true_eq] at hkp
  obtain ⟨⟨hk, hr⟩, h8⟩ := hkp
  have hb := keep_back hk hr h8
  obtain ⟨n0, rfl, b0⟩ := nine_nat h0
  obtain ⟨n1, rfl, b1⟩ := nine_nat h1
  obtain ⟨n2, rfl, b2⟩ := nine_nat h2
  obtain ⟨n3, rfl, b3⟩ := nine_nat h3
  obtain ⟨n4, rfl, b4⟩ := nine_nat h4
  obtain ⟨n5, rfl, b5⟩ := nine_nat h5
  obtain ⟨n6, rfl, b6⟩ := nine_nat h6
  obtain ⟨n7, rfl, b7⟩ := nine_nat h7
  obtain ⟨c, hc, b8⟩ := nine_nat h8
  rw [hc] at hb
  refine ⟨⟨n0, n1, n2, n3, n4, n5, n6, n7, c, we, pe⟩, ⟨b0, b1, b2, b3, b4, b5, b6, b7, b8, v1, v2⟩, rfl, rfl, rfl, rfl, rfl, rfl, rfl, rfl, ?_, ?_, rfl, rfl⟩
  · unfold Rt.kn; rw [hb]
  · unfold Rt.kd; rw [hb]
/-- the rates of a slice, as far as they have been read -/
def RTo (W : World) (p : Option Addr) (rs : List Rt) : Prop := ∃ cells, RatesC (fun _ => False) W rs cells ∧ ∀ b, p = some b → ∀ j u, cells[j]? = some u → W.cell? (b.add j) = some u
theorem rto_nil (W : World) (p : Option Addr) : RTo W p [] := ⟨[], rfl, fun _ _ j u h => by simp at h⟩
theorem RTo.more {W : World} {b : Addr} {rs : List Rt} {r : Rt} {c : List Value} (h : RTo W (some b) rs) (hr : RateV (fun _ => False) W r c) (hc : ∀ j u, c[j]? = some u → W.cell? (b.add (rs.length * 16 + j)) = some u) : RTo W (some b) (rs ++ [r]) := by
  obtain ⟨cells, h1, h2⟩ := h
  refine ⟨cells ++ c, RatesC.snoc hr h1, fun b' e j u hj => ?_⟩
  cases e
  have hl := h1.len
  rw [List.getElem?_append] at hj
  split at hj
  · exact h2 _ rfl j u hj
  · next hlt =>
    have := hc _ _ hj
    rw [show rs.length * 16 + (j - cells.length) = j by omega] at this
    exact this
theorem RTo.rsl {W : World} {p : Option Addr} {c : Nat} {rs : List Rt} (h : RTo W p rs) (hl : rs.length ≤ 1000000) (hp : rs = [] ∨ ∃ b, p = some b ∧ b.block < W.heap.size) : RSl W (.slice p rs.length c) rs := by
  obtain ⟨cells, h1, h2⟩ := h
  refine ⟨p, c, cells, rfl, hl, h1, ?_⟩
  rcases hp with hp | ⟨b, rfl, hb⟩
  · exact .inl hp
  · exact .inr ⟨b, rfl, hb, h2 b rfl⟩
theorem joinT_len : ∀ (rs : List Rt), (∀ r ∈ rs, goodR r) → (joinT rs).length ≤ rs.length * 10001
  | [], _ => Nat.le_refl _
  | [r], h => by have := (rt_read (h r (by simp))).2; simpa [joinT] using (by omega : (rtT r).length ≤ 10001)
  | r :: s :: t, h => by
    have h1 := (rt_read (h r (by simp))).2
    have h2 := joinT_len (s :: t) fun x hx => h x (by simp at hx ⊢; exact .inr hx)
    show (rtT r ++ 10 :: joinT (s :: t)).length ≤ (r :: s :: t).length * 10001
    rw [List.length_append, List.length_cons]
    simp only [List.length_cons] at h2 ⊢
    omega
end Go.Proofs.YtlkefcbkpohpgaaGreatDoor
