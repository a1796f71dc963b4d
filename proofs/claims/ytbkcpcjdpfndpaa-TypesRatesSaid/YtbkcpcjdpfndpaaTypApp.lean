/-
  An append onto a row of the call's own: where it writes; at a step of a region that draws its order; expressions one after another in cells.
-/
import Derived.Test.YtbkcpcjdpfndpaaTypPln
import Derived.Laws.AppendOwn
import Derived.Deep.AppendLies
import Derived.RegionTactic
namespace Go.Proofs.Ytbkcpcjdpfndpaa
open Go.RowKit Go.Shelf
set_option maxRecDepth 100000

section
variable {P : Program}
/-- an append writes the row that it was given, or makes a new one -/
theorem append_whereT {w : World} {base : Nat} {t ty e : TypeId} {i : TypeInfo} {z : Value} {size bytes : Nat} (ht : P.underlying t = some (.slice e)) (hi : P.info? e = some i) (hz : i.zero = some z) (hsize : i.size = size) (hby : i.bytes = bytes)
    {v : Value} {n : Nat} {xs : List Value} (hown : w.ownsRow base e size v n xs) {a : Addr} {m c : Nat} {news : List Value} (hl : news.length = m * size) (hnews : ∀ j u, news[j]? = some u → w.cell? (a.add j) = some u) (h1 : ∀ u ∈ news, u.oneCell' = true)
    (hm : 0 < m) (h63 : n + m ≤ maxLen) (hbytes : (n + m) * bytes ≤ 140737488355328) {v' : Value} {w' : World} (hr : (Builtin.append_ #[t, t] ty #[v, .slice (some a) m c]).run P w = .ok v' w') :
    ∀ r, v'.ownBlock = some r → v.ownBlock = some r ∨ w.heap.size ≤ r := by
  subst hsize hby
  have h63' : n + m ≤ 9223372036854775807 := by simp only [maxLen] at h63; omega
  rcases hown.2 with ⟨rfl, rfl⟩ | ⟨g, cap, cur, rfl, _, hg, _, _, hcs, _⟩
  · have hb : m * i.bytes ≤ 281474976710656 := by have := hbytes; simp only [Nat.zero_add] at this; omega
    rw [run_append_nil (P := P) w t ty e i z ht hi hz a m c news hl hnews hm (by omega) hb] at hr
    injection hr with h2 h3
    subst h2
    intro r h
    exact .inr (by simp only [Value.ownBlock, Option.some.injEq] at h; omega)
  · by_cases hroom : n + m ≤ cap
    · have hfit : n * i.size + news.length ≤ cur.size := by rw [hl, hcs, ← Nat.add_mul]; exact Nat.mul_le_mul_right _ hroom
      rw [run_append_room (P := P) w t ty e i ht hi g n cap cur hg a m c news hl hnews h1 hroom hfit] at hr
      injection hr with h2 h3
      subst h2
      intro r h
      exact .inl h
    · rw [run_append_grow (P := P) w t ty e i z ht hi hz ⟨g, 0, none⟩ n cap xs hown.1 (hown.cells (g := g) rfl) a m c news hl hnews (by omega) (by omega) (growslice_fits (by omega) hbytes)] at hr
      injection hr with h2 h3
      subst h2
      intro r h
      exact .inr (by simp only [Value.ownBlock, Option.some.injEq] at h; omega)
theorem wpList_append_atT {ops : Array Oper} {rest : List Oper} {o : Oper} {a : Act} {w : World} {Q : Exit → Act → World → Prop} (hgd : o.guard = none) (s x : Operand) (t : TypeId)
    (ho : o.op = .call { callee := .builtin .append, args := #[s, x], argTypes := #[t, t] })
    (base : Nat) (e : TypeId) (i : TypeInfo) (z : Value) (size bytes : Nat) (ht : P.underlying t = some (.slice e)) (hi : P.info? e = some i) (hz : i.zero = some z)
    (hsize : i.size = size) (hby : i.bytes = bytes) (hzs : z.cells.size = size) (hsz : 0 < size)
    (v : Value) (n : Nat) (xs : List Value) (hs : a.eval s = v) (hown : w.ownsRow base e size v n xs)
    (ad : Addr) (m c : Nat) (news : List Value) (hx : a.eval x = .slice (some ad) m c) (hl : news.length = m * size) (hnews : ∀ j u, news[j]? = some u → w.cell? (ad.add j) = some u) (h1 : ∀ u ∈ news, u.oneCell' = true)
    (hm : 0 < m) (h63 : n + m ≤ maxLen) (hbytes : (n + m) * bytes ≤ 140737488355328) (hbase : base ≤ w.heap.size)
    (h : ∀ v' w', w'.ownsRow base e size v' (n + m) (xs ++ news) → w.grownBy w' v.ownBlock → (∀ r, v'.ownBlock = some r → v.ownBlock = some r ∨ w.heap.size ≤ r) → wpList P ops Q rest (a.put o.dst v') w') : wpList P ops Q (o :: rest) a w :=
  wpList_plain hgd fun K hK => by
    obtain ⟨v', w', hr, h2, h3, _⟩ := run_append_own (P := P) w base t o.type e i z size bytes ht hi hz hsize hby hzs hsz v n xs hown ad m c news hl hnews h1 h63 hbytes hbase
    have h4 := append_whereT ht hi hz hsize hby hown hl hnews h1 hm h63 hbytes hr
    unfold Oper.wp execOp
    simp only [ho, resolve, invoke, builtin, Sem.run_bind, Sem.run_pure, Result.andThen_ok, List.map_toArray, List.map_cons, List.map_nil, hs, hx, hr]
    exact hK _ _ (h v' w' h2 h3 h4)
theorem step_ownT {ops : Array Oper} {o : Oper} {a : Act} {K : Act → World → Prop} {Q : Exit → Act → World → Prop} {E : Prop} (w : World) (hgd : o.guard = none) (s x : Operand) (t : TypeId)
    (ho : o.op = .call { callee := .builtin .append, args := #[s, x], argTypes := #[t, t] })
    (base : Nat) (e : TypeId) (i : TypeInfo) (z : Value) (size bytes : Nat) (ht : P.underlying t = some (.slice e)) (hi : P.info? e = some i) (hz : i.zero = some z)
    (hsize : i.size = size) (hby : i.bytes = bytes) (hzs : z.cells.size = size) (hsz : 0 < size)
    (v : Value) (n : Nat) (xs : List Value) (hs : a.eval s = v) (hown : w.ownsRow base e size v n xs)
    (ad : Addr) (m c : Nat) (news : List Value) (hx : a.eval x = .slice (some ad) m c) (hl : news.length = m * size) (hnews : ∀ j u, news[j]? = some u → w.cell? (ad.add j) = some u) (h1 : ∀ u ∈ news, u.oneCell' = true)
    (hm : 0 < m) (h63 : n + m ≤ maxLen) (hbytes : (n + m) * bytes ≤ 140737488355328) (hbase : base ≤ w.heap.size)
    (h : ∀ v' w', w'.ownsRow base e size v' (n + m) (xs ++ news) → w.grownBy w' v.ownBlock → (∀ r, v'.ownBlock = some r → v.ownBlock = some r ∨ w.heap.size ≤ r) → K (a.put o.dst v') w') : if Region.wanted o (yielded ops a.tmps) = true then Oper.wp P o a w K Q else E := by
  have hwt : Region.wanted o (yielded ops a.tmps) = true := by simp [Region.wanted, hgd]
  rw [if_pos hwt]
  obtain ⟨v', w', hr, h2, h3, _⟩ := run_append_own (P := P) w base t o.type e i z size bytes ht hi hz hsize hby hzs hsz v n xs hown ad m c news hl hnews h1 h63 hbytes hbase
  have h4 := append_whereT ht hi hz hsize hby hown hl hnews h1 hm h63 hbytes hr
  unfold Oper.wp execOp
  simp only [ho, resolve, invoke, builtin, Sem.run_bind, Sem.run_pure, Result.andThen_ok, List.map_toArray, List.map_cons, List.map_nil, hs, hx, hr]
  exact h v' w' h2 h3 h4
end

/-! ### Expressions in cells -/
def XsC (Q : Nat → Prop) (w : World) : List Xp → List Value → Prop
  | [], c => c = []
  | e :: r, c => ∃ v0 v1 v2 c2, c = v0 :: v1 :: v2 :: c2 ∧ Tree Q w e (.agg #[v0, v1, v2]) ∧ XsC Q w r c2
theorem XsC.go {Q R : Nat → Prop} {w w' : World} (hz : w.heap.size ≤ w'.heap.size) (h : ∀ k, k < w.heap.size → ¬ Q k → w'.heap[k]? = w.heap[k]? ∧ ¬ R k) : ∀ {l : List Xp} {c : List Value}, XsC Q w l c → XsC R w' l c
  | [], _, hr => hr
  | _ :: _, _, ⟨v0, v1, v2, c2, e, h1, h2⟩ => ⟨v0, v1, v2, c2, e, Tree.go hz h h1, XsC.go hz h h2⟩
theorem XsC.below {Q : Nat → Prop} {w w' : World} {l : List Xp} {c : List Value} (h : XsC Q w l c) (hb : Below w.heap.size w w') : XsC Q w' l c := h.go hb.size (fun k hk hq => ⟨hb.block k hk, hq⟩)
theorem XsC.bars {Q R : Nat → Prop} {w : World} {l : List Xp} {c : List Value} (hx : XsC Q w l c) (h : ∀ k, k < w.heap.size → R k → Q k) : XsC R w l c := hx.go (Nat.le_refl _) fun k hk hk2 => ⟨rfl, fun hr => hk2 (h k hk hr)⟩
theorem XsC.len {Q : Nat → Prop} {w : World} : ∀ {l : List Xp} {c : List Value}, XsC Q w l c → c.length = l.length * 3
  | [], _, h => by rw [h]; rfl
  | _ :: _, _, ⟨v0, v1, v2, c2, e, h1, h2⟩ => by rw [e]; simp only [List.length_cons, h2.len]; omega
theorem XsC.snoc {Q : Nat → Prop} {w : World} {e : Xp} {v0 v1 v2 : Value} (hd : Tree Q w e (.agg #[v0, v1, v2])) : ∀ {l : List Xp} {c : List Value}, XsC Q w l c → XsC Q w (l ++ [e]) (c ++ [v0, v1, v2])
  | [], _, hr => ⟨v0, v1, v2, [], by rw [hr]; rfl, hd, rfl⟩
  | _ :: _, _, ⟨a0, a1, a2, c2, h, h1, h2⟩ => ⟨a0, a1, a2, c2 ++ [v0, v1, v2], by rw [h]; rfl, h1, XsC.snoc hd h2⟩
theorem XsC.at {Q : Nat → Prop} {w : World} : ∀ {l : List Xp} {c : List Value}, XsC Q w l c → ∀ (k : Nat) (hk : k < l.length), ∃ v0 v1 v2, Tree Q w l[k] (.agg #[v0, v1, v2]) ∧ c[k * 3]? = some v0 ∧ c[k * 3 + 1]? = some v1 ∧ c[k * 3 + 2]? = some v2
  | _ :: _, _, ⟨v0, v1, v2, c2, e, h1, h2⟩, 0, _ => ⟨v0, v1, v2, h1, by rw [e]; rfl, by rw [e]; rfl, by rw [e]; rfl⟩
  | _ :: _, _, ⟨v0, v1, v2, c2, e, h1, h2⟩, k + 1, hk => by
    obtain ⟨a0, a1, a2, t, g0, g1, g2⟩ := h2.at k (by simpa using hk)
    refine ⟨a0, a1, a2, t, ?_, ?_, ?_⟩ <;> rw [e]
    · rw [show (k + 1) * 3 = k * 3 + 1 + 1 + 1 by omega]; simpa using g0
    · rw [show (k + 1) * 3 + 1 = k * 3 + 1 + 1 + 1 + 1 by omega]; simpa using g1
    · rw [show (k + 1) * 3 + 2 = k * 3 + 2 + 1 + 1 + 1 by omega]; simpa using g2
theorem XsC.set {Q : Nat → Prop} {w : World} {y : Xp} {v0 v1 v2 : Value} (hd : Tree Q w y (.agg #[v0, v1, v2])) : ∀ {l : List Xp} {c : List Value} (k : Nat), XsC Q w l c → k < l.length → XsC Q w (l.set k y) (((c.set (k * 3) v0).set (k * 3 + 1) v1).set (k * 3 + 2) v2)
  | _ :: _, _, 0, ⟨a0, a1, a2, c2, h, h1, h2⟩, _ => ⟨v0, v1, v2, c2, by rw [h]; rfl, hd, h2⟩
  | _ :: _, _, k + 1, ⟨a0, a1, a2, c2, h, h1, h2⟩, hk => by
    refine ⟨a0, a1, a2, _, ?_, h1, XsC.set hd k h2 (by simpa using hk)⟩
    rw [h, show (k + 1) * 3 = k * 3 + 1 + 1 + 1 by omega, show k * 3 + 1 + 1 + 1 + 1 = k * 3 + 1 + 1 + 1 + 1 from rfl, show k * 3 + 1 + 1 + 1 + 2 = k * 3 + 2 + 1 + 1 + 1 by omega]
    rfl
/-- what a slice of expressions holds in its cells -/
theorem xsc_of {Q : Nat → Prop} {w : World} {a : Addr} : ∀ {l : List Xp} {i : Nat}, Trees Q w l (some a) i → ∃ c, XsC Q w l c ∧ ∀ j u, c[j]? = some u → w.cell? (a.add (i * 3 + j)) = some u
  | [], _, _ => ⟨[], rfl, fun j u h => by simp at h⟩
  | e :: r, i, h => by
    obtain ⟨⟨a', v0, v1, v2, ha, -, -, h0, h1, h2, ht⟩, hr⟩ := trees_cons.1 h
    cases ha
    obtain ⟨c, hc, hat⟩ := xsc_of hr
    refine ⟨v0 :: v1 :: v2 :: c, ⟨v0, v1, v2, c, rfl, ht, hc⟩, fun j u hj => ?_⟩
    match j, hj with
    | 0, hj => cases hj; exact h0
    | 1, hj => cases hj; exact h1
    | 2, hj => cases hj; exact h2
    | j + 3, hj =>
      have := hat j u (by simpa using hj)
      rw [show (i + 1) * 3 + j = i * 3 + (j + 3) by omega] at this
      exact this
/-- a node whose kids lie in a row of the call's own -/
theorem tree_row {Q R : Nat → Prop} {w : World} {B g : Nat} {o n : Int} {l : List Xp} {c : List Value} (hQ : ¬ R g) (h : Own w g c) (hx : XsC Q w l c) (hR : ∀ k, k < w.heap.size → R k → Q k) (cap : Nat) (hc : l.length ≤ min cap 9223372036854775807) : Tree R w (.mk o n l) (.agg #[.int .i64 o, .int .i64 n, .slice (some ⟨g, 0, none⟩) l.length cap]) := by
  refine tree_mk.2 ⟨_, cap, rfl, hc, trees_of h.lt hQ fun k hk => ?_⟩
  obtain ⟨v0, v1, v2, t, g0, g1, g2⟩ := (hx.bars hR).at k hk
  simp only [Nat.zero_add, xadd_zero0]
  exact ⟨v0, v1, v2, h.cell _ _ g0, h.cell _ _ g1, h.cell _ _ g2, t⟩
/-- the cells of a row of the call's own -/
theorem own_of_row {w : World} {base : Nat} {e : TypeId} {size n : Nat} {g cap : Nat} {xs : List Value} (h : w.ownsRow base e size (.slice (some ⟨g, 0, none⟩) n cap) n xs) : Own w g xs := by
  obtain ⟨_, ⟨h1, _⟩ | ⟨g', cap', cur, hv, _, hh, _, _, _, hct⟩⟩ := h
  · cases h1
  · cases hv
    refine ⟨fun i v hi => ?_, fun i v hi => ?_, (Array.getElem?_eq_some_iff.1 hh).1⟩
    · rw [← hct, List.getElem?_take] at hi
      split at hi
      · simp only [World.cell?, hh]; simpa using hi
      · cases hi
    · simp [World.frozen?, hh]
end Go.Proofs.Ytbkcpcjdpfndpaa
