/-
  Rates together: what the law that goes through them keeps, and a rate as one load reads it.
-/
import Derived.Test.YtbkcpcjdpfndpaaTypRow
import Derived.Test.YtbkcpcjdpfndpaaTypVal
namespace Go.Proofs.Ytbkcpcjdpfndpaa
open Go.RowKit Go.Shelf
set_option maxRecDepth 100000
set_option linter.unusedVariables false
set_option linter.unusedSimpArgs false

/-! ### Plain -/
def allF (A : Bool) (l : List Rg) (j : Nat) : Bool := A && (l.take j).all rateB && decide ((l.take j).map Rg.a0).Nodup
theorem allF_zero (A : Bool) (l : List Rg) : allF A l 0 = A := by simp [allF]
theorem allF_succ {A : Bool} {l : List Rg} {j : Nat} (hj : j < l.length) {ks : List Int} (hks : ∀ a, a ∈ ks ↔ a ∈ (l.take j).map Rg.a0) : allF A l (j + 1) = (allF A l j && rateB l[j] && !decide (l[j].a0 ∈ ks)) := by
  have h1 : (l.take (j + 1)).all rateB = ((l.take j).all rateB && rateB l[j]) := by rw [List.take_succ_eq_append_getElem hj, List.all_append]; simp
  have h2 : decide ((l.take (j + 1)).map Rg.a0).Nodup = (decide ((l.take j).map Rg.a0).Nodup && !decide (l[j].a0 ∈ ks)) := by
    by_cases hin : l[j].a0 ∈ (l.take j).map Rg.a0
    · have hn : ¬ ((l.take (j + 1)).map Rg.a0).Nodup := by
        rw [take_map hj, List.nodup_append]
        exact fun h => h.2.2 _ hin _ (by simp) rfl
      rw [decide_eq_false hn, decide_eq_true ((hks _).2 hin)]; simp
    · rw [decide_eq_false (fun h => hin ((hks _).1 h)), Bool.not_false, Bool.and_true]
      have : ((l.take (j + 1)).map Rg.a0).Nodup ↔ ((l.take j).map Rg.a0).Nodup := ⟨fun h => by rw [take_map hj, List.nodup_append] at h; exact h.1, fun h => nodup_more hj h hin⟩
      rw [decide_eq_decide.2 this]
  unfold allF
  rw [h1, h2]
  cases A <;> cases (l.take j).all rateB <;> cases rateB l[j] <;> cases decide ((l.take j).map Rg.a0).Nodup <;> simp
theorem allF_end (l : List Rg) : allF (decide (l.length ≤ 100)) l l.length = validG l := by unfold allF validG; rw [List.take_length]
theorem back_succ {l : List Rg} {j : Nat} (hj : j < l.length) : l.reverse.take (j + 1) = l.reverse.take j ++ [l[l.length - 1 - j]'(by omega)] := by
  rw [List.take_succ_eq_append_getElem (by simpa using hj)]
  simp only [List.getElem_reverse]
def lessL (l : List Rg) (K j : Nat) : List Rg := (l.take j).eraseIdx K
theorem less_same {l : List Rg} {K j : Nat} (h : j ≤ K) : lessL l K j = l.take j := by
  unfold lessL
  exact List.eraseIdx_of_length_le (by rw [List.length_take]; omega)
theorem less_skip {l : List Rg} {K : Nat} (hK : K < l.length) : lessL l K (K + 1) = lessL l K K := by
  rw [less_same (Nat.le_refl K)]
  unfold lessL
  rw [List.take_succ_eq_append_getElem hK, List.eraseIdx_append_of_length_le (by rw [List.length_take]; omega), List.length_take, Nat.min_eq_left (by omega), Nat.sub_self]
  simp
theorem less_succ {l : List Rg} {K j : Nat} (hj : j < l.length) (hne : j ≠ K) : lessL l K (j + 1) = lessL l K j ++ [l[j]] := by
  rcases Nat.lt_or_ge j K with h | h
  · rw [less_same (by omega : j + 1 ≤ K), less_same (by omega : j ≤ K), List.take_succ_eq_append_getElem hj]
  · unfold lessL
    rw [List.take_succ_eq_append_getElem hj, List.eraseIdx_append_of_lt_length (by rw [List.length_take]; omega)]
theorem less_len (l : List Rg) (K j : Nat) : (lessL l K j).length ≤ j := by
  unfold lessL
  have h1 := List.length_eraseIdx_le (l.take j) K
  rw [List.length_take] at h1
  omega
theorem less_end (l : List Rg) (K : Nat) : lessL l K l.length = l.eraseIdx K := by unfold lessL; rw [List.take_length]
theorem back_end (l : List Rg) : l.reverse.take l.length = l.reverse := by rw [← List.length_reverse, List.take_length]
theorem few_len {l : List Rg} (h : fewR l = true) : l.length ≤ 105 := by
  unfold fewR at h
  simp only [Bool.and_eq_true, decide_eq_true_eq] at h
  exact h.1

/-! ### Loads and appends -/
theorem add_addT (a : Addr) (m j : Nat) : (a.add m).add j = a.add (m + j) := by
  unfold Addr.add
  by_cases hj : j = 0
  · subst hj; simp
  · rw [if_neg hj, if_neg (by omega : ¬ m + j = 0)]
    split
    · next h => subst h; simp
    · simp; omega
theorem RgS.row {w : World} {ad : Option Addr} {cap : Nat} {rs : List Rg} (h : RgS w (.slice ad rs.length cap) rs) (k : Nat) (hk : k < rs.length) : ∃ a ad1 cap1 ad2 cap2, ad = some a ∧ (a.add (k * 16)).block < w.heap.size ∧
    RgV (fun _ => False) w rs[k] (rgC rs[k] (.slice ad1 (rs[k]).when.ks.length cap1) (.slice ad2 (rs[k]).price.ks.length cap2)) ∧
    ∀ j v, (rgC rs[k] (.slice ad1 (rs[k]).when.ks.length cap1) (.slice ad2 (rs[k]).price.ks.length cap2))[j]? = some v → w.cell? ((a.add (k * 16)).add j) = some v := by
  obtain ⟨ad', cap', cells, e, hl, hc, h1⟩ := h
  have e1 : ad = ad' := by injection e
  subst e1
  rcases h1 with rfl | ⟨a, rfl, h3, h4⟩
  · simp at hk
  · obtain ⟨c1, hr, hat⟩ := hc.at k hk
    obtain ⟨ad1, cap1, ad2, cap2, rfl, t1, t2⟩ := hr
    exact ⟨a, ad1, cap1, ad2, cap2, rfl, by rw [tblk_add]; exact h3, ⟨ad1, cap1, ad2, cap2, rfl, t1, t2⟩, fun j v hj => by rw [add_addT]; exact h4 _ _ (hat j v hj)⟩
/-- cells of a block below stand in each later world -/
theorem range_below {w w1 : World} {p : Addr} {cs : List Value} (h : ∀ j v, cs[j]? = some v → w.cell? (p.add j) = some v) (hb : Below w.heap.size w w1) (hp : p.block < w.heap.size) : ∀ j v, cs[j]? = some v → w1.cell? (p.add j) = some v :=
  fun j v hj => (World.cell?_of_block (a := p.add j) (hb.block _ (by rw [tblk_add]; exact hp))).trans (h j v hj)
theorem rgC_one (r : Rg) (p1 p2 : Option Addr) (n1 n2 c1 c2 : Nat) : ∀ u ∈ rgC r (.slice p1 n1 c1) (.slice p2 n2 c2), u.oneCell' = true := by
  intro u hu
  unfold rgC at hu
  simp only [List.mem_cons, List.not_mem_nil, or_false] at hu
  rcases hu with rfl | rfl | rfl | rfl | rfl | rfl | rfl | rfl | rfl | rfl | rfl | rfl | rfl | rfl | rfl | rfl <;> rfl
section
variable {P : Program}
theorem wpList_append_atG {ops : Array Oper} {rest : List Oper} {o : Oper} {a : Act} {w : World} {Q : Exit → Act → World → Prop} (hgd : Region.wanted o (yielded ops a.tmps) = true) (s x : Operand) (t : TypeId)
    (ho : o.op = .call { callee := .builtin .append, args := #[s, x], argTypes := #[t, t] })
    (base : Nat) (e : TypeId) (i : TypeInfo) (z : Value) (size bytes : Nat) (ht : P.underlying t = some (.slice e)) (hi : P.info? e = some i) (hz : i.zero = some z)
    (hsize : i.size = size) (hby : i.bytes = bytes) (hzs : z.cells.size = size) (hsz : 0 < size)
    (v : Value) (n : Nat) (xs : List Value) (hs : a.eval s = v) (hown : w.ownsRow base e size v n xs)
    (ad : Addr) (m c : Nat) (news : List Value) (hx : a.eval x = .slice (some ad) m c) (hl : news.length = m * size) (hnews : ∀ j u, news[j]? = some u → w.cell? (ad.add j) = some u) (h1 : ∀ u ∈ news, u.oneCell' = true)
    (hm : 0 < m) (h63 : n + m ≤ maxLen) (hbytes : (n + m) * bytes ≤ 140737488355328) (hbase : base ≤ w.heap.size)
    (h : ∀ v' w', w'.ownsRow base e size v' (n + m) (xs ++ news) → w.grownBy w' v.ownBlock → (∀ r, v'.ownBlock = some r → v.ownBlock = some r ∨ w.heap.size ≤ r) → wpList P ops Q rest (a.put o.dst v') w') : wpList P ops Q (o :: rest) a w :=
  wpList_step fun K hK => by
    rw [if_pos hgd]
    obtain ⟨v', w', hr, h2, h3, _⟩ := run_append_own (P := P) w base t o.type e i z size bytes ht hi hz hsize hby hzs hsz v n xs hown ad m c news hl hnews h1 h63 hbytes hbase
    have h4 := append_whereT ht hi hz hsize hby hown hl hnews h1 hm h63 hbytes hr
    unfold Oper.wp execOp
    simp only [ho, resolve, invoke, builtin, Sem.run_bind, Sem.run_pure, Result.andThen_ok, List.map_toArray, List.map_cons, List.map_nil, hs, hx, hr]
    exact hK _ _ (h v' w' h2 h3 h4)
end
theorem Try.infoRateT : (Try.prog.info? 30).map (fun i => (i.zero, i.size, i.bytes)) = some (some (.agg #[.int .i64 0, .int .i64 0, .int .i64 0, .int .i64 0, .int .i64 0, .int .i64 0, .int .i64 0, .int .i64 0, .int .i64 0, .int .i64 0, .int .i64 0, .int .i64 0, .slice none 0 0, .int .i64 0, .int .i64 0, .slice none 0 0]), 16, 160) := by kernel_rfl
/-- an append to another row leaves this one -/
theorem town_grown {w w' : World} {base : Nat} {e : TypeId} {size n : Nat} {v : Value} {xs : List Value} {row : Option Nat} (h : w.ownsRow base e size v n xs) (hg : w.grownBy w' row) (hne : ∀ r, v.ownBlock = some r → row ≠ some r) : w'.ownsRow base e size v n xs :=
  h.kept hg (by
    cases hv : v.ownBlock with
    | none => exact .inl rfl
    | some r => exact .inr fun e => hne r hv (by rw [← e]))
theorem town_kept {w w' : World} {base : Nat} {e : TypeId} {size n m : Nat} {v : Value} {xs : List Value} (h : w.ownsRow base e size v n xs) (hk : Kept (some m) w w') (hne : ∀ r, v.ownBlock = some r → r ≠ m) : w'.ownsRow base e size v n xs := by
  obtain ⟨h0, h1 | ⟨g, cap, cur, hv, hg, hh, hr⟩⟩ := h
  · exact ⟨h0, .inl h1⟩
  · refine ⟨h0, .inr ⟨g, cap, cur, hv, hg, (hk.block g (Array.getElem?_eq_some_iff.1 hh).1 (fun e => ?_)).trans hh, hr⟩⟩
    exact hne g (by rw [hv]; rfl) (Option.some.inj e).symm
end Go.Proofs.Ytbkcpcjdpfndpaa
