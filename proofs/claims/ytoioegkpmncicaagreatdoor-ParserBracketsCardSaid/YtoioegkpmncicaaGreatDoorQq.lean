/-
  Where an append writes; many cells stored; rates in memory.
-/
import Derived.Test.YtoioegkpmncicaaGreatDoorQj
import Derived.Test.YtoioegkpmncicaaGreatDoorQh
import Derived.Laws.AppendOwn
import Derived.Test.YtoioegkpmncicaaGreatDoorQm
namespace Go.Proofs.YtoioegkpmncicaaGreatDoor
open Go.RowKit Go.Shelf
set_option maxRecDepth 100000

section
variable {P : Program}
/-- an append writes the row that it was given, or makes a new one -/
theorem append_where {w : World} {base : Nat} {t ty e : TypeId} {i : TypeInfo} {z : Value} {size bytes : Nat} (ht : P.underlying t = some (.slice e)) (hi : P.info? e = some i) (hz : i.zero = some z) (hsize : i.size = size) (hby : i.bytes = bytes)
    {v : Value} {n : Nat} {xs : List Value} (hown : w.ownsRow base e size v n xs) {a : Addr} {m c : Nat} {news : List Value} (hl : news.length = m * size) (hnews : ∀ j u, news[j]? = some u → w.cell? (a.add j) = some u) (h1 : ∀ u ∈ news, u.oneCell' = true)
    (hm : 0 < m) (h63 : n + m ≤ maxLen) (hbytes : (n + m) * bytes ≤ 140737488355328) {v' : Value} {w' : World} (hr : (Builtin.append_ #[t, t] ty #[v, .slice (some a) m c]).run P w = .ok v' w') :
    ∀ r, v'.ownBlock = some r → v.ownBlock = some r ∨ w.heap.size ≤ r := by
  subst hsize hby
  have h63' : n + m ≤ 9223372036854775807 := by simp only [maxLen] at h63; omega
  rcases hown.2 with ⟨rfl, rfl⟩ | ⟨g, cap, cur, rfl, _, hg, _, _, hcs, _⟩
  · have hb : m * i.bytes ≤ 281474976710656 := by have := hbytes; simp only [Nat.zero_add] at this; omega
    rw [run_append_nil (P := P) w t ty e i z ht hi hz a m c news hl hnews hm (by omega) hb] at hr
    injection hr with h2 h3
    subst h2
    intro r h
    exact .inr (by simp only [Value.ownBlock, Option.some.injEq] at h; omega)
  · by_cases hroom : n + m ≤ cap
    · have hfit : n * i.size + news.length ≤ cur.size := by rw [hl, hcs, ← Nat.add_mul]; exact Nat.mul_le_mul_right _ hroom
      rw [run_append_room (P := P) w t ty e i ht hi g n cap cur hg a m c news hl hnews h1 hroom hfit] at hr
      injection hr with h2 h3
      subst h2
      intro r h
      exact .inl h
    · rw [run_append_grow (P := P) w t ty e i z ht hi hz ⟨g, 0, none⟩ n cap xs hown.1 (hown.cells (g := g) rfl) a m c news hl hnews (by omega) (by omega) (growslice_fits (by omega) hbytes)] at hr
      injection hr with h2 h3
      subst h2
      intro r h
      exact .inr (by simp only [Value.ownBlock, Option.some.injEq] at h; omega)
theorem wpList_append_at {ops : Array Oper} {rest : List Oper} {o : Oper} {a : Act} {w : World} {Q : Exit → Act → World → Prop} (hgd : o.guard = none) (s x : Operand) (t : TypeId)
    (ho : o.op = .call { callee := .builtin .append, args := #[s, x], argTypes := #[t, t] })
    (base : Nat) (e : TypeId) (i : TypeInfo) (z : Value) (size bytes : Nat) (ht : P.underlying t = some (.slice e)) (hi : P.info? e = some i) (hz : i.zero = some z)
    (hsize : i.size = size) (hby : i.bytes = bytes) (hzs : z.cells.size = size) (hsz : 0 < size)
    (v : Value) (n : Nat) (xs : List Value) (hs : a.eval s = v) (hown : w.ownsRow base e size v n xs)
    (ad : Addr) (m c : Nat) (news : List Value) (hx : a.eval x = .slice (some ad) m c) (hl : news.length = m * size) (hnews : ∀ j u, news[j]? = some u → w.cell? (ad.add j) = some u) (h1 : ∀ u ∈ news, u.oneCell' = true)
    (hm : 0 < m) (h63 : n + m ≤ maxLen) (hbytes : (n + m) * bytes ≤ 140737488355328) (hbase : base ≤ w.heap.size)
    (h : ∀ v' w', w'.ownsRow base e size v' (n + m) (xs ++ news) → w.grownBy w' v.ownBlock → (∀ r, v'.ownBlock = some r → v.ownBlock = some r ∨ w.heap.size ≤ r) → wpList P ops Q rest (a.put o.dst v') w') : wpList P ops Q (o :: rest) a w :=
  wpList_plain hgd fun K hK => by
    obtain ⟨v', w', hr, h2, h3, _⟩ := run_append_own (P := P) w base t o.type e i z size bytes ht hi hz hsize hby hzs hsz v n xs hown ad m c news hl hnews h1 h63 hbytes hbase
    have h4 := append_where ht hi hz hsize hby hown hl hnews h1 hm h63 hbytes hr
    unfold Oper.wp execOp
    simp only [ho, resolve, invoke, builtin, Sem.run_bind, Sem.run_pure, Result.andThen_ok, List.map_toArray, List.map_cons, List.map_nil, hs, hx, hr]
    exact hK _ _ (h v' w' h2 h3 h4)
end

/-! ### Many cells stored -/
def setN (w : World) (B : Nat) : Nat → List Value → World
  | _, [] => w
  | o, v :: r => setN (w.setCell ⟨B, o, none⟩ v) B (o + 1) r
theorem Kept.setN {p B : Nat} {a : World} (hB : a.heap.size ≤ B) : ∀ {vs : List Value} {o : Nat} {w : World}, Kept (some p) a w → Kept (some p) a (Go.Proofs.YtoioegkpmncicaaGreatDoor.setN w B o vs)
  | [], _, _, h => h
  | v :: r, o, _, h => Kept.setN hB (vs := r) (o := o + 1) (h.set (b := ⟨B, o, none⟩) (.inr hB) v)
theorem Below.setN {b B : Nat} {a : World} (hB : b ≤ B) : ∀ {vs : List Value} {o : Nat} {w : World}, Below b a w → Below b a (Go.Proofs.YtoioegkpmncicaaGreatDoor.setN w B o vs)
  | [], _, _, h => h
  | v :: r, o, _, h => Below.setN hB (vs := r) (o := o + 1) (h.setCell (p := ⟨B, o, none⟩) hB v)
theorem Tree.setN {Q : Nat → Prop} {B : Nat} (hB : Q B) {e : Xp} {u : Value} : ∀ {vs : List Value} {o : Nat} {w : World}, Tree Q w e u → Tree Q (Go.Proofs.YtoioegkpmncicaaGreatDoor.setN w B o vs) e u
  | [], _, _, h => h
  | v :: r, o, _, h => Tree.setN hB (vs := r) (o := o + 1) (h.set (b := ⟨B, o, none⟩) v hB)
theorem Own.offN {C B : Nat} {xs : List Value} (hB : B ≠ C) : ∀ {vs : List Value} {o : Nat} {w : World}, Own w C xs → Own (Go.Proofs.YtoioegkpmncicaaGreatDoor.setN w B o vs) C xs
  | [], _, _, h => h
  | v :: r, o, _, h => Own.offN hB (vs := r) (o := o + 1) (h.setCell (p := ⟨B, o, none⟩) hB v)
theorem Own.putN' {B : Nat} : ∀ {vs xs : List Value} {o : Nat} {w : World} (a : List Value), a.length = o → xs.length = vs.length → Own w B (a ++ xs) → Own (Go.Proofs.YtoioegkpmncicaaGreatDoor.setN w B o vs) B (a ++ vs)
  | [], xs, o, w, a, _, hl, h => by rw [List.length_nil, List.length_eq_zero_iff] at hl; subst hl; exact h
  | v :: r, xs, o, w, a, ha, hl, h => by
    cases xs with
    | nil => simp at hl
    | cons x xs =>
      have h2 := h.setAt (i := o) v (by simp; omega)
      have e : (a ++ x :: xs).set o v = (a ++ [v]) ++ xs := by
        rw [List.set_append_right _ _ (by omega), show o - a.length = 0 by omega]
        simp
      rw [e] at h2
      have := Own.putN' (vs := r) (xs := xs) (o := o + 1) (a ++ [v]) (by simp; omega) (by simpa using hl) h2
      rw [List.append_assoc] at this
      exact this
theorem Own.putN {B : Nat} {vs xs : List Value} {w : World} (h : Own w B xs) (hl : xs.length = vs.length) : Own (Go.Proofs.YtoioegkpmncicaaGreatDoor.setN w B 0 vs) B vs := Own.putN' [] rfl hl h
theorem St.setN {W0 : World} {v : Value} {m : Nat} {L : List Tok} {i B : Nat} (hB : W0.heap.size < B) : ∀ {vs : List Value} {o : Nat} {w : World}, St W0 v m L i w → St W0 v m L i (Go.Proofs.YtoioegkpmncicaaGreatDoor.setN w B o vs)
  | [], _, _, h => h
  | u :: r, o, w, h => St.setN hB (vs := r) (o := o + 1) ⟨h.base.setCell (p := ⟨B, o, none⟩) (Nat.le_of_lt hB) u, h.own.setCell (p := ⟨B, o, none⟩) (by simp; omega) u, h.le⟩

/-! ### Rates -/
structure Rt where
  a0 : Nat
  a1 : Nat
  a2 : Nat
  a3 : Nat
  a4 : Nat
  a5 : Nat
  a6 : Nat
  a7 : Nat
  c : Nat
  when : Xp
  price : Xp
def Rt.list (r : Rt) : List Xp := [leafE 1 r.a0, leafE 1 r.a1, leafE 1 r.a2, leafE 1 r.a3, leafE 1 r.a4, leafE 1 r.a5, leafE 1 r.a6, leafE 1 r.a7, leafE 1 r.c, r.when, r.price]
def Rt.kn (r : Rt) : Int := (mkF r.c 100).1
def Rt.kd (r : Rt) : Int := (mkF r.c 100).2.1
/-- the sixteen cells of a rate -/
def rateC (r : Rt) (x y : Value) : List Value := [.int .i64 (r.a0 : Nat), .int .i64 (r.a1 : Nat), .int .i64 (r.a2 : Nat), .int .i64 (r.a3 : Nat), .int .i64 (r.a4 : Nat), .int .i64 (r.a5 : Nat), .int .i64 (r.a6 : Nat), .int .i64 (r.a7 : Nat), .int .i64 r.kn, .int .i64 r.kd,
  .int .i64 r.when.o, .int .i64 r.when.n, x, .int .i64 r.price.o, .int .i64 r.price.n, y]
def RateV (Q : Nat → Prop) (w : World) (r : Rt) (cells : List Value) : Prop := ∃ ad cap ad2 cap2, cells = rateC r (.slice ad r.when.ks.length cap) (.slice ad2 r.price.ks.length cap2) ∧
  Tree Q w r.when (.agg #[.int .i64 r.when.o, .int .i64 r.when.n, .slice ad r.when.ks.length cap]) ∧ Tree Q w r.price (.agg #[.int .i64 r.price.o, .int .i64 r.price.n, .slice ad2 r.price.ks.length cap2])
theorem RateV.go {Q R : Nat → Prop} {w w' : World} (hz : w.heap.size ≤ w'.heap.size) (h : ∀ k, k < w.heap.size → ¬ Q k → w'.heap[k]? = w.heap[k]? ∧ ¬ R k) {r : Rt} {c : List Value} (hr : RateV Q w r c) : RateV R w' r c := by
  obtain ⟨ad, cap, ad2, cap2, e, h1, h2⟩ := hr
  exact ⟨ad, cap, ad2, cap2, e, Tree.go hz h h1, Tree.go hz h h2⟩
def RatesC (Q : Nat → Prop) (w : World) : List Rt → List Value → Prop
  | [], c => c = []
  | r :: rs, c => ∃ c1 c2, c = c1 ++ c2 ∧ RateV Q w r c1 ∧ RatesC Q w rs c2
theorem RatesC.go {Q R : Nat → Prop} {w w' : World} (hz : w.heap.size ≤ w'.heap.size) (h : ∀ k, k < w.heap.size → ¬ Q k → w'.heap[k]? = w.heap[k]? ∧ ¬ R k) : ∀ {rs : List Rt} {c : List Value}, RatesC Q w rs c → RatesC R w' rs c
  | [], _, hr => hr
  | _ :: _, _, ⟨c1, c2, e, h1, h2⟩ => ⟨c1, c2, e, h1.go hz h, RatesC.go hz h h2⟩
theorem RatesC.snoc {Q : Nat → Prop} {w : World} {r : Rt} {d : List Value} (hd : RateV Q w r d) : ∀ {rs : List Rt} {c : List Value}, RatesC Q w rs c → RatesC Q w (rs ++ [r]) (c ++ d)
  | [], _, hr => ⟨d, [], by rw [hr]; simp, hd, rfl⟩
  | x :: rs, _, ⟨c1, c2, e, h1, h2⟩ => ⟨c1, c2 ++ d, by rw [e, List.append_assoc], h1, RatesC.snoc hd h2⟩
theorem RateV.len {Q : Nat → Prop} {w : World} {r : Rt} {c : List Value} (h : RateV Q w r c) : c.length = 16 := by
  obtain ⟨_, _, _, _, rfl, _, _⟩ := h; rfl
theorem RatesC.len {Q : Nat → Prop} {w : World} : ∀ {rs : List Rt} {c : List Value}, RatesC Q w rs c → c.length = rs.length * 16
  | [], _, h => by rw [h]; rfl
  | r :: rs, _, ⟨c1, c2, e, h1, h2⟩ => by rw [e, List.length_append, h1.len, RatesC.len h2, List.length_cons]; omega
theorem RatesC.app {Q : Nat → Prop} {w : World} {ss : List Rt} {d : List Value} (hd : RatesC Q w ss d) : ∀ {rs : List Rt} {c : List Value}, RatesC Q w rs c → RatesC Q w (rs ++ ss) (c ++ d)
  | [], _, hr => by rw [hr]; exact hd
  | x :: rs, _, ⟨c1, c2, e, h1, h2⟩ => ⟨c1, c2 ++ d, by rw [e, List.append_assoc], h1, RatesC.app hd h2⟩
/-- the cells of the rate at a place -/
theorem RatesC.at {Q : Nat → Prop} {w : World} : ∀ {rs : List Rt} {c : List Value}, RatesC Q w rs c → ∀ (k : Nat) (hk : k < rs.length), ∃ c1, RateV Q w rs[k] c1 ∧ ∀ j u, c1[j]? = some u → c[k * 16 + j]? = some u
  | _ :: _, _, ⟨c1, c2, e, h1, _⟩, 0, _ => ⟨c1, h1, fun j u hj => by rw [e, Nat.zero_mul, Nat.zero_add, List.getElem?_append_left (List.getElem?_eq_some_iff.1 hj).1]; exact hj⟩
  | r :: rs, _, ⟨c1, c2, e, h1, h2⟩, k + 1, hk => by
    obtain ⟨d, hd, hc⟩ := RatesC.at h2 k (by simpa using hk)
    refine ⟨d, hd, fun j u hj => ?_⟩
    rw [e, List.getElem?_append_right (by rw [h1.len]; omega), h1.len, show (k + 1) * 16 + j - 16 = k * 16 + j by omega]
    exact hc j u hj
end Go.Proofs.YtoioegkpmncicaaGreatDoor
namespace Go.Proofs.YtoioegkpmncicaaGreatDoor
open Go.RowKit Go.Shelf
set_option maxRecDepth 100000
variable {W0 : World} {v : Value} {m : Nat} {L : List Tok}

/-- a number is read, by what follows, or the call panics -/
def NEnd (W0 : World) (v : Value) (m : Nat) (L : List Tok) (pre : List Item) (i k : Nat) (w : World) (e : Ending) (w' : World) : Prop :=
  (∃ c : Nat, (∀ is l r, G (.seq is) (L.drop (i + k)) (.ok l r) → G (.seq (pre ++ is)) (L.drop i) (.ok (leafE 1 c :: l) r)) ∧ (∀ is r, G (.seq is) (L.drop (i + k)) (.bad r) → G (.seq (pre ++ is)) (L.drop i) (.bad r)) ∧
    e = .returned (.int .i64 (c : Nat)) ∧ Kept (some W0.heap.size) w w' ∧ St W0 v m L (i + k) w') ∨
  (∃ j, (∀ is, G (.seq (pre ++ is)) (L.drop i) (.bad (L.drop j))) ∧ Dies 8 (lineAt L (L.drop j) : Nat) (some W0.heap.size) w e w')
theorem num_end {i : Nat} {w w' : World} {e : Ending} (h : NumEnd W0 v m L i w e w') : NEnd W0 v m L [.num] i 1 w e w' := by
  rcases h with ⟨x, r, hd, hk, rfl, h1, h2⟩ | ⟨hn, h1⟩
  · have hi : i < L.length := by
      rcases Nat.lt_or_ge i L.length with hl | hl
      · exact hl
      · rw [List.drop_of_length_le hl] at hd; cases hd
    have e : L.drop i = x :: L.drop (i + 1) := by
      rw [List.drop_eq_getElem_cons hi] at hd ⊢
      rw [(List.cons.inj hd).1]
    exact .inl ⟨cents x.t, fun is l r g => G.at e (g_num hk g), fun is r g => G.at e (g_numLater hk g), rfl, h1, h2⟩
  · refine .inr ⟨i, fun is => ?_, h1⟩
    cases hq : L.drop i with
    | nil => exact g_numEnd
    | cons x r => exact g_numBad (hn x r hq)
set_option maxHeartbeats 800000 in
theorem after_any (hE : Env W0 v m L) (t : List UInt8) (ht : t ≠ []) (i : Nat) (w : World) (hS : St W0 v m L i w) : Calls Tryz.prog 98 #[.pointer (some ⟨W0.heap.size, 0, none⟩), .string ⟨t.toArray⟩] w (NEnd W0 v m L [.lit t, .num] i 2 w) := by
  have hP := hS.own.lt
  go_enter Tryz.func98, Tryz.ntmps98
  go_wp2_with fail
  refine (need_any hE t ht i _ hS).mono ?_
  rintro e w1 (⟨q1, rfl, kk, s1⟩ | ⟨q1, rfl, kk⟩)
  case inr =>
    go_wp2_with fail
    exact bodyPost_panic rfl (.inr ⟨i, fun is => g_litBad q1, rfl, kk⟩)
  obtain ⟨y, d1, e1⟩ := need_cons q1
  go_wp2_with fail
  refine (number_any hE (i + 1) _ s1).mono ?_
  rintro e w2 h2
  rcases num_end h2 with ⟨c, g1, g2, rfl, k2, s2⟩ | ⟨j, g1, rfl, k2⟩
  · go_wp2_with fail
    go_ret
    exact .inl ⟨c, fun is l r g => G.at d1 (g_lit e1 (g1 is l r g)), fun is r g => G.at d1 (g_lit e1 (g2 is r g)), rfl, kk.trans k2, s2⟩
  · go_wp2_with fail
    exact bodyPost_panic rfl (.inr ⟨j, fun is => G.at d1 (g_lit e1 (g1 is)), rfl, kk.trans k2⟩)
/-- the part that is kept -/
def KeepEnd (W0 : World) (v : Value) (m : Nat) (L : List Tok) (i : Nat) (w : World) (e : Ending) (w' : World) : Prop :=
  (∃ c : Nat, (∀ is l r, G (.seq is) (L.drop (i + 3)) (.ok l r) → G (.seq ([.lit wKeep, .num, .lit wPart] ++ is)) (L.drop i) (.ok (leafE 1 c :: l) r)) ∧ (∀ is r, G (.seq is) (L.drop (i + 3)) (.bad r) → G (.seq ([.lit wKeep, .num, .lit wPart] ++ is)) (L.drop i) (.bad r)) ∧
    e = .returned (.agg #[.int .i64 (mkF c 100).1, .int .i64 (mkF c 100).2.1]) ∧ Kept (some W0.heap.size) w w' ∧ St W0 v m L (i + 3) w') ∨
  (∃ j, (∀ is, G (.seq ([.lit wKeep, .num, .lit wPart] ++ is)) (L.drop i) (.bad (L.drop j))) ∧ Dies 8 (lineAt L (L.drop j) : Nat) (some W0.heap.size) w e w')
set_option maxHeartbeats 800000 in
theorem keep_any (hE : Env W0 v m L) (i : Nat) (w : World) (hS : St W0 v m L i w) : Calls Tryz.prog 99 #[.pointer (some ⟨W0.heap.size, 0, none⟩)] w (KeepEnd W0 v m L i w) := by
  have hP := hS.own.lt
  have k := (Kept.refl (some W0.heap.size) w).alloc (.cells #[.int .i64 0, .int .i64 0] 45)
  have o2 := Own.new w #[.int .i64 0, .int .i64 0] 45
  go_enter Tryz.func99, Tryz.ntmps99
  go_wp2_with fail
  refine (after_any hE wKeep (by decide) i _ (hS.alloc _)).mono ?_
  rintro e w1 (⟨c, g1, g2, rfl, kk, s1⟩ | ⟨j, g1, rfl, kk⟩)
  case inr =>
    go_wp2_with fail
    exact bodyPost_panic rfl (.inr ⟨j, fun is => g1 (.lit wPart :: is), rfl, k.trans kk⟩)
  replace o2 := kk.own o2 (by simp; omega)
  replace k := k.trans kk
  clear kk
  go_wp2_with fail
  refine (need_any hE wPart (by decide) (i + 2) _ s1).mono ?_
  rintro e w2 (⟨q2, rfl, kk, s2⟩ | ⟨q2, rfl, kk⟩)
  case inr =>
    go_wp2_with fail
    exact bodyPost_panic rfl (.inr ⟨i + 2, fun is => g2 (.lit wPart :: is) _ (g_litBad q2), rfl, k.trans kk⟩)
  obtain ⟨y, d1, e1⟩ := need_cons q2
  replace o2 := kk.own o2 (by simp; omega)
  replace k := k.trans kk
  have HA : Hid (∀ is l r, G (.seq is) (L.drop (i + 3)) (.ok l r) → G (.seq ([.lit wKeep, .num, .lit wPart] ++ is)) (L.drop i) (.ok (leafE 1 c :: l) r)) := Lib.hid fun is l r g => g1 (.lit wPart :: is) l r (G.at d1 (g_lit e1 g))
  have HB : Hid (∀ is r, G (.seq is) (L.drop (i + 3)) (.bad r) → G (.seq ([.lit wKeep, .num, .lit wPart] ++ is)) (L.drop i) (.bad r)) := Lib.hid fun is r g => g2 (.lit wPart :: is) r (G.at d1 (g_lit e1 g))
  clear kk g1 g2 q2 d1 e1 s1
  have hmk := fun w => make_any (c : Int) 100 w
  unfold resV at hmk
  go_wp2_with fail
  refine (hmk _).mono ?_
  rintro e w3 ⟨rfl, hb⟩
  replace o2 := o2.below hb
  replace k := k.later hb
  replace s2 := s2.below hb
  generalize hkn : (mkF (c : Int) 100).1 = kn at *
  generalize hkd : (mkF (c : Int) 100).2.1 = kd at *
  have HKN := Lib.hid hkn
  have HKD := Lib.hid hkd
  clear hkn hkd
  have o4 := Own.new w3 #[.int .i64 kn, .int .i64 kd] 45
  replace o2 := o2.alloc (.cells #[.int .i64 kn, .int .i64 kd] 45)
  obtain ⟨a0, a1, a2, a3, a4⟩ := o2.two
  obtain ⟨b0, b1, b2, b3, b4⟩ := o4.two
  clear hmk hb
  go_wp2_with fail
  clear a0 a1 a2 a3 b0 b1 b2 b3
  refine ret_cells (vs := [.int .i64 kn, .int .i64 kd]) rfl Tryz.underlying45 rfl (by kernel_rfl) (B := w.heap.size) ((o2.setAt (i := 0) (.int .i64 kn) (by simp)).setAt (i := 1) (.int .i64 kd) (by simp)) rfl rfl ?_
  exact .inl ⟨c, HA.out, HB.out, by rw [HKN.out, HKD.out], ((k.alloc _).set (b := ⟨w.heap.size, 0, none⟩) (.inr (Nat.le_refl _)) _).set (b := ⟨w.heap.size, 1, none⟩) (.inr (Nat.le_refl _)) _, St.setN (B := w.heap.size) (by omega) (vs := [.int .i64 kn, .int .i64 kd]) (o := 0) (s2.alloc _)⟩

theorem St.set2 {i : Nat} {w : World} (h : St W0 v m L i w) {B : Nat} (hB : W0.heap.size < B) (x y : Value) : St W0 v m L i ((w.setCell ⟨B, 0, none⟩ x).setCell ⟨B, 1, none⟩ y) := h.setN (B := B) hB (vs := [x, y]) (o := 0)
abbrev z16 : Array Value := #[.int .i64 0, .int .i64 0, .int .i64 0, .int .i64 0, .int .i64 0, .int .i64 0, .int .i64 0, .int .i64 0, .int .i64 0, .int .i64 0, .int .i64 0, .int .i64 0, .slice none 0 0, .int .i64 0, .int .i64 0, .slice none 0 0]
theorem Own.facts {w : World} {B : Nat} {x0 x1 x2 x3 x4 x5 x6 x7 x8 x9 x10 x11 x12 x13 x14 x15 : Value} (h : Own w B [x0, x1, x2, x3, x4, x5, x6, x7, x8, x9, x10, x11, x12, x13, x14, x15]) : w.cell? ⟨B, 0, none⟩ = some x0 ∧ w.cell? ⟨B, 1, none⟩ = some x1 ∧ w.cell? ⟨B, 2, none⟩ = some x2 ∧ w.cell? ⟨B, 3, none⟩ = some x3 ∧ w.cell? ⟨B, 4, none⟩ = some x4 ∧ w.cell? ⟨B, 5, none⟩ = some x5 ∧ w.cell? ⟨B, 6, none⟩ = some x6 ∧ w.cell? ⟨B, 7, none⟩ = some x7 ∧ w.cell? ⟨B, 8, none⟩ = some x8 ∧ w.cell? ⟨B, 9, none⟩ = some x9 ∧ w.cell? ⟨B, 10, none⟩ = some x10 ∧ w.cell? ⟨B, 11, none⟩ = some x11 ∧ w.cell? ⟨B, 12, none⟩ = some x12 ∧ w.cell? ⟨B, 13, none⟩ = some x13 ∧ w.cell? ⟨B, 14, none⟩ = some x14 ∧ w.cell? ⟨B, 15, none⟩ = some x15 ∧ w.frozen? ⟨B, 0, none⟩ = false ∧ w.frozen? ⟨B, 1, none⟩ = false ∧ w.frozen? ⟨B, 2, none⟩ = false ∧ w.frozen? ⟨B, 3, none⟩ = false ∧ w.frozen? ⟨B, 4, none⟩ = false ∧ w.frozen? ⟨B, 5, none⟩ = false ∧ w.frozen? ⟨B, 6, none⟩ = false ∧ w.frozen? ⟨B, 7, none⟩ = false ∧ w.frozen? ⟨B, 8, none⟩ = false ∧ w.frozen? ⟨B, 9, none⟩ = false ∧ w.frozen? ⟨B, 10, none⟩ = false ∧ w.frozen? ⟨B, 11, none⟩ = false ∧ w.frozen? ⟨B, 12, none⟩ = false ∧ w.frozen? ⟨B, 13, none⟩ = false ∧ w.frozen? ⟨B, 14, none⟩ = false ∧ w.frozen? ⟨B, 15, none⟩ = false ∧ B < w.heap.size :=
  ⟨h.cell 0 _ rfl, h.cell 1 _ rfl, h.cell 2 _ rfl, h.cell 3 _ rfl, h.cell 4 _ rfl, h.cell 5 _ rfl, h.cell 6 _ rfl, h.cell 7 _ rfl, h.cell 8 _ rfl, h.cell 9 _ rfl, h.cell 10 _ rfl, h.cell 11 _ rfl, h.cell 12 _ rfl, h.cell 13 _ rfl, h.cell 14 _ rfl, h.cell 15 _ rfl, h.fro 0 _ rfl, h.fro 1 _ rfl, h.fro 2 _ rfl, h.fro 3 _ rfl, h.fro 4 _ rfl, h.fro 5 _ rfl, h.fro 6 _ rfl, h.fro 7 _ rfl, h.fro 8 _ rfl, h.fro 9 _ rfl, h.fro 10 _ rfl, h.fro 11 _ rfl, h.fro 12 _ rfl, h.fro 13 _ rfl, h.fro 14 _ rfl, h.fro 15 _ rfl, h.lt⟩

def rateT : List Item := [.num, .lit wLevel, .num, .lit wKind, .num, .lit wNights, .num, .lit wTo, .num, .lit wStay, .num, .lit wTo, .num, .lit wArrive, .num, .lit wKeep, .num, .lit wPart, .lit wWhen, .ex, .lit wPrice, .ex, .lit wStop]
def RateEnd (W0 : World) (v : Value) (m : Nat) (L : List Tok) (i : Nat) (w : World) (e : Ending) (w' : World) : Prop :=
  (∃ rt j cells, G (.seq rateT) (L.drop i) (.ok rt.list (L.drop j)) ∧ i < j ∧ e = .returned (.agg cells.toArray) ∧ RateV (Lo w.heap.size) w' rt cells ∧ Kept (some W0.heap.size) w w' ∧ St W0 v m L j w') ∨
  (∃ j, G (.seq rateT) (L.drop i) (.bad (L.drop j)) ∧ Dies 8 (lineAt L (L.drop j) : Nat) (some W0.heap.size) w e w')
set_option maxHeartbeats 6400000 in
theorem rate_any (hE : Env W0 v m L) (i : Nat) (w : World) (hS : St W0 v m L i w) : Calls Tryz.prog 69 #[.pointer (some ⟨W0.heap.size, 0, none⟩)] w (RateEnd W0 v m L i w) := by
  have hP := hS.own.lt
  have k := (Kept.refl (some W0.heap.size) w).alloc (.cells z16 47)
  have o2 := Own.new w z16 47
  have s0 := hS.alloc (.cells z16 47)
  have hA0 : ∀ l r, G (.seq [.num, .lit wLevel, .num, .lit wKind, .num, .lit wNights, .num, .lit wTo, .num, .lit wStay, .num, .lit wTo, .num, .lit wArrive, .num, .lit wKeep, .num, .lit wPart, .lit wWhen, .ex, .lit wPrice, .ex, .lit wStop]) (L.drop i) (.ok l r) → G (.seq rateT) (L.drop i) (.ok l r) := fun _ _ h => h
  have hB0 : ∀ r, G (.seq [.num, .lit wLevel, .num, .lit wKind, .num, .lit wNights, .num, .lit wTo, .num, .lit wStay, .num, .lit wTo, .num, .lit wArrive, .num, .lit wKeep, .num, .lit wPart, .lit wWhen, .ex, .lit wPrice, .ex, .lit wStop]) (L.drop i) (.bad r) → G (.seq rateT) (L.drop i) (.bad r) := fun _ h => h
  go_enter Tryz.func69, Tryz.ntmps69
  go_wp2_with fail
  refine (number_any hE i _ s0).mono ?_
  rintro e w1 hn
  rcases num_end hn with ⟨c0, g1, g2, rfl, kk, s1⟩ | ⟨j, g1, rfl, kk⟩
  case inr =>
    go_wp2_with fail
    exact bodyPost_panic rfl (.inr ⟨j, hB0 _ (g1 [.lit wLevel, .num, .lit wKind, .num, .lit wNights, .num, .lit wTo, .num, .lit wStay, .num, .lit wTo, .num, .lit wArrive, .num, .lit wKeep, .num, .lit wPart, .lit wWhen, .ex, .lit wPrice, .ex, .lit wStop]), rfl, k.trans kk⟩)
  replace o2 := kk.own o2 (by simp; omega)
  replace k := k.trans kk
  have hA1 : ∀ l r, G (.seq [.lit wLevel, .num, .lit wKind, .num, .lit wNights, .num, .lit wTo, .num, .lit wStay, .num, .lit wTo, .num, .lit wArrive, .num, .lit wKeep, .num, .lit wPart, .lit wWhen, .ex, .lit wPrice, .ex, .lit wStop]) (L.drop (i + 1)) (.ok l r) → G (.seq rateT) (L.drop i) (.ok (leafE 1 c0 :: l) r) := fun l r h => hA0 _ _ (g1 [.lit wLevel, .num, .lit wKind, .num, .lit wNights, .num, .lit wTo, .num, .lit wStay, .num, .lit wTo, .num, .lit wArrive, .num, .lit wKeep, .num, .lit wPart, .lit wWhen, .ex, .lit wPrice, .ex, .lit wStop] l r h)
  have hB1 : ∀ r, G (.seq [.lit wLevel, .num, .lit wKind, .num, .lit wNights, .num, .lit wTo, .num, .lit wStay, .num, .lit wTo, .num, .lit wArrive, .num, .lit wKeep, .num, .lit wPart, .lit wWhen, .ex, .lit wPrice, .ex, .lit wStop]) (L.drop (i + 1)) (.bad r) → G (.seq rateT) (L.drop i) (.bad r) := fun r h => hB0 _ (g2 [.lit wLevel, .num, .lit wKind, .num, .lit wNights, .num, .lit wTo, .num, .lit wStay, .num, .lit wTo, .num, .lit wArrive, .num, .lit wKeep, .num, .lit wPart, .lit wWhen, .ex, .lit wPrice, .ex, .lit wStop] r h)
  clear kk g1 g2 hA0 hB0 s0 hn
  go_wp2_with fail
  refine (after_any hE wLevel (by decide) (i + 1) _ s1).mono ?_
  rintro e w2 (⟨c1, g1, g2, rfl, kk, s2⟩ | ⟨j, g1, rfl, kk⟩)
  case inr =>
    go_wp2_with fail
    exact bodyPost_panic rfl (.inr ⟨j, hB1 _ (g1 [.lit wKind, .num, .lit wNights, .num, .lit wTo, .num, .lit wStay, .num, .lit wTo, .num, .lit wArrive, .num, .lit wKeep, .num, .lit wPart, .lit wWhen, .ex, .lit wPrice, .ex, .lit wStop]), rfl, k.trans kk⟩)
  replace o2 := kk.own o2 (by simp; omega)
  replace k := k.trans kk
  have hA2 : ∀ l r, G (.seq [.lit wKind, .num, .lit wNights, .num, .lit wTo, .num, .lit wStay, .num, .lit wTo, .num, .lit wArrive, .num, .lit wKeep, .num, .lit wPart, .lit wWhen, .ex, .lit wPrice, .ex, .lit wStop]) (L.drop (i + 1 + 2)) (.ok l r) → G (.seq rateT) (L.drop i) (.ok (leafE 1 c0 :: leafE 1 c1 :: l) r) := fun l r h => hA1 _ _ (g1 [.lit wKind, .num, .lit wNights, .num, .lit wTo, .num, .lit wStay, .num, .lit wTo, .num, .lit wArrive, .num, .lit wKeep, .num, .lit wPart, .lit wWhen, .ex, .lit wPrice, .ex, .lit wStop] l r h)
  have hB2 : ∀ r, G (.seq [.lit wKind, .num, .lit wNights, .num, .lit wTo, .num, .lit wStay, .num, .lit wTo, .num, .lit wArrive, .num, .lit wKeep, .num, .lit wPart, .lit wWhen, .ex, .lit wPrice, .ex, .lit wStop]) (L.drop (i + 1 + 2)) (.bad r) → G (.seq rateT) (L.drop i) (.bad r) := fun r h => hB1 _ (g2 [.lit wKind, .num, .lit wNights, .num, .lit wTo, .num, .lit wStay, .num, .lit wTo, .num, .lit wArrive, .num, .lit wKeep, .num, .lit wPart, .lit wWhen, .ex, .lit wPrice, .ex, .lit wStop] r h)
  clear kk g1 g2 hA1 hB1 s1
  go_wp2_with fail
  refine (after_any hE wKind (by decide) (i + 1 + 2) _ s2).mono ?_
  rintro e w3 (⟨c2, g1, g2, rfl, kk, s3⟩ | ⟨j, g1, rfl, kk⟩)
  case inr =>
    go_wp2_with fail
    exact bodyPost_panic rfl (.inr ⟨j, hB2 _ (g1 [.lit wNights, .num, .lit wTo, .num, .lit wStay, .num, .lit wTo, .num, .lit wArrive, .num, .lit wKeep, .num, .lit wPart, .lit wWhen, .ex, .lit wPrice, .ex, .lit wStop]), rfl, k.trans kk⟩)
  replace o2 := kk.own o2 (by simp; omega)
  replace k := k.trans kk
  have hA3 : ∀ l r, G (.seq [.lit wNights, .num, .lit wTo, .num, .lit wStay, .num, .lit wTo, .num, .lit wArrive, .num, .lit wKeep, .num, .lit wPart, .lit wWhen, .ex, .lit wPrice, .ex, .lit wStop]) (L.drop (i + 1 + 2 + 2)) (.ok l r) → G (.seq rateT) (L.drop i) (.ok (leafE 1 c0 :: leafE 1 c1 :: leafE 1 c2 :: l) r) := fun l r h => hA2 _ _ (g1 [.lit wNights, .num, .lit wTo, .num, .lit wStay, .num, .lit wTo, .num, .lit wArrive, .num, .lit wKeep, .num, .lit wPart, .lit wWhen, .ex, .lit wPrice, .ex, .lit wStop] l r h)
  have hB3 : ∀ r, G (.seq [.lit wNights, .num, .lit wTo, .num, .lit wStay, .num, .lit wTo, .num, .lit wArrive, .num, .lit wKeep, .num, .lit wPart, .lit wWhen, .ex, .lit wPrice, .ex, .lit wStop]) (L.drop (i + 1 + 2 + 2)) (.bad r) → G (.seq rateT) (L.drop i) (.bad r) := fun r h => hB2 _ (g2 [.lit wNights, .num, .lit wTo, .num, .lit wStay, .num, .lit wTo, .num, .lit wArrive, .num, .lit wKeep, .num, .lit wPart, .lit wWhen, .ex, .lit wPrice, .ex, .lit wStop] r h)
  clear kk g1 g2 hA2 hB2 s2
  go_wp2_with fail
  refine (after_any hE wNights (by decide) (i + 1 + 2 + 2) _ s3).mono ?_
  rintro e w4 (⟨c3, g1, g2, rfl, kk, s4⟩ | ⟨j, g1, rfl, kk⟩)
  case inr =>
    go_wp2_with fail
    exact bodyPost_panic rfl (.inr ⟨j, hB3 _ (g1 [.lit wTo, .num, .lit wStay, .num, .lit wTo, .num, .lit wArrive, .num, .lit wKeep, .num, .lit wPart, .lit wWhen, .ex, .lit wPrice, .ex, .lit wStop]), rfl, k.trans kk⟩)
  replace o2 := kk.own o2 (by simp; omega)
  replace k := k.trans kk
  have hA4 : ∀ l r, G (.seq [.lit wTo, .num, .lit wStay, .num, .lit wTo, .num, .lit wArrive, .num, .lit wKeep, .num, .lit wPart, .lit wWhen, .ex, .lit wPrice, .ex, .lit wStop]) (L.drop (i + 1 + 2 + 2 + 2)) (.ok l r) → G (.seq rateT) (L.drop i) (.ok (leafE 1 c0 :: leafE 1 c1 :: leafE 1 c2 :: leafE 1 c3 :: l) r) := fun l r h => hA3 _ _ (g1 [.lit wTo, .num, .lit wStay, .num, .lit wTo, .num, .lit wArrive, .num, .lit wKeep, .num, .lit wPart, .lit wWhen, .ex, .lit wPrice, .ex, .lit wStop] l r h)
  have hB4 : ∀ r, G (.seq [.lit wTo, .num, .lit wStay, .num, .lit wTo, .num, .lit wArrive, .num, .lit wKeep, .num, .lit wPart, .lit wWhen, .ex, .lit wPrice, .ex, .lit wStop]) (L.drop (i + 1 + 2 + 2 + 2)) (.bad r) → G (.seq rateT) (L.drop i) (.bad r) := fun r h => hB3 _ (g2 [.lit wTo, .num, .lit wStay, .num, .lit wTo, .num, .lit wArrive, .num, .lit wKeep, .num, .lit wPart, .lit wWhen, .ex, .lit wPrice, .ex, .lit wStop] r h)
  clear kk g1 g2 hA3 hB3 s3
  go_wp2_with fail
  refine (after_any hE wTo (by decide) (i + 1 + 2 + 2 + 2) _ s4).mono ?_
  rintro e w5 (⟨c4, g1, g2, rfl, kk, s5⟩ | ⟨j, g1, rfl, kk⟩)
  case inr =>
    go_wp2_with fail
    exact bodyPost_panic rfl (.inr ⟨j, hB4 _ (g1 [.lit wStay, .num, .lit wTo, .num, .lit wArrive, .num, .lit wKeep, .num, .lit wPart, .lit wWhen, .ex, .lit wPrice, .ex, .lit wStop]), rfl, k.trans kk⟩)
  replace o2 := kk.own o2 (by simp; omega)
  replace k := k.trans kk
  have hA5 : ∀ l r, G (.seq [.lit wStay, .num, .lit wTo, .num, .lit wArrive, .num, .lit wKeep, .num, .lit wPart, .lit wWhen, .ex, .lit wPrice, .ex, .lit wStop]) (L.drop (i + 1 + 2 + 2 + 2 + 2)) (.ok l r) → G (.seq rateT) (L.drop i) (.ok (leafE 1 c0 :: leafE 1 c1 :: leafE 1 c2 :: leafE 1 c3 :: leafE 1 c4 :: l) r) := fun l r h => hA4 _ _ (g1 [.lit wStay, .num, .lit wTo, .num, .lit wArrive, .num, .lit wKeep, .num, .lit wPart, .lit wWhen, .ex, .lit wPrice, .ex, .lit wStop] l r h)
  have hB5 : ∀ r, G (.seq [.lit wStay, .num, .lit wTo, .num, .lit wArrive, .num, .lit wKeep, .num, .lit wPart, .lit wWhen, .ex, .lit wPrice, .ex, .lit wStop]) (L.drop (i + 1 + 2 + 2 + 2 + 2)) (.bad r) → G (.seq rateT) (L.drop i) (.bad r) := fun r h => hB4 _ (g2 [.lit wStay, .num, .lit wTo, .num, .lit wArrive, .num, .lit wKeep, .num, .lit wPart, .lit wWhen, .ex, .lit wPrice, .ex, .lit wStop] r h)
  clear kk g1 g2 hA4 hB4 s4
  go_wp2_with fail
  refine (after_any hE wStay (by decide) (i + 1 + 2 + 2 + 2 + 2) _ s5).mono ?_
  rintro e w6 (⟨c5, g1, g2, rfl, kk, s6⟩ | ⟨j, g1, rfl, kk⟩)
  case inr =>
    go_wp2_with fail
    exact bodyPost_panic rfl (.inr ⟨j, hB5 _ (g1 [.lit wTo, .num, .lit wArrive, .num, .lit wKeep, .num, .lit wPart, .lit wWhen, .ex, .lit wPrice, .ex, .lit wStop]), rfl, k.trans kk⟩)
  replace o2 := kk.own o2 (by simp; omega)
  replace k := k.trans kk
  have hA6 : ∀ l r, G (.seq [.lit wTo, .num, .lit wArrive, .num, .lit wKeep, .num, .lit wPart, .lit wWhen, .ex, .lit wPrice, .ex, .lit wStop]) (L.drop (i + 1 + 2 + 2 + 2 + 2 + 2)) (.ok l r) → G (.seq rateT) (L.drop i) (.ok (leafE 1 c0 :: leafE 1 c1 :: leafE 1 c2 :: leafE 1 c3 :: leafE 1 c4 :: leafE 1 c5 :: l) r) := fun l r h => hA5 _ _ (g1 [.lit wTo, .num, .lit wArrive, .num, .lit wKeep, .num, .lit wPart, .lit wWhen, .ex, .lit wPrice, .ex, .lit wStop] l r h)
  have hB6 : ∀ r, G (.seq [.lit wTo, .num, .lit wArrive, .num, .lit wKeep, .num, .lit wPart, .lit wWhen, .ex, .lit wPrice, .ex, .lit wStop]) (L.drop (i + 1 + 2 + 2 + 2 + 2 + 2)) (.bad r) → G (.seq rateT) (L.drop i) (.bad r) := fun r h => hB5 _ (g2 [.lit wTo, .num, .lit wArrive, .num, .lit wKeep, .num, .lit wPart, .lit wWhen, .ex, .lit wPrice, .ex, .lit wStop] r h)
  clear kk g1 g2 hA5 hB5 s5
  go_wp2_with fail
  refine (after_any hE wTo (by decide) (i + 1 + 2 + 2 + 2 + 2 + 2) _ s6).mono ?_
  rintro e w7 (⟨c6, g1, g2, rfl, kk, s7⟩ | ⟨j, g1, rfl, kk⟩)
  case inr =>
    go_wp2_with fail
    exact bodyPost_panic rfl (.inr ⟨j, hB6 _ (g1 [.lit wArrive, .num, .lit wKeep, .num, .lit wPart, .lit wWhen, .ex, .lit wPrice, .ex, .lit wStop]), rfl, k.trans kk⟩)
  replace o2 := kk.own o2 (by simp; omega)
  replace k := k.trans kk
  have hA7 : ∀ l r, G (.seq [.lit wArrive, .num, .lit wKeep, .num, .lit wPart, .lit wWhen, .ex, .lit wPrice, .ex, .lit wStop]) (L.drop (i + 1 + 2 + 2 + 2 + 2 + 2 + 2)) (.ok l r) → G (.seq rateT) (L.drop i) (.ok (leafE 1 c0 :: leafE 1 c1 :: leafE 1 c2 :: leafE 1 c3 :: leafE 1 c4 :: leafE 1 c5 :: leafE 1 c6 :: l) r) := fun l r h => hA6 _ _ (g1 [.lit wArrive, .num, .lit wKeep, .num, .lit wPart, .lit wWhen, .ex, .lit wPrice, .ex, .lit wStop] l r h)
  have hB7 : ∀ r, G (.seq [.lit wArrive, .num, .lit wKeep, .num, .lit wPart, .lit wWhen, .ex, .lit wPrice, .ex, .lit wStop]) (L.drop (i + 1 + 2 + 2 + 2 + 2 + 2 + 2)) (.bad r) → G (.seq rateT) (L.drop i) (.bad r) := fun r h => hB6 _ (g2 [.lit wArrive, .num, .lit wKeep, .num, .lit wPart, .lit wWhen, .ex, .lit wPrice, .ex, .lit wStop] r h)
  clear kk g1 g2 hA6 hB6 s6
  go_wp2_with fail
  refine (after_any hE wArrive (by decide) (i + 1 + 2 + 2 + 2 + 2 + 2 + 2) _ s7).mono ?_
  rintro e w8 (⟨c7, g1, g2, rfl, kk, s8⟩ | ⟨j, g1, rfl, kk⟩)
  case inr =>
    go_wp2_with fail
    exact bodyPost_panic rfl (.inr ⟨j, hB7 _ (g1 [.lit wKeep, .num, .lit wPart, .lit wWhen, .ex, .lit wPrice, .ex, .lit wStop]), rfl, k.trans kk⟩)
  replace o2 := kk.own o2 (by simp; omega)
  replace k := k.trans kk
  have hA8 : ∀ l r, G (.seq [.lit wKeep, .num, .lit wPart, .lit wWhen, .ex, .lit wPrice, .ex, .lit wStop]) (L.drop (i + 1 + 2 + 2 + 2 + 2 + 2 + 2 + 2)) (.ok l r) → G (.seq rateT) (L.drop i) (.ok (leafE 1 c0 :: leafE 1 c1 :: leafE 1 c2 :: leafE 1 c3 :: leafE 1 c4 :: leafE 1 c5 :: leafE 1 c6 :: leafE 1 c7 :: l) r) := fun l r h => hA7 _ _ (g1 [.lit wKeep, .num, .lit wPart, .lit wWhen, .ex, .lit wPrice, .ex, .lit wStop] l r h)
  have hB8 : ∀ r, G (.seq [.lit wKeep, .num, .lit wPart, .lit wWhen, .ex, .lit wPrice, .ex, .lit wStop]) (L.drop (i + 1 + 2 + 2 + 2 + 2 + 2 + 2 + 2)) (.bad r) → G (.seq rateT) (L.drop i) (.bad r) := fun r h => hB7 _ (g2 [.lit wKeep, .num, .lit wPart, .lit wWhen, .ex, .lit wPrice, .ex, .lit wStop] r h)
  clear kk g1 g2 hA7 hB7 s7
  go_wp2_with fail
  refine (keep_any hE (i + 1 + 2 + 2 + 2 + 2 + 2 + 2 + 2) _ s8).mono ?_
  rintro e w9 (⟨c, g1, g2, rfl, kk, s9⟩ | ⟨j, g1, rfl, kk⟩)
  case inr =>
    go_wp2_with fail
    exact bodyPost_panic rfl (.inr ⟨j, hB8 _ (g1 [.lit wWhen, .ex, .lit wPrice, .ex, .lit wStop]), rfl, k.trans kk⟩)
  replace o2 := kk.own o2 (by simp; omega)
  replace k := k.trans kk
  have hA9 : ∀ l r, G (.seq [.lit wWhen, .ex, .lit wPrice, .ex, .lit wStop]) (L.drop (i + 1 + 2 + 2 + 2 + 2 + 2 + 2 + 2 + 3)) (.ok l r) → G (.seq rateT) (L.drop i) (.ok (leafE 1 c0 :: leafE 1 c1 :: leafE 1 c2 :: leafE 1 c3 :: leafE 1 c4 :: leafE 1 c5 :: leafE 1 c6 :: leafE 1 c7 :: leafE 1 c :: l) r) := fun l r h => hA8 _ _ (g1 [.lit wWhen, .ex, .lit wPrice, .ex, .lit wStop] l r h)
  have hB9 : ∀ r, G (.seq [.lit wWhen, .ex, .lit wPrice, .ex, .lit wStop]) (L.drop (i + 1 + 2 + 2 + 2 + 2 + 2 + 2 + 2 + 3)) (.bad r) → G (.seq rateT) (L.drop i) (.bad r) := fun r h => hB8 _ (g2 [.lit wWhen, .ex, .lit wPrice, .ex, .lit wStop] r h)
  clear kk g1 g2 hA8 hB8 s8
  generalize hkn : (mkF (c : Int) 100).1 = kn at *
  generalize hkd : (mkF (c : Int) 100).2.1 = kd at *
  have HKN := Lib.hid hkn
  have HKD := Lib.hid hkd
  clear hkn hkd
  have hp : i < i + 1 + 2 + 2 + 2 + 2 + 2 + 2 + 2 + 3 := by omega
  generalize i + 1 + 2 + 2 + 2 + 2 + 2 + 2 + 2 + 3 = p at *
  have yk := k.size
  have y9 := o2.lt
  go_wp2_with fail
  have o3 : Own (w9.alloc (.cells #[.int .i64 (c0 : Nat), .int .i64 (c1 : Nat), .int .i64 (c2 : Nat), .int .i64 (c3 : Nat), .int .i64 (c4 : Nat), .int .i64 (c5 : Nat), .int .i64 (c6 : Nat), .int .i64 (c7 : Nat), .int .i64 kn, .int .i64 kd, .int .i64 0, .int .i64 0, .slice none 0 0, .int .i64 0, .int .i64 0, .slice none 0 0] 47)) w9.heap.size [.int .i64 (c0 : Nat), .int .i64 (c1 : Nat), .int .i64 (c2 : Nat), .int .i64 (c3 : Nat), .int .i64 (c4 : Nat), .int .i64 (c5 : Nat), .int .i64 (c6 : Nat), .int .i64 (c7 : Nat), .int .i64 kn, .int .i64 kd, .int .i64 0, .int .i64 0, .slice none 0 0, .int .i64 0, .int .i64 0, .slice none 0 0] := Own.new w9 #[.int .i64 (c0 : Nat), .int .i64 (c1 : Nat), .int .i64 (c2 : Nat), .int .i64 (c3 : Nat), .int .i64 (c4 : Nat), .int .i64 (c5 : Nat), .int .i64 (c6 : Nat), .int .i64 (c7 : Nat), .int .i64 kn, .int .i64 kd, .int .i64 0, .int .i64 0, .slice none 0 0, .int .i64 0, .int .i64 0, .slice none 0 0] 47
  replace o2 := o2.alloc (.cells #[.int .i64 (c0 : Nat), .int .i64 (c1 : Nat), .int .i64 (c2 : Nat), .int .i64 (c3 : Nat), .int .i64 (c4 : Nat), .int .i64 (c5 : Nat), .int .i64 (c6 : Nat), .int .i64 (c7 : Nat), .int .i64 kn, .int .i64 kd, .int .i64 0, .int .i64 0, .slice none 0 0, .int .i64 0, .int .i64 0, .slice none 0 0] 47)
  replace k := k.alloc (.cells #[.int .i64 (c0 : Nat), .int .i64 (c1 : Nat), .int .i64 (c2 : Nat), .int .i64 (c3 : Nat), .int .i64 (c4 : Nat), .int .i64 (c5 : Nat), .int .i64 (c6 : Nat), .int .i64 (c7 : Nat), .int .i64 kn, .int .i64 kd, .int .i64 0, .int .i64 0, .slice none 0 0, .int .i64 0, .int .i64 0, .slice none 0 0] 47)
  replace s9 := s9.alloc (.cells #[.int .i64 (c0 : Nat), .int .i64 (c1 : Nat), .int .i64 (c2 : Nat), .int .i64 (c3 : Nat), .int .i64 (c4 : Nat), .int .i64 (c5 : Nat), .int .i64 (c6 : Nat), .int .i64 (c7 : Nat), .int .i64 kn, .int .i64 kd, .int .i64 0, .int .i64 0, .slice none 0 0, .int .i64 0, .int .i64 0, .slice none 0 0] 47)
  refine (need_any hE wWhen (by decide) p _ s9).mono ?_
  rintro e w10 (⟨q1, rfl, kk, s10⟩ | ⟨q1, rfl, kk⟩)
  case inr =>
    go_wp2_with fail
    exact bodyPost_panic rfl (.inr ⟨p, hB9 _ (g_litBad q1), rfl, k.trans kk⟩)
  obtain ⟨u1, d1, e1⟩ := need_cons q1
  replace o2 := kk.own o2 (by simp; omega)
  replace o3 := kk.own o3 (by simp; omega)
  replace k := k.trans kk
  have y10 := o3.lt
  clear kk q1 s9
  go_wp2_with fail
  refine (expr_any hE (p + 1) _ s10).mono ?_
  rintro e w11 (⟨x1, j1, tv1, g1, l1, rfl, t1, kk, s11⟩ | ⟨j1, g1, rfl, kk⟩)
  case inr =>
    go_wp2_with fail
    exact bodyPost_panic rfl (.inr ⟨j1, hB9 _ (G.at d1 (g_lit e1 (g_exBad g1))), rfl, k.trans kk⟩)
  replace o2 := kk.own o2 (by simp; omega)
  replace o3 := kk.own o3 (by simp; omega)
  replace k := k.trans kk
  have y11 := kk.size
  obtain ⟨ad1, cap1, rfl, -, -⟩ := t1.shape
  obtain ⟨f0, f1, f2, f3, f4, f5, f6, f7, f8, f9, f10, f11, f12, f13, f14, f15, f16, f17, f18, f19, f20, f21, f22, f23, f24, f25, f26, f27, f28, f29, f30, f31, fz⟩ := o3.facts
  clear kk s10
  go_wp2_with fail
  clear f0 f1 f2 f3 f4 f5 f6 f7 f8 f9 f10 f11 f12 f13 f14 f15 f16 f17 f18 f19 f20 f21 f22 f23 f24 f25 f26 f27 f28 f29 f30 f31
  have o3b : Own (setN w11 w9.heap.size 10 [.int .i64 x1.o, .int .i64 x1.n, .slice ad1 x1.ks.length cap1]) w9.heap.size [.int .i64 (c0 : Nat), .int .i64 (c1 : Nat), .int .i64 (c2 : Nat), .int .i64 (c3 : Nat), .int .i64 (c4 : Nat), .int .i64 (c5 : Nat), .int .i64 (c6 : Nat), .int .i64 (c7 : Nat), .int .i64 kn, .int .i64 kd, .int .i64 x1.o, .int .i64 x1.n, .slice ad1 x1.ks.length cap1, .int .i64 0, .int .i64 0, .slice none 0 0] := ((o3.setAt (i := 10) (.int .i64 x1.o) (by simp)).setAt (i := 11) (.int .i64 x1.n) (by simp)).setAt (i := 12) (.slice ad1 x1.ks.length cap1) (by simp)
  have o2b := o2.offN (B := w9.heap.size) (by omega) (vs := [.int .i64 x1.o, .int .i64 x1.n, .slice ad1 x1.ks.length cap1]) (o := 10)
  have t1b := t1.setN (B := w9.heap.size) (by show w9.heap.size < _; omega) (vs := [.int .i64 x1.o, .int .i64 x1.n, .slice ad1 x1.ks.length cap1]) (o := 10)
  have kb := Kept.setN (B := w9.heap.size) (by omega) (vs := [.int .i64 x1.o, .int .i64 x1.n, .slice ad1 x1.ks.length cap1]) (o := 10) k
  have s11b := St.setN (B := w9.heap.size) (by omega) (vs := [.int .i64 x1.o, .int .i64 x1.n, .slice ad1 x1.ks.length cap1]) (o := 10) s11
  refine (need_any hE wPrice (by decide) j1 _ s11b).mono ?_
  rintro e w12 (⟨q1, rfl, kk, s12⟩ | ⟨q1, rfl, kk⟩)
  case inr =>
    go_wp2_with fail
    exact bodyPost_panic rfl (.inr ⟨j1, hB9 _ (G.at d1 (g_lit e1 (g_exLater g1 (g_litBad q1)))), rfl, kb.trans kk⟩)
  obtain ⟨u2, d2, e2⟩ := need_cons q1
  have y11b := kb.size
  have o2c := kk.own o2b (by simp; omega)
  have o3c := kk.own o3b (by simp; omega)
  have t1c := t1b.keep kk (by show W0.heap.size < _; omega)
  have kc := kb.trans kk
  have y12 := o3c.lt
  have y12b := kk.size
  clear kk q1 s11 s11b o2 o3 o2b o3b t1 t1b k kb
  go_wp2_with fail
  refine (expr_any hE (j1 + 1) _ s12).mono ?_
  rintro e w13 (⟨x2, j2, tv2, g2, l2, rfl, t2, kk, s13⟩ | ⟨j2, g2, rfl, kk⟩)
  case inr =>
    go_wp2_with fail
    exact bodyPost_panic rfl (.inr ⟨j2, hB9 _ (G.at d1 (g_lit e1 (g_exLater g1 (G.at d2 (g_lit e2 (g_exBad g2)))))), rfl, kc.trans kk⟩)
  have o2d := kk.own o2c (by simp; omega)
  have o3d := kk.own o3c (by simp; omega)
  have t1d := t1c.keep kk (by show W0.heap.size < _; omega)
  have kd2 := kc.trans kk
  have y13 := kk.size
  obtain ⟨ad2, cap2, rfl, -, -⟩ := t2.shape
  obtain ⟨f0, f1, f2, f3, f4, f5, f6, f7, f8, f9, f10, f11, f12, f13, f14, f15, f16, f17, f18, f19, f20, f21, f22, f23, f24, f25, f26, f27, f28, f29, f30, f31, fz⟩ := o3d.facts
  clear kk s12 o2c o3c t1c kc
  go_wp2_with fail
  clear f0 f1 f2 f3 f4 f5 f6 f7 f8 f9 f10 f11 f12 f13 f14 f15 f16 f17 f18 f19 f20 f21 f22 f23 f24 f25 f26 f27 f28 f29 f30 f31
  have o3b : Own (setN w13 w9.heap.size 13 [.int .i64 x2.o, .int .i64 x2.n, .slice ad2 x2.ks.length cap2]) w9.heap.size [.int .i64 (c0 : Nat), .int .i64 (c1 : Nat), .int .i64 (c2 : Nat), .int .i64 (c3 : Nat), .int .i64 (c4 : Nat), .int .i64 (c5 : Nat), .int .i64 (c6 : Nat), .int .i64 (c7 : Nat), .int .i64 kn, .int .i64 kd, .int .i64 x1.o, .int .i64 x1.n, .slice ad1 x1.ks.length cap1, .int .i64 x2.o, .int .i64 x2.n, .slice ad2 x2.ks.length cap2] := ((o3d.setAt (i := 13) (.int .i64 x2.o) (by simp)).setAt (i := 14) (.int .i64 x2.n) (by simp)).setAt (i := 15) (.slice ad2 x2.ks.length cap2) (by simp)
  have o2b := o2d.offN (B := w9.heap.size) (by omega) (vs := [.int .i64 x2.o, .int .i64 x2.n, .slice ad2 x2.ks.length cap2]) (o := 13)
  have t1b := t1d.setN (B := w9.heap.size) (by show w9.heap.size < _; omega) (vs := [.int .i64 x2.o, .int .i64 x2.n, .slice ad2 x2.ks.length cap2]) (o := 13)
  have t2b := t2.setN (B := w9.heap.size) (by show w9.heap.size < _; omega) (vs := [.int .i64 x2.o, .int .i64 x2.n, .slice ad2 x2.ks.length cap2]) (o := 13)
  have kb := Kept.setN (B := w9.heap.size) (by omega) (vs := [.int .i64 x2.o, .int .i64 x2.n, .slice ad2 x2.ks.length cap2]) (o := 13) kd2
  have s13b := St.setN (B := w9.heap.size) (by omega) (vs := [.int .i64 x2.o, .int .i64 x2.n, .slice ad2 x2.ks.length cap2]) (o := 13) s13
  refine (need_any hE wStop (by decide) j2 _ s13b).mono ?_
  rintro e w14 (⟨q1, rfl, kk, s14⟩ | ⟨q1, rfl, kk⟩)
  case inr =>
    go_wp2_with fail
    exact bodyPost_panic rfl (.inr ⟨j2, hB9 _ (G.at d1 (g_lit e1 (g_exLater g1 (G.at d2 (g_lit e2 (g_exLater g2 (g_litBad q1))))))), rfl, kb.trans kk⟩)
  obtain ⟨u3, d3, e3⟩ := need_cons q1
  have y13b := kb.size
  have HG : Hid (G (.seq rateT) (L.drop i) (.ok (leafE 1 c0 :: leafE 1 c1 :: leafE 1 c2 :: leafE 1 c3 :: leafE 1 c4 :: leafE 1 c5 :: leafE 1 c6 :: leafE 1 c7 :: leafE 1 c :: [x1, x2]) (L.drop (j2 + 1)))) := Lib.hid (hA9 _ _ (G.at d1 (g_lit e1 (g_ex g1 (G.at d2 (g_lit e2 (g_ex g2 (G.at d3 (g_lit e3 g_nil)))))))))
  have o2 := kk.own o2b (by simp; omega)
  have o3 := kk.own o3b (by simp; omega)
  have t1 := t1b.keep kk (by show W0.heap.size < _; omega)
  have t2 := t2b.keep kk (by show W0.heap.size < _; omega)
  have k := kb.trans kk
  clear kk q1 s13 s13b o2b o3b o2d o3d t1b t2b t1d kb kd2 hA9 hB9 g1 g2 d1 d2 d3 e1 e2 e3
  obtain ⟨f0, f1, f2, f3, f4, f5, f6, f7, f8, f9, f10, f11, f12, f13, f14, f15, f16, f17, f18, f19, f20, f21, f22, f23, f24, f25, f26, f27, f28, f29, f30, f31, fz⟩ := o3.facts
  obtain ⟨h0, h1, h2, h3, h4, h5, h6, h7, h8, h9, h10, h11, h12, h13, h14, h15, h16, h17, h18, h19, h20, h21, h22, h23, h24, h25, h26, h27, h28, h29, h30, h31, hz⟩ := o2.facts
  go_wp2_with fail
  clear f0 f1 f2 f3 f4 f5 f6 f7 f8 f9 f10 f11 f12 f13 f14 f15 f16 f17 f18 f19 f20 f21 f22 f23 f24 f25 f26 f27 f28 f29 f30 f31 h0 h1 h2 h3 h4 h5 h6 h7 h8 h9 h10 h11 h12 h13 h14 h15 h16 h17 h18 h19 h20 h21 h22 h23 h24 h25 h26 h27 h28 h29 h30 h31
  refine ret_cells (vs := [.int .i64 (c0 : Nat), .int .i64 (c1 : Nat), .int .i64 (c2 : Nat), .int .i64 (c3 : Nat), .int .i64 (c4 : Nat), .int .i64 (c5 : Nat), .int .i64 (c6 : Nat), .int .i64 (c7 : Nat), .int .i64 kn, .int .i64 kd, .int .i64 x1.o, .int .i64 x1.n, .slice ad1 x1.ks.length cap1, .int .i64 x2.o, .int .i64 x2.n, .slice ad2 x2.ks.length cap2]) rfl Tryz.underlying47 rfl (by kernel_rfl) (B := w.heap.size) (o2.putN (vs := [.int .i64 (c0 : Nat), .int .i64 (c1 : Nat), .int .i64 (c2 : Nat), .int .i64 (c3 : Nat), .int .i64 (c4 : Nat), .int .i64 (c5 : Nat), .int .i64 (c6 : Nat), .int .i64 (c7 : Nat), .int .i64 kn, .int .i64 kd, .int .i64 x1.o, .int .i64 x1.n, .slice ad1 x1.ks.length cap1, .int .i64 x2.o, .int .i64 x2.n, .slice ad2 x2.ks.length cap2]) rfl) rfl rfl ?_
  refine .inl ⟨⟨c0, c1, c2, c3, c4, c5, c6, c7, c, x1, x2⟩, j2 + 1, _, HG.out, by omega, rfl, ⟨ad1, cap1, ad2, cap2, ?_, ?_, ?_⟩, ?_, ?_⟩
  · rw [← HKN.out, ← HKD.out]; rfl
  · exact (t1.setN (B := w.heap.size) (by show w.heap.size < _; omega) (vs := [.int .i64 (c0 : Nat), .int .i64 (c1 : Nat), .int .i64 (c2 : Nat), .int .i64 (c3 : Nat), .int .i64 (c4 : Nat), .int .i64 (c5 : Nat), .int .i64 (c6 : Nat), .int .i64 (c7 : Nat), .int .i64 kn, .int .i64 kd, .int .i64 x1.o, .int .i64 x1.n, .slice ad1 x1.ks.length cap1, .int .i64 x2.o, .int .i64 x2.n, .slice ad2 x2.ks.length cap2]) (o := 0)).lo (by omega)
  · exact (t2.setN (B := w.heap.size) (by show w.heap.size < _; omega) (vs := [.int .i64 (c0 : Nat), .int .i64 (c1 : Nat), .int .i64 (c2 : Nat), .int .i64 (c3 : Nat), .int .i64 (c4 : Nat), .int .i64 (c5 : Nat), .int .i64 (c6 : Nat), .int .i64 (c7 : Nat), .int .i64 kn, .int .i64 kd, .int .i64 x1.o, .int .i64 x1.n, .slice ad1 x1.ks.length cap1, .int .i64 x2.o, .int .i64 x2.n, .slice ad2 x2.ks.length cap2]) (o := 0)).lo (by omega)
  · exact Kept.setN (B := w.heap.size) (Nat.le_refl _) (vs := [.int .i64 (c0 : Nat), .int .i64 (c1 : Nat), .int .i64 (c2 : Nat), .int .i64 (c3 : Nat), .int .i64 (c4 : Nat), .int .i64 (c5 : Nat), .int .i64 (c6 : Nat), .int .i64 (c7 : Nat), .int .i64 kn, .int .i64 kd, .int .i64 x1.o, .int .i64 x1.n, .slice ad1 x1.ks.length cap1, .int .i64 x2.o, .int .i64 x2.n, .slice ad2 x2.ks.length cap2]) (o := 0) k
  · exact St.setN (B := w.heap.size) hP (vs := [.int .i64 (c0 : Nat), .int .i64 (c1 : Nat), .int .i64 (c2 : Nat), .int .i64 (c3 : Nat), .int .i64 (c4 : Nat), .int .i64 (c5 : Nat), .int .i64 (c6 : Nat), .int .i64 (c7 : Nat), .int .i64 kn, .int .i64 kd, .int .i64 x1.o, .int .i64 x1.n, .slice ad1 x1.ks.length cap1, .int .i64 x2.o, .int .i64 x2.n, .slice ad2 x2.ks.length cap2]) (o := 0) s14
end Go.Proofs.YtoioegkpmncicaaGreatDoor
