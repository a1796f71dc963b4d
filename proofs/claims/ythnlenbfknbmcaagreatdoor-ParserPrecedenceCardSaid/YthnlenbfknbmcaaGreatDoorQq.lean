/-
  Where an append writes; many cells stored; rates in memory.
-/
import Derived.Test.YthnlenbfknbmcaaGreatDoorQj
import Derived.Test.YthnlenbfknbmcaaGreatDoorQh
import Derived.Laws.AppendOwn
import Derived.Test.YthnlenbfknbmcaaGreatDoorQn
import Derived.Test.YthnlenbfknbmcaaGreatDoorQd
namespace Go.Proofs.YthnlenbfknbmcaaGreatDoor
open Go.RowKit Go.Shelf
set_option maxRecDepth 100000

section
variable {P : Program}
/-- an append writes the row that it was given, or makes a new one -/
theorem append_where {w : World} {base : Nat} {t ty e : TypeId} {i : TypeInfo} {z : Value} {size bytes : Nat} (ht : P.underlying t = some (.slice e)) (hi : P.info? e = some i) (hz : i.zero = some z) (hsize : i.size = size) (hby : i.bytes = bytes)
    {v : Value} {n : Nat} {xs : List Value} (hown : w.ownsRow base e size v n xs) {a : Addr} {m c : Nat} {news : List Value} (hl : news.length = m * size) (hnews : ∀ j u, news[j]? = some u → w.cell? (a.add j) = some u) (h1 : ∀ u ∈ news, u.oneCell' = true)
    (hm : 0 < m) (h63 : n + m ≤ maxLen) (hbytes : (n + m) * bytes ≤ 140737488355328) {v' : Value} {w' : World} (hr : (Builtin.append_ #[t, t] ty #[v, .slice (some a) m c]).run P w = .ok v' w') :
    ∀ r, v'.ownBlock = some r → v.ownBlock = some r ∨ w.heap.size ≤ r := by
  subst hsize hby
  have h63' : n + m ≤ 9223372036854775807 := by simp only [maxLen] at h63; omega
  rcases hown.2 with ⟨rfl, rfl⟩ | ⟨g, cap, cur, rfl, _, hg, _, _, hcs, _⟩
  · have hb : m * i.bytes ≤ 281474976710656 := by have := hbytes; simp only [Nat.zero_add] at this; omega
    rw [run_append_nil (P := P) w t ty e i z ht hi hz a m c news hl hnews hm (by omega) hb] at hr
    injection hr with h2 h3
    subst h2
    intro r h
    exact .inr (by simp only [Value.ownBlock, Option.some.injEq] at h; omega)
  · by_cases hroom : n + m ≤ cap
    · have hfit : n * i.size + news.length ≤ cur.size := by rw [hl, hcs, ← Nat.add_mul]; exact Nat.mul_le_mul_right _ hroom
      rw [run_append_room (P := P) w t ty e i ht hi g n cap cur hg a m c news hl hnews h1 hroom hfit] at hr
      injection hr with h2 h3
      subst h2
      intro r h
      exact .inl h
    · rw [run_append_grow (P := P) w t ty e i z ht hi hz ⟨g, 0, none⟩ n cap xs hown.1 (hown.cells (g := g) rfl) a m c news hl hnews (by omega) (by omega) (growslice_fits (by omega) hbytes)] at hr
      injection hr with h2 h3
      subst h2
      intro r h
      exact .inr (by simp only [Value.ownBlock, Option.some.injEq] at h; omega)
theorem wpList_append_at {ops : Array Oper} {rest : List Oper} {o : Oper} {a : Act} {w : World} {Q : Exit → Act → World → Prop} (hgd : o.guard = none) (s x : Operand) (t : TypeId)
    (ho : o.op = .call { callee := .builtin .append, args := #[s, x], argTypes := #[t, t] })
    (base : Nat) (e : TypeId) (i : TypeInfo) (z : Value) (size bytes : Nat) (ht : P.underlying t = some (.slice e)) (hi : P.info? e = some i) (hz : i.zero = some z)
    (hsize : i.size = size) (hby : i.bytes = bytes) (hzs : z.cells.size = size) (hsz : 0 < size)
    (v : Value) (n : Nat) (xs : List Value) (hs : a.eval s = v) (hown : w.ownsRow base e size v n xs)
    (ad : Addr) (m c : Nat) (news : List Value) (hx : a.eval x = .slice (some ad) m c) (hl : news.length = m * size) (hnews : ∀ j u, news[j]? = some u → w.cell? (ad.add j) = some u) (h1 : ∀ u ∈ news, u.oneCell' = true)
    (hm : 0 < m) (h63 : n + m ≤ maxLen) (hbytes : (n + m) * bytes ≤ 140737488355328) (hbase : base ≤ w.heap.size)
    (h : ∀ v' w', w'.ownsRow base e size v' (n + m) (xs ++ news) → w.grownBy w' v.ownBlock → (∀ r, v'.ownBlock = some r → v.ownBlock = some r ∨ w.heap.size ≤ r) → wpList P ops Q rest (a.put o.dst v') w') : wpList P ops Q (o :: rest) a w :=
  wpList_plain hgd fun K hK => by
    obtain ⟨v', w', hr, h2, h3, _⟩ := run_append_own (P := P) w base t o.type e i z size bytes ht hi hz hsize hby hzs hsz v n xs hown ad m c news hl hnews h1 h63 hbytes hbase
    have h4 := append_where ht hi hz hsize hby hown hl hnews h1 hm h63 hbytes hr
    unfold Oper.wp execOp
    simp only [ho, resolve, invoke, builtin, Sem.run_bind, Sem.run_pure, Result.andThen_ok, List.map_toArray, List.map_cons, List.map_nil, hs, hx, hr]
    exact hK _ _ (h v' w' h2 h3 h4)
end

/-! ### Many cells stored -/
def setN (w : World) (B : Nat) : Nat → List Value → World
  | _, [] => w
  | o, v :: r => setN (w.setCell ⟨B, o, none⟩ v) B (o + 1) r
theorem Kept.setN {p B : Nat} {a : World} (hB : a.heap.size ≤ B) : ∀ {vs : List Value} {o : Nat} {w : World}, Kept (some p) a w → Kept (some p) a (Go.Proofs.YthnlenbfknbmcaaGreatDoor.setN w B o vs)
  | [], _, _, h => h
  | v :: r, o, _, h => Kept.setN hB (vs := r) (o := o + 1) (h.set (b := ⟨B, o, none⟩) (.inr hB) v)
theorem Below.setN {b B : Nat} {a : World} (hB : b ≤ B) : ∀ {vs : List Value} {o : Nat} {w : World}, Below b a w → Below b a (Go.Proofs.YthnlenbfknbmcaaGreatDoor.setN w B o vs)
  | [], _, _, h => h
  | v :: r, o, _, h => Below.setN hB (vs := r) (o := o + 1) (h.setCell (p := ⟨B, o, none⟩) hB v)
theorem Tree.setN {Q : Nat → Prop} {B : Nat} (hB : Q B) {e : Xp} {u : Value} : ∀ {vs : List Value} {o : Nat} {w : World}, Tree Q w e u → Tree Q (Go.Proofs.YthnlenbfknbmcaaGreatDoor.setN w B o vs) e u
  | [], _, _, h => h
  | v :: r, o, _, h => Tree.setN hB (vs := r) (o := o + 1) (h.set (b := ⟨B, o, none⟩) v hB)
theorem Own.offN {C B : Nat} {xs : List Value} (hB : B ≠ C) : ∀ {vs : List Value} {o : Nat} {w : World}, Own w C xs → Own (Go.Proofs.YthnlenbfknbmcaaGreatDoor.setN w B o vs) C xs
  | [], _, _, h => h
  | v :: r, o, _, h => Own.offN hB (vs := r) (o := o + 1) (h.setCell (p := ⟨B, o, none⟩) hB v)
theorem Own.putN' {B : Nat} : ∀ {vs xs : List Value} {o : Nat} {w : World} (a : List Value), a.length = o → xs.length = vs.length → Own w B (a ++ xs) → Own (Go.Proofs.YthnlenbfknbmcaaGreatDoor.setN w B o vs) B (a ++ vs)
  | [], xs, o, w, a, _, hl, h => by rw [List.length_nil, List.length_eq_zero_iff] at hl; subst hl; exact h
  | v :: r, xs, o, w, a, ha, hl, h => by
    cases xs with
    | nil => simp at hl
    | cons x xs =>
      have h2 := h.setAt (i := o) v (by simp; omega)
      have e : (a ++ x :: xs).set o v = (a ++ [v]) ++ xs := by
        rw [List.set_append_right _ _ (by omega), show o - a.length = 0 by omega]
        simp
      rw [e] at h2
      have := Own.putN' (vs := r) (xs := xs) (o := o + 1) (a ++ [v]) (by simp; omega) (by simpa using hl) h2
      rw [List.append_assoc] at this
      exact this
theorem Own.putN {B : Nat} {vs xs : List Value} {w : World} (h : Own w B xs) (hl : xs.length = vs.length) : Own (Go.Proofs.YthnlenbfknbmcaaGreatDoor.setN w B 0 vs) B vs := Own.putN' [] rfl hl h
theorem St.setN {W0 : World} {v : Value} {m : Nat} {L : List Tok} {i B : Nat} (hB : W0.heap.size < B) : ∀ {vs : List Value} {o : Nat} {w : World}, St W0 v m L i w → St W0 v m L i (Go.Proofs.YthnlenbfknbmcaaGreatDoor.setN w B o vs)
  | [], _, _, h => h
  | u :: r, o, w, h => St.setN hB (vs := r) (o := o + 1) ⟨h.base.setCell (p := ⟨B, o, none⟩) (Nat.le_of_lt hB) u, h.own.setCell (p := ⟨B, o, none⟩) (by simp; omega) u, h.le⟩

/-! ### Rates -/
structure Rt where
  a0 : Nat
  a1 : Nat
  a2 : Nat
  a3 : Nat
  a4 : Nat
  a5 : Nat
  a6 : Nat
  a7 : Nat
  c : Nat
  when : Xp
  price : Xp
def Rt.list (r : Rt) : List Xp := [leafE 1 r.a0, leafE 1 r.a1, leafE 1 r.a2, leafE 1 r.a3, leafE 1 r.a4, leafE 1 r.a5, leafE 1 r.a6, leafE 1 r.a7, leafE 1 r.c, r.when, r.price]
def Rt.kn (r : Rt) : Int := (mkF r.c 100).1
def Rt.kd (r : Rt) : Int := (mkF r.c 100).2.1
/-- the sixteen cells of a rate -/
def rateC (r : Rt) (x y : Value) : List Value := [.int .i64 (r.a0 : Nat), .int .i64 (r.a1 : Nat), .int .i64 (r.a2 : Nat), .int .i64 (r.a3 : Nat), .int .i64 (r.a4 : Nat), .int .i64 (r.a5 : Nat), .int .i64 (r.a6 : Nat), .int .i64 (r.a7 : Nat), .int .i64 r.kn, .int .i64 r.kd,
  .int .i64 r.when.o, .int .i64 r.when.n, x, .int .i64 r.price.o, .int .i64 r.price.n, y]
def RateV (Q : Nat → Prop) (w : World) (r : Rt) (cells : List Value) : Prop := ∃ ad cap ad2 cap2, cells = rateC r (.slice ad r.when.ks.length cap) (.slice ad2 r.price.ks.length cap2) ∧
  Tree Q w r.when (.agg #[.int .i64 r.when.o, .int .i64 r.when.n, .slice ad r.when.ks.length cap]) ∧ Tree Q w r.price (.agg #[.int .i64 r.price.o, .int .i64 r.price.n, .slice ad2 r.price.ks.length cap2])
theorem RateV.go {Q R : Nat → Prop} {w w' : World} (hz : w.heap.size ≤ w'.heap.size) (h : ∀ k, k < w.heap.size → ¬ Q k → w'.heap[k]? = w.heap[k]? ∧ ¬ R k) {r : Rt} {c : List Value} (hr : RateV Q w r c) : RateV R w' r c := by
  obtain ⟨ad, cap, ad2, cap2, e, h1, h2⟩ := hr
  exact ⟨ad, cap, ad2, cap2, e, Tree.go hz h h1, Tree.go hz h h2⟩
def RatesC (Q : Nat → Prop) (w : World) : List Rt → List Value → Prop
  | [], c => c = []
  | r :: rs, c => ∃ c1 c2, c = c1 ++ c2 ∧ RateV Q w r c1 ∧ RatesC Q w rs c2
theorem RatesC.go {Q R : Nat → Prop} {w w' : World} (hz : w.heap.size ≤ w'.heap.size) (h : ∀ k, k < w.heap.size → ¬ Q k → w'.heap[k]? = w.heap[k]? ∧ ¬ R k) : ∀ {rs : List Rt} {c : List Value}, RatesC Q w rs c → RatesC R w' rs c
  | [], _, hr => hr
  | _ :: _, _, ⟨c1, c2, e, h1, h2⟩ => ⟨c1, c2, e, h1.go hz h, RatesC.go hz h h2⟩
theorem RatesC.snoc {Q : Nat → Prop} {w : World} {r : Rt} {d : List Value} (hd : RateV Q w r d) : ∀ {rs : List Rt} {c : List Value}, RatesC Q w rs c → RatesC Q w (rs ++ [r]) (c ++ d)
  | [], _, hr => ⟨d, [], by rw [hr]; simp, hd, rfl⟩
  | x :: rs, _, ⟨c1, c2, e, h1, h2⟩ => ⟨c1, c2 ++ d, by rw [e, List.append_assoc], h1, RatesC.snoc hd h2⟩
theorem RateV.len {Q : Nat → Prop} {w : World} {r : Rt} {c : List Value} (h : RateV Q w r c) : c.length = 16 := by
  obtain ⟨_, _, _, _, rfl, _, _⟩ := h; rfl
theorem RatesC.len {Q : Nat → Prop} {w : World} : ∀ {rs : List Rt} {c : List Value}, RatesC Q w rs c → c.length = rs.length * 16
  | [], _, h => by rw [h]; rfl
  | r :: rs, _, ⟨c1, c2, e, h1, h2⟩ => by rw [e, List.length_append, h1.len, RatesC.len h2, List.length_cons]; omega
theorem RatesC.app {Q : Nat → Prop} {w : World} {ss : List Rt} {d : List Value} (hd : RatesC Q w ss d) : ∀ {rs : List Rt} {c : List Value}, RatesC Q w rs c → RatesC Q w (rs ++ ss) (c ++ d)
  | [], _, hr => by rw [hr]; exact hd
  | x :: rs, _, ⟨c1, c2, e, h1, h2⟩ => ⟨c1, c2 ++ d, by rw [e, List.append_assoc], h1, RatesC.app hd h2⟩
/-- the cells of the rate at a place -/
theorem RatesC.at {Q : Nat → Prop} {w : World} : ∀ {rs : List Rt} {c : List Value}, RatesC Q w rs c → ∀ (k : Nat) (hk : k < rs.length), ∃ c1, RateV Q w rs[k] c1 ∧ ∀ j u, c1[j]? = some u → c[k * 16 + j]? = some u
  | _ :: _, _, ⟨c1, c2, e, h1, _⟩, 0, _ => ⟨c1, h1, fun j u hj => by rw [e, Nat.zero_mul, Nat.zero_add, List.getElem?_append_left (List.getElem?_eq_some_iff.1 hj).1]; exact hj⟩
  | r :: rs, _, ⟨c1, c2, e, h1, h2⟩, k + 1, hk => by
    obtain ⟨d, hd, hc⟩ := RatesC.at h2 k (by simpa using hk)
    refine ⟨d, hd, fun j u hj => ?_⟩
    rw [e, List.getElem?_append_right (by rw [h1.len]; omega), h1.len, show (k + 1) * 16 + j - 16 = k * 16 + j by omega]
    exact hc j u hj
end Go.Proofs.YthnlenbfknbmcaaGreatDoor
namespace Go.Proofs.YthnlenbfknbmcaaGreatDoor
open Go.RowKit Go.Shelf
set_option maxRecDepth 100000

def SzEnd (e : Xp) (l m : Nat) (w : World) (x : Ending) (w' : World) : Prop :=
  ∃ z : Int, x = .returned (.int .i64 z) ∧ ((okE e = true ∧ depE e ≤ l ∧ cntE e ≤ m ∧ z = m - cntE e) ∨ (¬ (okE e = true ∧ depE e ≤ l ∧ cntE e ≤ m) ∧ z = -1)) ∧ Below w.heap.size w w'
set_option maxHeartbeats 3200000 in
theorem size_any (Q : Nat → Prop) : ∀ (e : Xp) (l m : Nat) (v : Value) (w : World), l ≤ 1000 → m ≤ 1000 → Tree Q w e v → Calls Tryz.prog 31 #[v, .int .i64 (l : Nat), .int .i64 (m : Nat)] w (SzEnd e l m w) := by
  intro e
  induction e using Xp.ind with
  | h o nn kids ih =>
  intro l m v w hl hm ht
  obtain ⟨ad, cap, rfl, hlen, hks⟩ := ht.shape
  simp only [Xp.o, Xp.n, Xp.ks] at *
  have hw1 : IntKind.i64.wrap ((l : Int) - 1) = (l : Int) - 1 := IntWalk.i64_in _ (by omega)
  have hw2 : IntKind.i64.wrap ((m : Int) - 1) = (m : Int) - 1 := IntWalk.i64_in _ (by omega)
  have hcnt : cntE (.mk o nn kids) = 1 + cntL kids := cntE_mk _ _ _
  have hdep : depE (.mk o nn kids) = 1 + depL kids := depE_mk _ _ _
  have hok : okE (.mk o nn kids) = (nodeB o nn kids.length && okL kids) := okE_mk _ _ _
  have hnd := fun w => rnode_any o nn ad kids.length cap w
  cases hC : nodeB o nn kids.length with
  | false =>
    have HF : Hid (¬ (okE (.mk o nn kids) = true ∧ depE (.mk o nn kids) ≤ l ∧ cntE (.mk o nn kids) ≤ m)) := Lib.hid (by rintro ⟨h, _, _⟩; rw [hok, hC] at h; cases h)
    rw [hC] at hnd
    clear ih hks ht hcnt hdep hok hC
    go_enter Tryz.func31, Tryz.ntmps31
    go_wp2_with fail
    refine (hnd _).mono ?_
    rintro e w1 ⟨rfl, hb⟩
    go_wp2_with fail
    go_ret
    exact ⟨-1, rfl, .inr ⟨HF.out, rfl⟩, Below.trans (by (repeat (first | exact Below.refl _ _ | assumption | refine Below.drew ?_ | refine below_drewN ?_ _ | refine Below.setCell ?_ (by first | omega | (simp <;> omega)) _ | refine Below.alloc ?_ (by first | omega | (simp <;> omega)) _))) (hb.mono (by simp))⟩
  | true =>
  rw [hC] at hnd
  by_cases hA : l < 1
  · have hA' : decide ((l : Int) < 1) = true := by simp; omega
    have hA2 : decide (l < 1) = true := by simp; omega
    have HF : Hid (¬ (okE (.mk o nn kids) = true ∧ depE (.mk o nn kids) ≤ l ∧ cntE (.mk o nn kids) ≤ m)) := Lib.hid (by rintro ⟨_, h, _⟩; omega)
    clear ih hks ht hcnt hdep hok hC hA
    go_enter Tryz.func31, Tryz.ntmps31
    go_wp2_with fail
    refine (hnd _).mono ?_
    rintro e w1 ⟨rfl, hb⟩
    go_wp2_with fail
    go_ret
    exact ⟨-1, rfl, .inr ⟨HF.out, rfl⟩, Below.trans (by (repeat (first | exact Below.refl _ _ | assumption | refine Below.drew ?_ | refine below_drewN ?_ _ | refine Below.setCell ?_ (by first | omega | (simp <;> omega)) _ | refine Below.alloc ?_ (by first | omega | (simp <;> omega)) _))) (hb.mono (by simp))⟩
  have hA' : decide ((l : Int) < 1) = false := by simp; omega
  have hA2 : decide (l < 1) = false := by simp; omega
  by_cases hB : m < 1
  · have hB' : decide ((m : Int) < 1) = true := by simp; omega
    have hB2 : decide (m < 1) = true := by simp; omega
    have HF : Hid (¬ (okE (.mk o nn kids) = true ∧ depE (.mk o nn kids) ≤ l ∧ cntE (.mk o nn kids) ≤ m)) := Lib.hid (by rintro ⟨_, _, h⟩; omega)
    clear ih hks ht hcnt hdep hok hC hA hB
    go_enter Tryz.func31, Tryz.ntmps31
    go_wp2_with fail
    refine (hnd _).mono ?_
    rintro e w1 ⟨rfl, hb⟩
    go_wp2_with fail
    go_ret
    exact ⟨-1, rfl, .inr ⟨HF.out, rfl⟩, Below.trans (by (repeat (first | exact Below.refl _ _ | assumption | refine Below.drew ?_ | refine below_drewN ?_ _ | refine Below.setCell ?_ (by first | omega | (simp <;> omega)) _ | refine Below.alloc ?_ (by first | omega | (simp <;> omega)) _))) (hb.mono (by simp))⟩
  have hB' : decide ((m : Int) < 1) = false := by simp; omega
  have hB2 : decide (m < 1) = false := by simp; omega
  have hIH : ∀ (k : Nat) (hk : k < kids.length) (m2 : Nat) (v2 : Value) (w2 : World), m2 ≤ 1000 → Tree Q w2 kids[k] v2 → Calls Tryz.prog 31 #[v2, .int .i64 ((l : Int) - 1), .int .i64 (m2 : Nat)] w2 (SzEnd kids[k] (l - 1) m2 w2) := fun k hk m2 v2 w2 h1 h2 => by
    have := ih kids[k] (List.getElem_mem hk) (l - 1) m2 v2 w2 (by omega) h1 h2
    rw [show ((l - 1 : Nat) : Int) = (l : Int) - 1 by omega] at this
    exact this
  have hC2 := hC
  clear ih hC
  go_enter Tryz.func31, Tryz.ntmps31
  go_wp2_with fail
  refine (hnd _).mono ?_
  rintro e w1 ⟨rfl, hb⟩
  have o2 := (Own.new w #[.int .i64 o, .int .i64 nn, .slice ad kids.length cap] 24).below hb
  have hb1 : Below w.heap.size w w1 := Below.trans (by (repeat (first | exact Below.refl _ _ | assumption | refine Below.drew ?_ | refine below_drewN ?_ _ | refine Below.setCell ?_ (by first | omega | (simp <;> omega)) _ | refine Below.alloc ?_ (by first | omega | (simp <;> omega)) _))) (hb.mono (by simp))
  clear hnd hb
  go_wp2_with fail
  go_loopw [8, 9] (fun z i wr => ∃ k : Nat, i = .int .i64 k ∧ k ≤ kids.length ∧ okL (kids.take k) = true ∧ depL (kids.take k) + 1 ≤ l ∧ 1 + cntL (kids.take k) ≤ m ∧ z = .int .i64 ((m - 1 - cntL (kids.take k) : Nat) : Int) ∧ Own wr w.heap.size [.int .i64 o, .int .i64 nn, .slice ad kids.length cap] ∧ Below w.heap.size w wr) (fun _ i _ => kids.length - (intOf i).toNat)
  case atStart => exact ⟨0, rfl, Nat.zero_le _, by simp [okL], by simp [depL]; omega, by simp [cntL]; omega, by simp [cntL]; omega, o2, hb1⟩
  case round =>
    obtain ⟨k, rfl, hkl, r1, r2, r3, rfl, q1, q2⟩ := hrel
    obtain ⟨u0, u1, u2, -, -, -, uz⟩ := q1.three
    by_cases hk : k < kids.length
    · obtain ⟨c1, c2⟩ := cnt_at hk
      obtain ⟨d1, d2⟩ := dep_at hk
      have e1 := ok_at hk
      have t1 := ht.below q2
      obtain ⟨ad', cap', hv', -, ts⟩ := t1.shape
      have hadd : ad' = ad := by simp [Xp.o, Xp.n, Xp.ks] at hv'; exact hv'.1.symm
      subst hadd
      obtain ⟨a, ad2, cap2, rfl, m0, m1, m2, tk, hab⟩ := ts.reads k hk
      simp only [Xp.ks] at m0 m1 m2 tk
      have hmem := List.getElem_mem hk
      have hwk : IntKind.i64.wrap ((k : Int) + 1) = (k : Int) + 1 := IntWalk.i64_in _ (by omega)
      obtain ⟨c, hc⟩ : ∃ c, m - 1 - cntL (kids.take k) = c := ⟨_, rfl⟩
      have hcall := hIH k hk c _ wr (by omega) tk
      have HA : Hid (okE kids[k] = true ∧ depE kids[k] ≤ l - 1 ∧ cntE kids[k] ≤ c → okL (kids.take (k + 1)) = true ∧ depL (kids.take (k + 1)) + 1 ≤ l ∧ 1 + cntL (kids.take (k + 1)) ≤ m ∧ (c : Int) - cntE kids[k] = ((m - 1 - cntL (kids.take (k + 1)) : Nat) : Int)) := Lib.hid (by
        rintro ⟨h1, h2, h3⟩
        exact ⟨by rw [e1, r1, h1]; rfl, by omega, by omega, by omega⟩)
      have HB : Hid (okE (.mk o nn kids) = true ∧ depE (.mk o nn kids) ≤ l ∧ cntE (.mk o nn kids) ≤ m → okE kids[k] = true ∧ depE kids[k] ≤ l - 1 ∧ cntE kids[k] ≤ c) := Lib.hid (by
        rintro ⟨h1, h2, h3⟩
        rw [hok, Bool.and_eq_true] at h1
        exact ⟨okL_mem h1.2 _ hmem, by omega, by omega⟩)
      rw [hc]
      generalize kids[k] = x at *
      clear c1 c2 d1 d2 e1 hmem r1 r2 r3 hv' t1 ts hcnt hdep hok hc
      go_wp2_with fail
      refine hcall.mono ?_
      rintro e w2 ⟨z, rfl, hz, kk⟩
      have q3 := q2.trans (kk.mono q2.size)
      replace q1 := q1.below kk
      rcases hz with ⟨h1, h2, h3, rfl⟩ | ⟨h1, rfl⟩
      · obtain ⟨g1, g2, g3, g4⟩ := HA.out ⟨h1, h2, h3⟩
        have hg5 : decide ((m : Int) - 1 - cntL (kids.take (k + 1)) < 0) = false := by simp; omega
        rw [g4]
        clear h1 h2 h3 u0 u1 u2 g4
        go_wp2_with fail
        go_roundw
        case rel => exact ⟨k + 1, by go_num, by omega, g1, g2, g3, rfl, q1, q3⟩
        case measure => simp [intOf]; omega
      · have HF : Hid (¬ (okE (.mk o nn kids) = true ∧ depE (.mk o nn kids) ≤ l ∧ cntE (.mk o nn kids) ≤ m)) := Lib.hid (fun h => h1 (HB.out h))
        clear h1
        go_wp2_with fail
        go_ret
        exact ⟨-1, rfl, .inr ⟨HF.out, rfl⟩, q3⟩
    · have hkE : k = kids.length := by omega
      subst hkE
      rw [List.take_length] at *
      have HT : Hid (okE (.mk o nn kids) = true ∧ depE (.mk o nn kids) ≤ l ∧ cntE (.mk o nn kids) ≤ m ∧ ((m - 1 - cntL kids : Nat) : Int) = m - cntE (.mk o nn kids)) := Lib.hid ⟨by rw [hok, r1, Bool.and_true]; exact hC2, by omega, by omega, by omega⟩
      clear hcnt hdep hok r1 r2 r3
      go_wp2_with fail
      go_ret
      exact ⟨_, rfl, .inl HT.out, q2⟩
set_option maxHeartbeats 800000 in
theorem rvalid8_any {Q : Nat → Prop} (e : Xp) (v : Value) (w : World) (ht : Tree Q w e v) : Calls Tryz.prog 12 #[v] w (Ret (.bool (validF e)) w) := by
  have hsz := fun w1 h => size_any Q e 30 200 v w1 (by omega) (by omega) (Tree.below ht (w' := w1) h)
  obtain ⟨ad, cap, rfl, -, -⟩ := ht.shape
  have HV : Hid (validF e = true ↔ okE e = true ∧ depE e ≤ 30 ∧ cntE e ≤ 200) := Lib.hid (by
    unfold validF
    simp only [Bool.and_eq_true, decide_eq_true_eq]
    exact ⟨fun ⟨⟨h1, h2⟩, h3⟩ => ⟨h1, h3, h2⟩, fun ⟨h1, h2, h3⟩ => ⟨⟨h1, h3⟩, h2⟩⟩)
  go_enter Tryz.func12, Tryz.ntmps12
  go_wp2_with fail
  refine (hsz _ (by (repeat (first | exact Below.refl _ _ | assumption | refine Below.drew ?_ | refine below_drewN ?_ _ | refine Below.setCell ?_ (by first | omega | (simp <;> omega)) _ | refine Below.alloc ?_ (by first | omega | (simp <;> omega)) _)))).mono ?_
  rintro x w1 ⟨z, rfl, hz, hk⟩
  have hb1 : Below w.heap.size w w1 := Below.trans (by (repeat (first | exact Below.refl _ _ | assumption | refine Below.drew ?_ | refine below_drewN ?_ _ | refine Below.setCell ?_ (by first | omega | (simp <;> omega)) _ | refine Below.alloc ?_ (by first | omega | (simp <;> omega)) _))) (hk.mono (by simp))
  rcases hz with ⟨h1, h2, h3, rfl⟩ | ⟨h1, rfl⟩
  · have hd : decide (((200 : Nat) : Int) - cntE e ≥ 0) = true := by simp; omega
    have e1 : Hid (validF e = true) := Lib.hid (HV.out.2 ⟨h1, h2, h3⟩)
    clear h1 h2
    go_wp2_with fail
    go_ret
    exact Ret.mk (boolV (by simp [e1.out]; omega)) hb1
  · have e1 : Hid (validF e = false) := Lib.hid (by rw [Bool.eq_false_iff]; exact fun h => h1 (HV.out.1 h))
    clear h1
    go_wp2_with fail
    go_ret
    exact Ret.mk (boolV (by simp [e1.out])) hb1

/-! ### left and few -/
def LfEnd (e : Xp) (l m : Nat) (w : World) (x : Ending) (w' : World) : Prop :=
  ∃ z : Int, x = .returned (.int .i64 z) ∧ ((depE e ≤ l ∧ cntE e ≤ m ∧ z = m - cntE e) ∨ (¬ (depE e ≤ l ∧ cntE e ≤ m) ∧ z < 0 ∧ -1 ≤ z)) ∧ Below w.heap.size w w'
set_option maxHeartbeats 3200000 in
theorem left_any (Q : Nat → Prop) : ∀ (e : Xp) (l m : Nat) (v : Value) (w : World), l ≤ 1000 → m ≤ 1000 → Tree Q w e v → Calls Tryz.prog 22 #[v, .int .i64 (l : Nat), .int .i64 (m : Nat)] w (LfEnd e l m w) := by
  intro e
  induction e using Xp.ind with
  | h o nn kids ih =>
  intro l m v w hl hm ht
  obtain ⟨ad, cap, rfl, hlen, hks⟩ := ht.shape
  simp only [Xp.o, Xp.n, Xp.ks] at *
  have hw1 : IntKind.i64.wrap ((l : Int) - 1) = (l : Int) - 1 := IntWalk.i64_in _ (by omega)
  have hw2 : IntKind.i64.wrap ((m : Int) - 1) = (m : Int) - 1 := IntWalk.i64_in _ (by omega)
  have hcnt : cntE (.mk o nn kids) = 1 + cntL kids := cntE_mk _ _ _
  have hdep : depE (.mk o nn kids) = 1 + depL kids := depE_mk _ _ _
  by_cases hA : l < 1
  · have hA' : decide ((l : Int) < 1) = true := by simp; omega
    have hA2 : decide (l < 1) = true := by simp; omega
    have HF : Hid (¬ (depE (.mk o nn kids) ≤ l ∧ cntE (.mk o nn kids) ≤ m)) := Lib.hid (by rintro ⟨h, _⟩; omega)
    clear ih hks ht hcnt hdep hA
    go_enter Tryz.func22, Tryz.ntmps22
    go_wp2_with fail
    go_ret
    exact ⟨-1, rfl, .inr ⟨HF.out, by omega, by omega⟩, by (repeat (first | exact Below.refl _ _ | assumption | refine Below.drew ?_ | refine below_drewN ?_ _ | refine Below.setCell ?_ (by first | omega | (simp <;> omega)) _ | refine Below.alloc ?_ (by first | omega | (simp <;> omega)) _))⟩
  have hA' : decide ((l : Int) < 1) = false := by simp; omega
  have hA2 : decide (l < 1) = false := by simp; omega
  have hIH : ∀ (k : Nat) (hk : k < kids.length) (m2 : Nat) (v2 : Value) (w2 : World), m2 ≤ 1000 → Tree Q w2 kids[k] v2 → Calls Tryz.prog 22 #[v2, .int .i64 ((l : Int) - 1), .int .i64 (m2 : Nat)] w2 (LfEnd kids[k] (l - 1) m2 w2) := fun k hk m2 v2 w2 h1 h2 => by
    have := ih kids[k] (List.getElem_mem hk) (l - 1) m2 v2 w2 (by omega) h1 h2
    rw [show ((l - 1 : Nat) : Int) = (l : Int) - 1 by omega] at this
    exact this
  clear ih
  have o2 := Own.new w #[.int .i64 o, .int .i64 nn, .slice ad kids.length cap] 24
  have hb1 : Below w.heap.size w (w.alloc (.cells #[.int .i64 o, .int .i64 nn, .slice ad kids.length cap] 24)) := by (repeat (first | exact Below.refl _ _ | assumption | refine Below.drew ?_ | refine below_drewN ?_ _ | refine Below.setCell ?_ (by first | omega | (simp <;> omega)) _ | refine Below.alloc ?_ (by first | omega | (simp <;> omega)) _))
  go_enter Tryz.func22, Tryz.ntmps22
  go_wp2_with fail
  go_loopw [2, 7] (fun z i wr => ∃ (k : Nat) (y : Int), i = .int .i64 k ∧ z = .int .i64 y ∧ k ≤ kids.length ∧ ((depL (kids.take k) + 1 ≤ l ∧ cntL (kids.take k) ≤ m ∧ y = (m : Int) - 1 - cntL (kids.take k)) ∨ (y < 0 ∧ -1 ≤ y ∧ ¬ (depE (.mk o nn kids) ≤ l ∧ cntE (.mk o nn kids) ≤ m))) ∧ Own wr w.heap.size [.int .i64 o, .int .i64 nn, .slice ad kids.length cap] ∧ Below w.heap.size w wr) (fun _ i _ => kids.length - (intOf i).toNat)
  case atStart => exact ⟨0, (m : Int) - 1, rfl, rfl, Nat.zero_le _, .inl ⟨by simp [depL]; omega, by simp [cntL], by simp [cntL]⟩, o2, hb1⟩
  case round =>
    obtain ⟨k, y, rfl, rfl, hkl, hy, q1, q2⟩ := hrel
    obtain ⟨u0, u1, u2, -, -, -, uz⟩ := q1.three
    have hyl : -1 ≤ y ∧ y ≤ 1000 := by rcases hy with h | h <;> omega
    by_cases hk : k < kids.length
    · by_cases hy0 : 0 ≤ y
      · obtain ⟨r1, r2, r3⟩ : depL (kids.take k) + 1 ≤ l ∧ cntL (kids.take k) ≤ m ∧ y = (m : Int) - 1 - cntL (kids.take k) := by
          rcases hy with h | h
          · exact h
          · omega
        clear hy
        obtain ⟨c1, c2⟩ := cnt_at hk
        obtain ⟨d1, d2⟩ := dep_at hk
        have t1 := ht.below q2
        obtain ⟨ad', cap', hv', -, ts⟩ := t1.shape
        have hadd : ad' = ad := by simp [Xp.o, Xp.n, Xp.ks] at hv'; exact hv'.1.symm
        subst hadd
        obtain ⟨a, ad2, cap2, rfl, m0, m1, m2, tk, hab⟩ := ts.reads k hk
        simp only [Xp.ks] at m0 m1 m2 tk
        have hwk : IntKind.i64.wrap ((k : Int) + 1) = (k : Int) + 1 := IntWalk.i64_in _ (by omega)
        obtain ⟨c, rfl⟩ : ∃ c : Nat, y = c := ⟨y.toNat, by omega⟩
        have hcall := hIH k hk c _ wr (by omega) tk
        have HA : Hid (depE kids[k] ≤ l - 1 ∧ cntE kids[k] ≤ c → depL (kids.take (k + 1)) + 1 ≤ l ∧ cntL (kids.take (k + 1)) ≤ m ∧ (c : Int) - cntE kids[k] = (m : Int) - 1 - cntL (kids.take (k + 1))) := Lib.hid (by
          rintro ⟨h1, h2⟩
          exact ⟨by omega, by omega, by omega⟩)
        have HB : Hid (depE (.mk o nn kids) ≤ l ∧ cntE (.mk o nn kids) ≤ m → depE kids[k] ≤ l - 1 ∧ cntE kids[k] ≤ c) := Lib.hid (by
          rintro ⟨h1, h2⟩
          exact ⟨by omega, by omega⟩)
        have hg : decide ((c : Int) ≥ 0) = true := by simp
        generalize kids[k] = x at *
        clear c1 c2 d1 d2 r1 r2 r3 hv' t1 ts hcnt hdep
        go_wp2_with fail
        refine hcall.mono ?_
        rintro e w2 ⟨z, rfl, hz, kk⟩
        have q3 := q2.trans (kk.mono q2.size)
        replace q1 := q1.below kk
        have HZ : Hid ((depL (kids.take (k + 1)) + 1 ≤ l ∧ cntL (kids.take (k + 1)) ≤ m ∧ z = (m : Int) - 1 - cntL (kids.take (k + 1))) ∨ (z < 0 ∧ -1 ≤ z ∧ ¬ (depE (.mk o nn kids) ≤ l ∧ cntE (.mk o nn kids) ≤ m))) := Lib.hid (by
          rcases hz with ⟨h1, h2, h3⟩ | ⟨h1, h2, h3⟩
          · obtain ⟨g1, g2, g3⟩ := HA.out ⟨h1, h2⟩
            exact .inl ⟨g1, g2, h3.trans g3⟩
          · exact .inr ⟨h2, h3, fun h => h1 (HB.out h)⟩)
        clear hz u0 u1 u2
        go_wp2_with fail
        go_roundw
        case rel => exact ⟨k + 1, z, by go_num, rfl, by omega, HZ.out, q1, q3⟩
        case measure => simp [intOf]; omega
      · have hg : decide (y ≥ 0) = false := by simp; omega
        have hg2 : decide (0 ≤ y) = false := by simp; omega
        have HF : Hid (¬ (depE (.mk o nn kids) ≤ l ∧ cntE (.mk o nn kids) ≤ m)) := Lib.hid (by
          rcases hy with ⟨h1, h2, h3⟩ | ⟨_, _, h⟩
          · rintro ⟨_, h5⟩
            obtain ⟨c1, c2⟩ := cnt_at hk
            have := cnt_pos kids[k]
            omega
          · exact h)
        clear hy hcnt hdep
        go_wp2_with fail
        go_ret
        exact ⟨y, rfl, .inr ⟨HF.out, by omega, hyl.1⟩, q2⟩
    · have hkE : k = kids.length := by omega
      subst hkE
      rw [List.take_length] at *
      have HT : Hid ((depE (.mk o nn kids) ≤ l ∧ cntE (.mk o nn kids) ≤ m ∧ y = m - cntE (.mk o nn kids)) ∨ (¬ (depE (.mk o nn kids) ≤ l ∧ cntE (.mk o nn kids) ≤ m) ∧ y < 0 ∧ -1 ≤ y)) := Lib.hid (by
        rcases hy with ⟨h1, h2, h3⟩ | ⟨h1, h2, h3⟩
        · by_cases hc : 1 + cntL kids ≤ m
          · exact .inl ⟨by omega, by omega, by omega⟩
          · exact .inr ⟨by omega, by omega, by omega⟩
        · exact .inr ⟨h3, h1, h2⟩)
      clear hcnt hdep hy
      go_wp2_with fail
      go_ret
      exact ⟨y, rfl, HT.out, q2⟩
def fewE (e : Xp) : Bool := decide (depE e ≤ 60) && decide (cntE e ≤ 400)
set_option maxHeartbeats 800000 in
theorem few8_any {Q : Nat → Prop} (e : Xp) (v : Value) (w : World) (ht : Tree Q w e v) : Calls Tryz.prog 7 #[v] w (Ret (.bool (fewE e)) w) := by
  have hsz := fun w1 h => left_any Q e 60 400 v w1 (by omega) (by omega) (Tree.below ht (w' := w1) h)
  obtain ⟨ad, cap, rfl, -, -⟩ := ht.shape
  have HV : Hid (fewE e = true ↔ depE e ≤ 60 ∧ cntE e ≤ 400) := Lib.hid (by
    unfold fewE
    simp only [Bool.and_eq_true, decide_eq_true_eq])
  go_enter Tryz.func7, Tryz.ntmps7
  go_wp2_with fail
  refine (hsz _ (by (repeat (first | exact Below.refl _ _ | assumption | refine Below.drew ?_ | refine below_drewN ?_ _ | refine Below.setCell ?_ (by first | omega | (simp <;> omega)) _ | refine Below.alloc ?_ (by first | omega | (simp <;> omega)) _)))).mono ?_
  rintro x w1 ⟨z, rfl, hz, hk⟩
  have hb1 : Below w.heap.size w w1 := Below.trans (by (repeat (first | exact Below.refl _ _ | assumption | refine Below.drew ?_ | refine below_drewN ?_ _ | refine Below.setCell ?_ (by first | omega | (simp <;> omega)) _ | refine Below.alloc ?_ (by first | omega | (simp <;> omega)) _))) (hk.mono (by simp))
  have HZ : Hid (0 ≤ z ↔ fewE e = true) := Lib.hid (by
    rw [HV.out]
    rcases hz with ⟨h1, h2, h3⟩ | ⟨h1, h2, h3⟩
    · exact ⟨fun _ => ⟨h1, h2⟩, fun _ => by omega⟩
    · exact ⟨fun h => by omega, fun h => absurd h h1⟩)
  clear hz
  go_wp2_with fail
  go_ret
  exact Ret.mk (boolV (by simp [← HZ.out])) hb1
end Go.Proofs.YthnlenbfknbmcaaGreatDoor
