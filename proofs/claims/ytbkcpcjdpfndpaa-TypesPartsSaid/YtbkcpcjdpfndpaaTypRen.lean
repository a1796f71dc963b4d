/-
  An expression with other numbers, at the law's own function: a recursion that appends.
-/
import Derived.Test.YtbkcpcjdpfndpaaTypRow
import Derived.Deep.RegionLaw
import Derived.Deep.DeepCutAuto
namespace Go.Proofs.Ytbkcpcjdpfndpaa
open Go.RowKit Go.Shelf
set_option maxRecDepth 100000
set_option linter.unusedVariables false

/-- what it gives: the tree, of blocks that it made -/
def RnEnd (r : Xp) (w : World) (x : Ending) (w' : World) : Prop := ∃ ad cap, x = .returned (.agg #[.int .i64 r.o, .int .i64 r.n, .slice ad r.ks.length cap]) ∧ Tree (Lo w.heap.size) w' r (.agg #[.int .i64 r.o, .int .i64 r.n, .slice ad r.ks.length cap]) ∧ Below w.heap.size w w'
/-- bars: what stood before, and a row's own block -/
def Rb (n : Nat) (v : Value) : Nat → Prop := fun k => k < n ∨ v.ownBlock = some k
theorem town_set {w : World} {base : Nat} {e : TypeId} {size n : Nat} {v : Value} {xs : List Value} (h : w.ownsRow base e size v n xs) {p : Addr} (hp : ∀ r, v.ownBlock = some r → r ≠ p.block) (u : Value) : (w.setCell p u).ownsRow base e size v n xs := by
  obtain ⟨h0, h1 | ⟨g, cap, cur, hv, hg, hh, hr⟩⟩ := h
  · exact ⟨h0, .inl h1⟩
  · have hk := (Kept.refl (some p.block) w).set (b := p) (.inl rfl) u
    refine ⟨h0, .inr ⟨g, cap, cur, hv, hg, (hk.block g (Array.getElem?_eq_some_iff.1 hh).1 (fun e => ?_)).trans hh, hr⟩⟩
    exact hp g (by rw [hv]; rfl) (Option.some.inj e).symm
theorem town_val {w : World} {base : Nat} {e : TypeId} {size n : Nat} {v : Value} {xs : List Value} (h : w.ownsRow base e size v n xs) : ∃ p cap, v = .slice p n cap ∧ n ≤ cap ∧ (n = 0 ∨ ∃ g, p = some ⟨g, 0, none⟩ ∧ base ≤ g ∧ Own w g xs) := by
  obtain ⟨_, ⟨rfl, rfl⟩ | ⟨g, cap, cur, rfl, hg, hh, hcap, hr⟩⟩ := id h
  · exact ⟨none, 0, rfl, by omega, .inl rfl⟩
  · exact ⟨_, cap, rfl, by omega, .inr ⟨g, rfl, hg, own_of_row h⟩⟩
theorem renL_take0 (l : List Xp) (n : Nat) : (renL l n).take l.length = renL l n := by rw [← renL_len l n, List.take_length]
/-- the number at the top -/
def topN (o nn : Int) (n : Nat) : Int := if o = 1 ∨ o = 2 then (n : Int) else if o = 3 then 1 + (n : Int) % 4 else nn
set_option maxHeartbeats 6400000 in
theorem ren_any : ∀ (e : Xp) (n : Nat) (v : Value) (w : World), okE e = true → n + 2 * depE e ≤ 999999999 → Tree (fun _ => False) w e v → Calls Try.prog 18 #[v, .int .i64 (n : Nat)] w (RnEnd (renE e n) w) := by
  intro e
  induction e using Xp.ind with
  | h o nn kids ih =>
  intro n v w hok hn ht
  obtain ⟨ad, cap, rfl, hlen, hks⟩ := ht.shape
  simp only [Xp.o, Xp.n, Xp.ks] at *
  rw [okE_mk, Bool.and_eq_true] at hok
  obtain ⟨hnode, hokl⟩ := hok
  have hk3 := kids_le hnode
  rw [depE_mk] at hn
  have hIH : ∀ (k : Nat) (hk : k < kids.length) (v2 : Value) (w2 : World), Tree (fun _ => False) w2 kids[k] v2 → Calls Try.prog 18 #[v2, .int .i64 ((n : Int) + (k : Int))] w2 (RnEnd (renE kids[k] (n + k)) w2) := fun k hk v2 w2 h2 =>
    by have h3 := ih kids[k] (List.getElem_mem hk) (n + k) v2 w2 (okL_mem hokl _ (List.getElem_mem hk)) (by have := depL_mem kids[k] (List.getElem_mem hk); omega) h2; rw [Int.natCast_add] at h3; exact h3
  clear ih
  have hn2 : n + 3 ≤ 1000000000 := by omega
  rw [renE_mk]
  change Calls _ _ _ _ (RnEnd (.mk o (topN o nn n) (renL kids n)) w)
  obtain ⟨N, hN⟩ : ∃ N, topN o nn n = N := ⟨_, rfl⟩
  rw [hN]
  unfold topN at hN
  have ox := ((Own.new w #[.int .i64 o, .int .i64 nn, .slice ad kids.length cap] 24).alloc (.cells #[.int .i64 0, .int .i64 0, .slice none 0 0] 24)).alloc (.cells #[.int .i64 o, .int .i64 nn, .slice none 0 0] 24)
  have oz := (Own.new (w.alloc (.cells #[.int .i64 o, .int .i64 nn, .slice ad kids.length cap] 24)) #[.int .i64 0, .int .i64 0, .slice none 0 0] 24).alloc (.cells #[.int .i64 o, .int .i64 nn, .slice none 0 0] 24)
  have oo := Own.new ((w.alloc (.cells #[.int .i64 o, .int .i64 nn, .slice ad kids.length cap] 24)).alloc (.cells #[.int .i64 0, .int .i64 0, .slice none 0 0] 24)) #[.int .i64 o, .int .i64 nn, .slice none 0 0] 24
  simp only [World.size_alloc] at oz oo
  have hb : Below w.heap.size w (((w.alloc (.cells #[.int .i64 o, .int .i64 nn, .slice ad kids.length cap] 24)).alloc (.cells #[.int .i64 0, .int .i64 0, .slice none 0 0] 24)).alloc (.cells #[.int .i64 o, .int .i64 nn, .slice none 0 0] 24)) := by (repeat (first | exact Below.refl _ _ | assumption | refine Below.drew ?_ | refine below_drewN ?_ _ | refine Below.setCell ?_ (by first | omega | (simp <;> omega)) _ | refine Below.alloc ?_ (by first | omega | (simp <;> omega)) _))
  have hsz : (((w.alloc (.cells #[.int .i64 o, .int .i64 nn, .slice ad kids.length cap] 24)).alloc (.cells #[.int .i64 0, .int .i64 0, .slice none 0 0] 24)).alloc (.cells #[.int .i64 o, .int .i64 nn, .slice none 0 0] 24)).heap.size = w.heap.size + 3 := by simp only [World.size_alloc]
  go_enter Try.func18, Try.ntmps18
  go_upto_region 2 with (fail)
  obtain ⟨W, hW⟩ : ∃ W, W = (((w.alloc (.cells #[.int .i64 o, .int .i64 nn, .slice ad kids.length cap] 24)).alloc (.cells #[.int .i64 0, .int .i64 0, .slice none 0 0] 24)).alloc (.cells #[.int .i64 o, .int .i64 nn, .slice none 0 0] 24)) := ⟨_, rfl⟩
  rw [← hW] at ox oz oo hb hsz
  rw [← hW]
  clear hW
  obtain ⟨bZ, hbZ⟩ : ∃ b, b = w.heap.size + 1 := ⟨_, rfl⟩
  rw [← hbZ] at oz oo
  rw [← hbZ]
  obtain ⟨bO, hbO⟩ : ∃ b, b = bZ + 1 := ⟨_, rfl⟩
  rw [← hbO] at oo
  rw [← hbO]
  have hz2 : w.heap.size < bZ := by omega
  have hz3 : bZ < bO := by omega
  have hz5 : bO < W.heap.size := by omega
  clear hbZ hbO hsz
  have hn0 : (0 : Int) ≤ n ∧ (n : Int) ≤ 1000000000 := by omega
  go_cut [14] (fun s14 wx => s14 = .int .i64 o ∧ wx = W)
  case first =>
    obtain ⟨x0, x1, x2, -, -, -, xz⟩ := ox.three
    go_wp2_with fail
    go_meet
    exact ⟨rfl, rfl⟩
  case rest =>
    obtain ⟨rfl, rfl⟩ := hcut
    go_step
    go_cut [] (fun wx => Own wx w.heap.size [.int .i64 o, .int .i64 nn, .slice ad kids.length cap] ∧ Own wx bZ [.int .i64 0, .int .i64 0, .slice none 0 0] ∧ Own wx bO [.int .i64 o, .int .i64 N, .slice none 0 0] ∧ Below w.heap.size w wx ∧ bO < wx.heap.size)
    case first =>
      obtain ⟨o0, o1, o2, g0, g1, g2, hoz⟩ := oo.three
      by_cases q1 : o = 1
      · obtain rfl : (n : Int) = N := by rw [if_pos (.inl q1)] at hN; exact hN
        subst q1
        clear hN
        go_wp2_with fail
        go_meet
        exact ⟨ox.setCell (by simp <;> omega) _, oz.setCell (by simp <;> omega) _, by simpa using oo.setAt (i := 1) _ (by simp), hb.setCell (by simp <;> omega) _, by simpa using hz5⟩
      by_cases q2 : o = 2
      · obtain rfl : (n : Int) = N := by rw [if_pos (.inr q2)] at hN; exact hN
        subst q2
        clear hN
        go_wp2_with fail
        go_meet
        exact ⟨ox.setCell (by simp <;> omega) _, oz.setCell (by simp <;> omega) _, by simpa using oo.setAt (i := 1) _ (by simp), hb.setCell (by simp <;> omega) _, by simpa using hz5⟩
      rw [if_neg (by omega)] at hN
      by_cases q3 : o = 3
      · obtain rfl : 1 + (n : Int) % 4 = N := by rw [if_pos q3] at hN; exact hN
        subst q3
        clear hN q1 q2
        have hm4 : (0 : Int) ≤ (n : Int) % 4 ∧ (n : Int) % 4 < 4 := by omega
        have hw4 : IntKind.i64.wrap (1 + (n : Int) % 4) = 1 + (n : Int) % 4 := IntWalk.i64_in _ (by omega)
        go_wp2_with fail
        go_meet
        exact ⟨ox.setCell (by simp <;> omega) _, oz.setCell (by simp <;> omega) _, by simpa using oo.setAt (i := 1) _ (by simp), hb.setCell (by simp <;> omega) _, by simpa using hz5⟩
      rw [if_neg q3] at hN
      subst hN
      have e1 : (o == 1) = false := by rw [beq_eq_false_iff_ne]; exact q1
      have e2 : (o == 2) = false := by rw [beq_eq_false_iff_ne]; exact q2
      have e3 : (o == 3) = false := by rw [beq_eq_false_iff_ne]; exact q3
      clear q1 q2 q3
      go_wp2_with fail
      go_meet
      exact ⟨ox, oz, oo, hb, hz5⟩
    case rest =>
      clear ox oz oo hb hz5 hN
      obtain ⟨ox, oz, oo, hb, hz5⟩ := hcut
      obtain ⟨x0, x1, x2, -, -, -, xz⟩ := ox.three
      go_wp2_with fail
      go_loopw [29] (fun i wr => ∃ (k : Nat) (kv : Value) (cs : List Value), i = .int .i64 k ∧ k ≤ kids.length ∧ Own wr bO [.int .i64 o, .int .i64 N, kv] ∧ wr.ownsRow (bO + 1) 24 3 kv k cs ∧ XsC (Rb (bO + 1) kv) wr ((renL kids n).take k) cs ∧ Own wr bZ [.int .i64 0, .int .i64 0, .slice none 0 0] ∧ Below w.heap.size w wr ∧ bO < wr.heap.size) (fun i _ => kids.length - (intOf i).toNat)
      case atStart => exact ⟨0, .slice none 0 0, [], rfl, Nat.zero_le _, oo, ⟨rfl, .inl ⟨rfl, rfl⟩⟩, by simp [XsC], oz, hb, hz5⟩
      case round =>
        clear ox oz oo hb hz5 x0 x1 x2 xz
        obtain ⟨k, kv, cs, rfl, hkl, oo, hown, xc, oz, q, hwz⟩ := hrel
        by_cases hk : k < kids.length
        · skip
          obtain ⟨a, ad2, cap2, rfl, n0, n1, n2, tk, hab⟩ := (Trees.below hks q).reads k hk
          have hwk : IntKind.i64.wrap ((k : Int) + 1) = (k : Int) + 1 := IntWalk.i64_in _ (by omega)
          have hwn : IntKind.i64.wrap ((n : Int) + (k : Int)) = (n : Int) + (k : Int) := IntWalk.i64_in _ (by omega)
          have hcall := fun w2 (h : Below wr.heap.size wr w2) => hIH k hk _ w2 (tk.free.below h)
          have htk := renL_take kids n k hk
          generalize renE kids[k] (n + k) = r at *
          generalize kids[k] = x at *
          have hok1 := Own.new wr #[.int .i64 x.o, .int .i64 x.n, .slice ad2 x.ks.length cap2] 24
          go_upto_region 11 with (fail)
          obtain ⟨wk, hwkd⟩ : ∃ wk, wk = wr.alloc (.cells #[.int .i64 x.o, .int .i64 x.n, .slice ad2 x.ks.length cap2] 24) := ⟨_, rfl⟩
          have hbk := alT wr (.cells #[.int .i64 x.o, .int .i64 x.n, .slice ad2 x.ks.length cap2] 24)
          have hszk : wk.heap.size = wr.heap.size + 1 := by rw [hwkd]; simp
          have ok := Own.new wr #[.int .i64 x.o, .int .i64 x.n, .slice ad2 x.ks.length cap2] 24
          rw [← hwkd] at ok hbk
          rw [← hwkd]
          clear hwkd hok1 n0 n1 n2
          have hkv := town_row hown
          have hlt := oo.lt
          replace oo := oo.below hbk
          replace hown := town_below hown hbk
          replace xc := xc.below hbk
          replace oz := oz.below hbk
          replace q := q.trans (hbk.mono q.size)
          have hcall2 := hcall _ (hbk.drew)
          clear hcall
          obtain ⟨i0, hi, hz0, hz1, hzz⟩ := info_parts Try.infoExprT
          generalize wr.heap.size = bK at *
          have p0 := ok.drewT.cell 0 _ rfl
          have p1 := ok.drewT.cell 1 _ rfl
          have p2 := ok.drewT.cell 2 _ rfl
          have s2 := oo.drewT.cell 2 _ rfl
          go_region_law (first
             | (go_simp; go_at_call 18
                refine hcall2.mono ?_
                rintro e w5 ⟨ad3, cap3, rfl, tr, hx⟩
                have hs5 := hx.size
                try simp only [drew_sizeR] at hs5
                have ok5 := ok.drewT.below hx
                have oo5 := oo.drewT.below hx
                have hn5 := town_below (town_below hown (drR _)) hx
                have xc5 := (xc.below (drR _)).below hx
                have oz5 := oz.drewT.below hx
                have q5 := (q.trans ((drR _).mono q.size)).trans (hx.mono (q.trans ((drR _).mono q.size)).size)
                try simp only [drew_sizeR] at tr
                have k0 := ok5.cell 0 _ rfl
                have ka0 := fun o => (ok5.alloc o).cell 0 _ rfl
                have k1 := ok5.cell 1 _ rfl
                have ka1 := fun o => (ok5.alloc o).cell 1 _ rfl
                have k2 := ok5.cell 2 _ rfl
                have ka2 := fun o => (ok5.alloc o).cell 2 _ rfl
                have s5 := oo5.cell 2 _ rfl
                have s6 := fun o => (oo5.alloc o).cell 2 _ rfl
                clear hx
                go_wp2_with fail)
             | (refine step_ownT _ rfl _ _ 22 rfl (bO + 1) 24 i0 (.agg #[.int .i64 0, .int .i64 0, .slice none 0 0]) 3 40 Try.underlying22 hi hz0 hz1 hzz rfl (by decide) _ k cs rfl (town_below hn5 (alT _ _)) ⟨w5.heap.size, 0, none⟩ 1 1 [.int .i64 r.o, .int .i64 r.n, .slice ad3 r.ks.length cap3] rfl rfl (by intro j u hj; match j, hj with | 0, hj => (simp at hj; subst hj; simp [Addr.add]) | 1, hj => (simp at hj; subst hj; simp [Addr.add]) | 2, hj => (simp at hj; subst hj; simp [Addr.add])) (by intro u hu; simp at hu; rcases hu with rfl | rfl | rfl <;> rfl) (by decide) (by unfold maxLen; omega) (by omega) (by simp; omega) ?_
                intro v6 w6 hown6 hgrow hwh
                obtain ⟨p6, c6, rfl⟩ := town_shape hown6
                have hz6 := hgrow.size
                simp only [World.size_alloc] at hz6 hwh
                have ok6 := (ok5.alloc _).grownT hgrow (by intro r hr; have := hkv r hr; omega)
                have oo6 := (oo5.alloc _).grownT hgrow (by intro r hr; have := hkv r hr; omega)
                have f6 := oo6.fro 2 _ rfl
                have d6 := oo6.cell 2 _ rfl
                have oz6 := (oz5.alloc _).grownT hgrow (by intro r hr; have := hkv r hr; omega)
                have q6 := below_grownT (q5.alloc q5.size _) hgrow (by intro r hr; have := hkv r hr; omega) (by simp; omega)
                have kb0 := ok6.cell 0 _ rfl
                have kb1 := ok6.cell 1 _ rfl
                have kb2 := ok6.cell 2 _ rfl))
          all_goals (
            go_wp2_with fail
            have hkv6 := town_row hown6
            have hst : ∀ b, b < (w5.alloc (.cells #[.int .i64 r.o, .int .i64 r.n, .slice ad3 r.ks.length cap3] 24)).heap.size → ¬ Rb (bO + 1) kv b → w6.heap[b]? = (w5.alloc (.cells #[.int .i64 r.o, .int .i64 r.n, .slice ad3 r.ks.length cap3] 24)).heap[b]? ∧ ¬ Rb (bO + 1) (.slice p6 (k + 1) c6) b := by
              intro b hbl hnb
              refine ⟨hgrow.block b hbl (fun e => hnb (.inr e.symm)), ?_⟩
              rintro (h | h)
              · exact hnb (.inl h)
              · rcases hwh b h with h2 | h2
                · exact hnb (.inr h2)
                · simp only [World.size_alloc] at hbl; omega
            have x6 := (xc5.below (alT _ (.cells #[.int .i64 r.o, .int .i64 r.n, .slice ad3 r.ks.length cap3] 24))).go hgrow.size hst
            have t6 : Tree (Rb (bO + 1) (.slice p6 (k + 1) c6)) w6 r (.agg #[.int .i64 r.o, .int .i64 r.n, .slice ad3 r.ks.length cap3]) := Tree.go hgrow.size (fun b hbl hnb => by
              rcases Nat.lt_or_ge b wk.heap.size with h | h
              · exact absurd h hnb
              · refine hst b hbl ?_
                rintro (h2 | h2)
                · omega
                · have := hkv b h2; omega) (tr.alloc _)
            have x7 := XsC.snoc t6 x6
            rw [← htk] at x7
            go_roundw
            case rel => exact ⟨k + 1, .slice p6 (k + 1) c6, _, by go_num, by omega, by simpa using oo6.setAt (i := 2) (.slice p6 (k + 1) c6) (by simp), town_set hown6 (by intro r hr; have := hkv6 r hr; simp; omega) _, x7.go (by simp) (fun b hbl hnb => ⟨((Kept.refl (some bO) w6).set (b := ⟨bO, 2, none⟩) (.inl rfl) (.slice p6 (k + 1) c6)).block b hbl (fun h => hnb (.inl (by cases h; omega))), hnb⟩), oz6.setCell (by simp <;> omega) _, q6.setCell (by simp <;> omega) _, by simp <;> omega⟩
            case measure => simp [intOf]; omega)
        · have hkE : k = kids.length := by omega
          subst hkE
          rw [renL_take0] at xc
          obtain ⟨p0, c0, rfl, hc0, hrow⟩ := town_val hown
          obtain ⟨o0, o1, o2, -, -, -, hoz⟩ := oo.three
          obtain ⟨z0, z1, z2, g0, g1, g2, hzz⟩ := oz.three
          go_wp2_with fail
          have oF := ((oz.setAt (i := 0) (.int .i64 o) (by simp)).setAt (i := 1) (.int .i64 N) (by simp)).setAt (i := 2) (.slice p0 kids.length c0) (by simp)
          simp only [List.set_cons_zero, List.set_cons_succ] at oF
          refine ret_cells (vs := [.int .i64 o, .int .i64 N, .slice p0 kids.length c0]) rfl Try.underlying24 rfl (by kernel_rfl) (B := bZ) oF rfl rfl ?_
          have hF := ((q.setCell (p := ⟨bZ, 0, none⟩) (by simp <;> omega) (.int .i64 o)).setCell (p := ⟨bZ, 1, none⟩) (by simp <;> omega) (.int .i64 N)).setCell (p := ⟨bZ, 2, none⟩) (by simp <;> omega) (.slice p0 kids.length c0)
          have hl := renL_len kids n
          refine ⟨p0, c0, by simp only [Xp.o, Xp.n, Xp.ks, hl], ?_, hF⟩
          simp only [Xp.o, Xp.n, Xp.ks, hl]
          have htr : Tree (Lo (bO + 1)) wr (.mk o N (renL kids n)) (.agg #[.int .i64 o, .int .i64 N, .slice p0 kids.length c0]) := by
            rcases hrow with h0 | ⟨g, rfl, hg, og⟩
            · obtain rfl : kids = [] := List.eq_nil_of_length_eq_zero h0
              exact tree_leaf _ _ o N p0 c0
            · have := tree_row (B := 0) (R := Lo (bO + 1)) (o := o) (n := N) (by simp only [Lo]; omega) og xc (fun b _ h => .inl h) c0 (by rw [hl]; omega)
              rw [hl] at this
              exact this
          exact (((htr.set (b := ⟨bZ, 0, none⟩) _ (by simp only [Lo]; omega)).set (b := ⟨bZ, 1, none⟩) _ (by simp only [Lo]; omega)).set (b := ⟨bZ, 2, none⟩) _ (by simp only [Lo]; omega)).lo (by omega)
end Go.Proofs.Ytbkcpcjdpfndpaa
