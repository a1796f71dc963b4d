/-
  What is few: expressions of at most 300 nodes, at most 105 rates.
-/
import Derived.Test.YtbkcpcjdpfndpaaTypRgs
namespace Go.Proofs.Ytbkcpcjdpfndpaa
open Go.RowKit Go.Shelf
set_option maxRecDepth 100000

def LtEnd (e : Xp) (m : Nat) (w : World) (x : Ending) (w' : World) : Prop := ∃ z : Int, x = .returned (.int .i64 z) ∧ ((cntE e ≤ m ∧ z = m - cntE e) ∨ (¬ cntE e ≤ m ∧ z = -1)) ∧ Below w.heap.size w w'
set_option maxHeartbeats 3200000 in
theorem tleft_any (Q : Nat → Prop) : ∀ (e : Xp) (m : Nat) (v : Value) (w : World), m ≤ 1000 → Tree Q w e v → Calls Try.prog 22 #[v, .int .i64 (m : Nat)] w (LtEnd e m w) := by
  intro e
  induction e using Xp.ind with
  | h o nn kids ih =>
  intro m v w hm ht
  obtain ⟨ad, cap, rfl, hlen, hks⟩ := ht.shape
  simp only [Xp.o, Xp.n, Xp.ks] at *
  have hw2 : IntKind.i64.wrap ((m : Int) - 1) = (m : Int) - 1 := IntWalk.i64_in _ (by omega)
  have hcnt : cntE (.mk o nn kids) = 1 + cntL kids := cntE_mk _ _ _
  by_cases hA : m < 1
  · have hA' : decide ((m : Int) < 1) = true := by simp; omega
    have hA2 : decide (m < 1) = true := by simp; omega
    have HF : Hid (¬ cntE (.mk o nn kids) ≤ m) := Lib.hid (by omega)
    clear ih hks ht hcnt hA
    go_enter Try.func22, Try.ntmps22
    go_wp2_with fail
    go_ret
    exact ⟨-1, rfl, .inr ⟨HF.out, rfl⟩, by (repeat (first | exact Below.refl _ _ | assumption | refine Below.drew ?_ | refine below_drewN ?_ _ | refine Below.setCell ?_ (by first | omega | (simp <;> omega)) _ | refine Below.alloc ?_ (by first | omega | (simp <;> omega)) _))⟩
  have hA' : decide ((m : Int) < 1) = false := by simp; omega
  have hA2 : decide (m < 1) = false := by simp; omega
  have hIH : ∀ (k : Nat) (hk : k < kids.length) (m2 : Nat) (v2 : Value) (w2 : World), m2 ≤ 1000 → Tree Q w2 kids[k] v2 → Calls Try.prog 22 #[v2, .int .i64 (m2 : Nat)] w2 (LtEnd kids[k] m2 w2) := fun k hk m2 v2 w2 h1 h2 => ih kids[k] (List.getElem_mem hk) m2 v2 w2 h1 h2
  clear ih
  have o2 := Own.new w #[.int .i64 o, .int .i64 nn, .slice ad kids.length cap] 24
  have hb1 : Below w.heap.size w (w.alloc (.cells #[.int .i64 o, .int .i64 nn, .slice ad kids.length cap] 24)) := by (repeat (first | exact Below.refl _ _ | assumption | refine Below.drew ?_ | refine below_drewN ?_ _ | refine Below.setCell ?_ (by first | omega | (simp <;> omega)) _ | refine Below.alloc ?_ (by first | omega | (simp <;> omega)) _))
  go_enter Try.func22, Try.ntmps22
  go_wp2_with fail
  go_loopw [5, 6] (fun z i wr => ∃ k : Nat, i = .int .i64 k ∧ k ≤ kids.length ∧ 1 + cntL (kids.take k) ≤ m ∧ z = .int .i64 ((m - 1 - cntL (kids.take k) : Nat) : Int) ∧ Own wr w.heap.size [.int .i64 o, .int .i64 nn, .slice ad kids.length cap] ∧ Below w.heap.size w wr) (fun _ i _ => kids.length - (intOf i).toNat)
  case atStart => exact ⟨0, rfl, Nat.zero_le _, by simp [cntL]; omega, by simp [cntL]; omega, o2, hb1⟩
  case round =>
    obtain ⟨k, rfl, hkl, r3, rfl, q1, q2⟩ := hrel
    obtain ⟨u0, u1, u2, -, -, -, uz⟩ := q1.three
    by_cases hk : k < kids.length
    · obtain ⟨c1, c2⟩ := cnt_at hk
      have t1 := ht.below q2
      obtain ⟨ad', cap', hv', -, ts⟩ := t1.shape
      have hadd : ad' = ad := by simp [Xp.o, Xp.n, Xp.ks] at hv'; exact hv'.1.symm
      subst hadd
      obtain ⟨a, ad2, cap2, rfl, m0, m1, m2, tk, hab⟩ := ts.reads k hk
      simp only [Xp.ks] at m0 m1 m2 tk
      have hwk : IntKind.i64.wrap ((k : Int) + 1) = (k : Int) + 1 := IntWalk.i64_in _ (by omega)
      obtain ⟨c, hc⟩ : ∃ c, m - 1 - cntL (kids.take k) = c := ⟨_, rfl⟩
      have hcall := hIH k hk c _ wr (by omega) tk
      have HA : Hid (cntE kids[k] ≤ c → 1 + cntL (kids.take (k + 1)) ≤ m ∧ (c : Int) - cntE kids[k] = ((m - 1 - cntL (kids.take (k + 1)) : Nat) : Int)) := Lib.hid (fun h => ⟨by omega, by omega⟩)
      have HB : Hid (cntE (.mk o nn kids) ≤ m → cntE kids[k] ≤ c) := Lib.hid (fun h => by omega)
      rw [hc]
      generalize kids[k] = x at *
      clear c1 c2 r3 hv' t1 ts hcnt hc
      go_wp2_with fail
      refine hcall.mono ?_
      rintro e w2 ⟨z, rfl, hz, kk⟩
      have q3 := q2.trans (kk.mono q2.size)
      replace q1 := q1.below kk
      rcases hz with ⟨h1, rfl⟩ | ⟨h1, rfl⟩
      · obtain ⟨g3, g4⟩ := HA.out h1
        have G3 := Lib.hid g3
        rw [g4]
        clear h1 u0 u1 u2 g4 g3
        obtain ⟨d, hd⟩ : ∃ d, m - 1 - cntL (kids.take (k + 1)) = d := ⟨_, rfl⟩
        have HD := Lib.hid hd
        rw [hd]
        have hg5 : decide ((d : Int) < 0) = false := by simp
        clear hd
        go_wp2_with fail
        go_roundw
        case rel => exact ⟨k + 1, by go_num, by omega, G3.out, by rw [HD.out], q1, q3⟩
        case measure => simp [intOf]; omega
      · have HF : Hid (¬ cntE (.mk o nn kids) ≤ m) := Lib.hid (fun h => h1 (HB.out h))
        clear h1
        go_wp2_with fail
        go_ret
        exact ⟨-1, rfl, .inr ⟨HF.out, rfl⟩, q3⟩
    · have hkE : k = kids.length := by omega
      subst hkE
      rw [List.take_length] at *
      have HT : Hid (cntE (.mk o nn kids) ≤ m ∧ ((m - 1 - cntL kids : Nat) : Int) = m - cntE (.mk o nn kids)) := Lib.hid ⟨by omega, by omega⟩
      clear hcnt r3
      go_wp2_with fail
      go_ret
      exact ⟨_, rfl, .inl HT.out, q2⟩
def fewX (e : Xp) : Bool := decide (cntE e ≤ 300)
set_option maxHeartbeats 800000 in
theorem fewx_any {Q : Nat → Prop} (e : Xp) (v : Value) (w : World) (ht : Tree Q w e v) : Calls Try.prog 9 #[v] w (Ret (.bool (fewX e)) w) := by
  have hsz := fun w1 h => tleft_any Q e 300 v w1 (by omega) (Tree.below ht (w' := w1) h)
  obtain ⟨ad, cap, rfl, -, -⟩ := ht.shape
  go_enter Try.func9, Try.ntmps9
  go_wp2_with fail
  refine (hsz _ (by (repeat (first | exact Below.refl _ _ | assumption | refine Below.drew ?_ | refine below_drewN ?_ _ | refine Below.setCell ?_ (by first | omega | (simp <;> omega)) _ | refine Below.alloc ?_ (by first | omega | (simp <;> omega)) _)))).mono ?_
  rintro x w1 ⟨z, rfl, hz, hk⟩
  have hb1 : Below w.heap.size w w1 := Below.trans (by (repeat (first | exact Below.refl _ _ | assumption | refine Below.drew ?_ | refine below_drewN ?_ _ | refine Below.setCell ?_ (by first | omega | (simp <;> omega)) _ | refine Below.alloc ?_ (by first | omega | (simp <;> omega)) _))) (hk.mono (by simp))
  have HZ : Hid (0 ≤ z ↔ fewX e = true) := Lib.hid (by
    unfold fewX
    rw [decide_eq_true_eq]
    rcases hz with ⟨h1, h2⟩ | ⟨h1, h2⟩
    · exact ⟨fun _ => h1, fun _ => by omega⟩
    · exact ⟨fun h => by omega, fun h => absurd h h1⟩)
  clear hz
  go_wp2_with fail
  go_ret
  exact Ret.mk (boolV (by simp [← HZ.out])) hb1
def fewR (l : List Rg) : Bool := decide (l.length ≤ 105) && l.all fun r => fewX r.when && fewX r.price
set_option maxHeartbeats 6400000 in
theorem few_any (l : List Rg) (v : Value) (w : World) (hv : RgS w v l) : Calls Try.prog 10 #[v] w (Ret (.bool (fewR l)) w) := by
  obtain ⟨ad, cap, cells, rfl, hl, hx⟩ := id hv
  clear hx
  obtain ⟨F, hF⟩ : ∃ F, fewR l = F := ⟨_, rfl⟩
  rw [hF]
  by_cases h105 : 105 < l.length
  · have e1 : decide ((l.length : Int) > 105) = true := by simp; omega
    have HZ : Hid (F = false) := Lib.hid (by rw [← hF, Bool.eq_false_iff]; unfold fewR; simp; omega)
    clear hF h105
    go_enter Try.func10, Try.ntmps10
    go_wp2_with fail
    go_ret
    exact Ret.mk (by rw [HZ.out]; rfl) (Below.refl _ _)
  · have e1 : decide ((l.length : Int) > 105) = false := by simp; omega
    have e2 : decide (105 < (l.length : Int)) = false := by simp; omega
    have HF : Hid ((F = true ↔ ∀ k (hk : k < l.length), fewX l[k].when = true ∧ fewX l[k].price = true) ∧ l.length ≤ 105) := Lib.hid ⟨by
      rw [← hF]
      unfold fewR
      simp only [Bool.and_eq_true, decide_eq_true_eq, List.all_eq_true]
      constructor
      · intro h k hk
        exact h.2 _ (List.getElem_mem hk)
      · intro h
        refine ⟨by omega, fun r hr => ?_⟩
        obtain ⟨k, hk, rfl⟩ := List.mem_iff_getElem.1 hr
        exact h k hk, by omega⟩
    clear hF
    go_enter Try.func10, Try.ntmps10
    go_wp2_with fail
    go_loopw [3] (fun i wr => ∃ k : Nat, i = .int .i64 k ∧ k ≤ l.length ∧ (∀ j (hj : j < l.length), j < k → fewX l[j].when = true ∧ fewX l[j].price = true) ∧ Below w.heap.size w wr) (fun i _ => l.length - (intOf i).toNat)
    case atStart => exact ⟨0, rfl, Nat.zero_le _, fun j _ hj => absurd hj (Nat.not_lt_zero _), Below.refl _ _⟩
    case round =>
      obtain ⟨k, rfl, hkl, hall, q⟩ := hrel
      have HA := Lib.hid hall
      clear hall
      by_cases hk : k < l.length
      · obtain ⟨a, ad1, cap1, ad2, cap2, rfl, hab, ⟨_, _, _, _, hc, t1, t2⟩, m0, m1, m2, m3, m4, m5, m6, m7, m8, m9, m10, m11, m12, m13, m14, m15⟩ := (hv.below q).reads k hk
        have hc2 := hc
        unfold rgC at hc2
        simp only [List.cons.injEq, Value.slice.injEq, and_true, true_and] at hc2
        obtain ⟨⟨rfl, rfl⟩, rfl, rfl⟩ := hc2
        have hwk : IntKind.i64.wrap ((k : Int) + 1) = (k : Int) + 1 := IntWalk.i64_in _ (by omega)
        have h1 := fun w1 (h : Below wr.heap.size wr w1) => fewx_any _ _ w1 (t1.below h)
        have h2 := fun w1 (h : Below wr.heap.size wr w1) => fewx_any _ _ w1 (t2.below h)
        have HN : Hid (F = true → fewX l[k].when = true ∧ fewX l[k].price = true) := Lib.hid fun h => HF.out.1.1 h k hk
        have HS : Hid (fewX l[k].when = true → fewX l[k].price = true → ∀ j (hj : j < l.length), j < k + 1 → fewX l[j].when = true ∧ fewX l[j].price = true) := Lib.hid (fun g1 g2 j hj hjk => by
          by_cases e : j = k
          · subst e; exact ⟨g1, g2⟩
          · exact HA.out j hj (by omega))
        clear hc t1 t2
        generalize fewX l[k].when = x1 at *
        generalize fewX l[k].price = x2 at *
        generalize l[k] = r at *
        clear m0 m1 m2 m3 m4 m5 m6 m7 m8 m9
        cases x1 with
        | false =>
          have HZ : Hid (F = false) := Lib.hid (by rw [Bool.eq_false_iff]; intro h; exact absurd (HN.out h).1 (by decide))
          clear HN HS
          go_wp2_with fail
          refine (h1 _ (by (repeat (first | exact Below.refl _ _ | assumption | refine Below.drew ?_ | refine below_drewN ?_ _ | refine Below.setCell ?_ (by first | omega | (simp <;> omega)) _ | refine Below.alloc ?_ (by first | omega | (simp <;> omega)) _)))).mono ?_
          rintro e w2 ⟨rfl, hb2⟩
          go_wp2_with fail
          go_ret
          exact Ret.mk (by rw [HZ.out]; rfl) (q.trans (hb2.mono q.size))
        | true =>
          go_wp2_with fail
          refine (h1 _ (by (repeat (first | exact Below.refl _ _ | assumption | refine Below.drew ?_ | refine below_drewN ?_ _ | refine Below.setCell ?_ (by first | omega | (simp <;> omega)) _ | refine Below.alloc ?_ (by first | omega | (simp <;> omega)) _)))).mono ?_
          rintro e w2 ⟨rfl, hb2⟩
          have hcell : ∀ p : Addr, p.block < wr.heap.size → w2.cell? p = wr.cell? p := fun p hp => hb2.cell hp
          have z13 := (hb2.cell (p := { block := (a.add (k * 16)).block, off := (a.add (k * 16)).off + 13 }) hab).trans m13
          have z14 := (hb2.cell (p := { block := (a.add (k * 16)).block, off := (a.add (k * 16)).off + 14 }) hab).trans m14
          have z15 := (hb2.cell (p := { block := (a.add (k * 16)).block, off := (a.add (k * 16)).off + 15 }) hab).trans m15
          clear m10 m11 m12 m13 m14 m15 hcell
          cases x2 with
          | false =>
            have HZ : Hid (F = false) := Lib.hid (by rw [Bool.eq_false_iff]; intro h; exact absurd (HN.out h).2 (by decide))
            clear HN HS
            go_wp2_with fail
            refine (h2 _ hb2).mono ?_
            rintro e w3 ⟨rfl, hb3⟩
            go_wp2_with fail
            go_ret
            exact Ret.mk (by rw [HZ.out]; rfl) (q.trans ((hb2.trans (hb3.mono hb2.size)).mono q.size))
          | true =>
            replace HS := Lib.hid (HS.out (by simp) (by simp))
            clear HN
            go_wp2_with fail
            refine (h2 _ hb2).mono ?_
            rintro e w3 ⟨rfl, hb3⟩
            go_wp2_with fail
            go_roundw
            case rel => exact ⟨k + 1, by go_num, by omega, HS.out, q.trans ((hb2.trans (hb3.mono hb2.size)).mono q.size)⟩
            case measure => simp [intOf]; omega
      · have HZ : Hid (F = true) := Lib.hid (HF.out.1.2 fun j hj => HA.out j hj (by omega))
        go_wp2_with fail
        go_ret
        exact Ret.mk (by rw [HZ.out]; rfl) q
end Go.Proofs.Ytbkcpcjdpfndpaa
