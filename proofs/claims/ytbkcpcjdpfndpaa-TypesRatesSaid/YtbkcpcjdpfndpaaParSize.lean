/-
  The reference's Size and Valid; the law's left and few.
-/
import Derived.Test.YtbkcpcjdpfndpaaParNode
import Derived.Test.YtbkcpcjdpfndpaaParTree
namespace Go.Proofs.Ytbkcpcjdpfndpaa
open Go.RowKit Go.Shelf
set_option maxRecDepth 100000

def SzEnd (e : Xp) (l m : Nat) (w : World) (x : Ending) (w' : World) : Prop :=
  ∃ z : Int, x = .returned (.int .i64 z) ∧ ((okE e = true ∧ depE e ≤ l ∧ cntE e ≤ m ∧ z = m - cntE e) ∨ (¬ (okE e = true ∧ depE e ≤ l ∧ cntE e ≤ m) ∧ z = -1)) ∧ Below w.heap.size w w'
set_option maxHeartbeats 3200000 in
theorem size_any (Q : Nat → Prop) : ∀ (e : Xp) (l m : Nat) (v : Value) (w : World), l ≤ 1000 → m ≤ 1000 → Tree Q w e v → Calls Try.prog 29 #[v, .int .i64 (l : Nat), .int .i64 (m : Nat)] w (SzEnd e l m w) := by
  intro e
  induction e using Xp.ind with
  | h o nn kids ih =>
  intro l m v w hl hm ht
  obtain ⟨ad, cap, rfl, hlen, hks⟩ := ht.shape
  simp only [Xp.o, Xp.n, Xp.ks] at *
  have hw1 : IntKind.i64.wrap ((l : Int) - 1) = (l : Int) - 1 := IntWalk.i64_in _ (by omega)
  have hw2 : IntKind.i64.wrap ((m : Int) - 1) = (m : Int) - 1 := IntWalk.i64_in _ (by omega)
  have hcnt : cntE (.mk o nn kids) = 1 + cntL kids := cntE_mk _ _ _
  have hdep : depE (.mk o nn kids) = 1 + depL kids := depE_mk _ _ _
  have hok : okE (.mk o nn kids) = (nodeB o nn kids.length && okL kids) := okE_mk _ _ _
  have hnd := fun w => rnode_any o nn ad kids.length cap w
  cases hC : nodeB o nn kids.length with
  | false =>
    have HF : Hid (¬ (okE (.mk o nn kids) = true ∧ depE (.mk o nn kids) ≤ l ∧ cntE (.mk o nn kids) ≤ m)) := Lib.hid (by rintro ⟨h, _, _⟩; rw [hok, hC] at h; cases h)
    rw [hC] at hnd
    clear ih hks ht hcnt hdep hok hC
    go_enter Try.func29, Try.ntmps29
    go_wp2_with fail
    refine (hnd _).mono ?_
    rintro e w1 ⟨rfl, hb⟩
    go_wp2_with fail
    go_ret
    exact ⟨-1, rfl, .inr ⟨HF.out, rfl⟩, Below.trans (by (repeat (first | exact Below.refl _ _ | assumption | refine Below.drew ?_ | refine below_drewN ?_ _ | refine Below.setCell ?_ (by first | omega | (simp <;> omega)) _ | refine Below.alloc ?_ (by first | omega | (simp <;> omega)) _))) (hb.mono (by simp))⟩
  | true =>
  rw [hC] at hnd
  by_cases hA : l < 1
  · have hA' : decide ((l : Int) < 1) = true := by simp; omega
    have hA2 : decide (l < 1) = true := by simp; omega
    have HF : Hid (¬ (okE (.mk o nn kids) = true ∧ depE (.mk o nn kids) ≤ l ∧ cntE (.mk o nn kids) ≤ m)) := Lib.hid (by rintro ⟨_, h, _⟩; omega)
    clear ih hks ht hcnt hdep hok hC hA
    go_enter Try.func29, Try.ntmps29
    go_wp2_with fail
    refine (hnd _).mono ?_
    rintro e w1 ⟨rfl, hb⟩
    go_wp2_with fail
    go_ret
    exact ⟨-1, rfl, .inr ⟨HF.out, rfl⟩, Below.trans (by (repeat (first | exact Below.refl _ _ | assumption | refine Below.drew ?_ | refine below_drewN ?_ _ | refine Below.setCell ?_ (by first | omega | (simp <;> omega)) _ | refine Below.alloc ?_ (by first | omega | (simp <;> omega)) _))) (hb.mono (by simp))⟩
  have hA' : decide ((l : Int) < 1) = false := by simp; omega
  have hA2 : decide (l < 1) = false := by simp; omega
  by_cases hB : m < 1
  · have hB' : decide ((m : Int) < 1) = true := by simp; omega
    have hB2 : decide (m < 1) = true := by simp; omega
    have HF : Hid (¬ (okE (.mk o nn kids) = true ∧ depE (.mk o nn kids) ≤ l ∧ cntE (.mk o nn kids) ≤ m)) := Lib.hid (by rintro ⟨_, _, h⟩; omega)
    clear ih hks ht hcnt hdep hok hC hA hB
    go_enter Try.func29, Try.ntmps29
    go_wp2_with fail
    refine (hnd _).mono ?_
    rintro e w1 ⟨rfl, hb⟩
    go_wp2_with fail
    go_ret
    exact ⟨-1, rfl, .inr ⟨HF.out, rfl⟩, Below.trans (by (repeat (first | exact Below.refl _ _ | assumption | refine Below.drew ?_ | refine below_drewN ?_ _ | refine Below.setCell ?_ (by first | omega | (simp <;> omega)) _ | refine Below.alloc ?_ (by first | omega | (simp <;> omega)) _))) (hb.mono (by simp))⟩
  have hB' : decide ((m : Int) < 1) = false := by simp; omega
  have hB2 : decide (m < 1) = false := by simp; omega
  have hIH : ∀ (k : Nat) (hk : k < kids.length) (m2 : Nat) (v2 : Value) (w2 : World), m2 ≤ 1000 → Tree Q w2 kids[k] v2 → Calls Try.prog 29 #[v2, .int .i64 ((l : Int) - 1), .int .i64 (m2 : Nat)] w2 (SzEnd kids[k] (l - 1) m2 w2) := fun k hk m2 v2 w2 h1 h2 => by
    have := ih kids[k] (List.getElem_mem hk) (l - 1) m2 v2 w2 (by omega) h1 h2
    rw [show ((l - 1 : Nat) : Int) = (l : Int) - 1 by omega] at this
    exact this
  have hC2 := hC
  clear ih hC
  go_enter Try.func29, Try.ntmps29
  go_wp2_with fail
  refine (hnd _).mono ?_
  rintro e w1 ⟨rfl, hb⟩
  have o2 := (Own.new w #[.int .i64 o, .int .i64 nn, .slice ad kids.length cap] 24).below hb
  have hb1 : Below w.heap.size w w1 := Below.trans (by (repeat (first | exact Below.refl _ _ | assumption | refine Below.drew ?_ | refine below_drewN ?_ _ | refine Below.setCell ?_ (by first | omega | (simp <;> omega)) _ | refine Below.alloc ?_ (by first | omega | (simp <;> omega)) _))) (hb.mono (by simp))
  clear hnd hb
  go_wp2_with fail
  go_loopw [8, 9] (fun z i wr => ∃ k : Nat, i = .int .i64 k ∧ k ≤ kids.length ∧ okL (kids.take k) = true ∧ depL (kids.take k) + 1 ≤ l ∧ 1 + cntL (kids.take k) ≤ m ∧ z = .int .i64 ((m - 1 - cntL (kids.take k) : Nat) : Int) ∧ Own wr w.heap.size [.int .i64 o, .int .i64 nn, .slice ad kids.length cap] ∧ Below w.heap.size w wr) (fun _ i _ => kids.length - (intOf i).toNat)
  case atStart => exact ⟨0, rfl, Nat.zero_le _, by simp [okL], by simp [depL]; omega, by simp [cntL]; omega, by simp [cntL]; omega, o2, hb1⟩
  case round =>
    obtain ⟨k, rfl, hkl, r1, r2, r3, rfl, q1, q2⟩ := hrel
    obtain ⟨u0, u1, u2, -, -, -, uz⟩ := q1.three
    by_cases hk : k < kids.length
    · obtain ⟨c1, c2⟩ := cnt_at hk
      obtain ⟨d1, d2⟩ := dep_at hk
      have e1 := ok_at hk
      have t1 := ht.below q2
      obtain ⟨ad', cap', hv', -, ts⟩ := t1.shape
      have hadd : ad' = ad := by simp [Xp.o, Xp.n, Xp.ks] at hv'; exact hv'.1.symm
      subst hadd
      obtain ⟨a, ad2, cap2, rfl, m0, m1, m2, tk, hab⟩ := ts.reads k hk
      simp only [Xp.ks] at m0 m1 m2 tk
      have hmem := List.getElem_mem hk
      have hwk : IntKind.i64.wrap ((k : Int) + 1) = (k : Int) + 1 := IntWalk.i64_in _ (by omega)
      obtain ⟨c, hc⟩ : ∃ c, m - 1 - cntL (kids.take k) = c := ⟨_, rfl⟩
      have hcall := hIH k hk c _ wr (by omega) tk
      have HA : Hid (okE kids[k] = true ∧ depE kids[k] ≤ l - 1 ∧ cntE kids[k] ≤ c → okL (kids.take (k + 1)) = true ∧ depL (kids.take (k + 1)) + 1 ≤ l ∧ 1 + cntL (kids.take (k + 1)) ≤ m ∧ (c : Int) - cntE kids[k] = ((m - 1 - cntL (kids.take (k + 1)) : Nat) : Int)) := Lib.hid (by
        rintro ⟨h1, h2, h3⟩
        exact ⟨by rw [e1, r1, h1]; rfl, by omega, by omega, by omega⟩)
      have HB : Hid (okE (.mk o nn kids) = true ∧ depE (.mk o nn kids) ≤ l ∧ cntE (.mk o nn kids) ≤ m → okE kids[k] = true ∧ depE kids[k] ≤ l - 1 ∧ cntE kids[k] ≤ c) := Lib.hid (by
        rintro ⟨h1, h2, h3⟩
        rw [hok, Bool.and_eq_true] at h1
        exact ⟨okL_mem h1.2 _ hmem, by omega, by omega⟩)
      rw [hc]
      generalize kids[k] = x at *
      clear c1 c2 d1 d2 e1 hmem r1 r2 r3 hv' t1 ts hcnt hdep hok hc
      go_wp2_with fail
      refine hcall.mono ?_
      rintro e w2 ⟨z, rfl, hz, kk⟩
      have q3 := q2.trans (kk.mono q2.size)
      replace q1 := q1.below kk
      rcases hz with ⟨h1, h2, h3, rfl⟩ | ⟨h1, rfl⟩
      · obtain ⟨g1, g2, g3, g4⟩ := HA.out ⟨h1, h2, h3⟩
        have hg5 : decide ((m : Int) - 1 - cntL (kids.take (k + 1)) < 0) = false := by simp; omega
        rw [g4]
        clear h1 h2 h3 u0 u1 u2 g4
        go_wp2_with fail
        go_roundw
        case rel => exact ⟨k + 1, by go_num, by omega, g1, g2, g3, rfl, q1, q3⟩
        case measure => simp [intOf]; omega
      · have HF : Hid (¬ (okE (.mk o nn kids) = true ∧ depE (.mk o nn kids) ≤ l ∧ cntE (.mk o nn kids) ≤ m)) := Lib.hid (fun h => h1 (HB.out h))
        clear h1
        go_wp2_with fail
        go_ret
        exact ⟨-1, rfl, .inr ⟨HF.out, rfl⟩, q3⟩
    · have hkE : k = kids.length := by omega
      subst hkE
      rw [List.take_length] at *
      have HT : Hid (okE (.mk o nn kids) = true ∧ depE (.mk o nn kids) ≤ l ∧ cntE (.mk o nn kids) ≤ m ∧ ((m - 1 - cntL kids : Nat) : Int) = m - cntE (.mk o nn kids)) := Lib.hid ⟨by rw [hok, r1, Bool.and_true]; exact hC2, by omega, by omega, by omega⟩
      clear hcnt hdep hok r1 r2 r3
      go_wp2_with fail
      go_ret
      exact ⟨_, rfl, .inl HT.out, q2⟩
set_option maxHeartbeats 800000 in
theorem rvalid8_any {Q : Nat → Prop} (e : Xp) (v : Value) (w : World) (ht : Tree Q w e v) : Calls Try.prog 17 #[v] w (Ret (.bool (validF e)) w) := by
  have hsz := fun w1 h => size_any Q e 30 200 v w1 (by omega) (by omega) (Tree.below ht (w' := w1) h)
  obtain ⟨ad, cap, rfl, -, -⟩ := ht.shape
  have HV : Hid (validF e = true ↔ okE e = true ∧ depE e ≤ 30 ∧ cntE e ≤ 200) := Lib.hid (by
    unfold validF
    simp only [Bool.and_eq_true, decide_eq_true_eq]
    exact ⟨fun ⟨⟨h1, h2⟩, h3⟩ => ⟨h1, h3, h2⟩, fun ⟨h1, h2, h3⟩ => ⟨⟨h1, h3⟩, h2⟩⟩)
  go_enter Try.func17, Try.ntmps17
  go_wp2_with fail
  refine (hsz _ (by (repeat (first | exact Below.refl _ _ | assumption | refine Below.drew ?_ | refine below_drewN ?_ _ | refine Below.setCell ?_ (by first | omega | (simp <;> omega)) _ | refine Below.alloc ?_ (by first | omega | (simp <;> omega)) _)))).mono ?_
  rintro x w1 ⟨z, rfl, hz, hk⟩
  have hb1 : Below w.heap.size w w1 := Below.trans (by (repeat (first | exact Below.refl _ _ | assumption | refine Below.drew ?_ | refine below_drewN ?_ _ | refine Below.setCell ?_ (by first | omega | (simp <;> omega)) _ | refine Below.alloc ?_ (by first | omega | (simp <;> omega)) _))) (hk.mono (by simp))
  rcases hz with ⟨h1, h2, h3, rfl⟩ | ⟨h1, rfl⟩
  · have hd : decide (((200 : Nat) : Int) - cntE e ≥ 0) = true := by simp; omega
    have e1 : Hid (validF e = true) := Lib.hid (HV.out.2 ⟨h1, h2, h3⟩)
    clear h1 h2
    go_wp2_with fail
    go_ret
    exact Ret.mk (boolV (by simp [e1.out]; omega)) hb1
  · have e1 : Hid (validF e = false) := Lib.hid (by rw [Bool.eq_false_iff]; exact fun h => h1 (HV.out.1 h))
    clear h1
    go_wp2_with fail
    go_ret
    exact Ret.mk (boolV (by simp [e1.out])) hb1

/-! ### left and few -/
def LfEnd (e : Xp) (l m : Nat) (w : World) (x : Ending) (w' : World) : Prop :=
  ∃ z : Int, x = .returned (.int .i64 z) ∧ ((depE e ≤ l ∧ cntE e ≤ m ∧ z = m - cntE e) ∨ (¬ (depE e ≤ l ∧ cntE e ≤ m) ∧ z < 0 ∧ -1 ≤ z)) ∧ Below w.heap.size w w'
def fewE (e : Xp) : Bool := decide (depE e ≤ 60) && decide (cntE e ≤ 400)
end Go.Proofs.Ytbkcpcjdpfndpaa
