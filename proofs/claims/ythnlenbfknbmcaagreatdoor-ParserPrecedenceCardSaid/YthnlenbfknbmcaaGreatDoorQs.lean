/-
  Two expressions are the same; two rates; two lists of rates.
-/
import Derived.Test.YthnlenbfknbmcaaGreatDoorQn
import Derived.Test.YthnlenbfknbmcaaGreatDoorQd
import Derived.Test.YthnlenbfknbmcaaGreatDoorQq
import Derived.Deep.RegionHeld3
import Derived.RegionCalls
namespace Go.Proofs.YthnlenbfknbmcaaGreatDoor
open Go.RowKit Go.Shelf
set_option maxRecDepth 100000

theorem mk_eq (o n o2 n2 : Int) (l l2 : List Xp) : Xp.mk o n l = .mk o2 n2 l2 ↔ o = o2 ∧ n = n2 ∧ l = l2 := by
  constructor
  · intro h; cases h; exact ⟨rfl, rfl, rfl⟩
  · rintro ⟨rfl, rfl, rfl⟩; rfl
def BEnd (p : Prop) (w : World) (e : Ending) (w' : World) : Prop := ∃ b : Bool, e = .returned (.bool b) ∧ (b = true ↔ p) ∧ Below w.heap.size w w'
theorem take_all {α : Type} {a b : List α} (hl : a.length = b.length) (h : a.take a.length = b.take a.length) : a = b := by
  rw [List.take_length, hl, List.take_length] at h; exact h
set_option maxHeartbeats 3200000 in
theorem same_any (Q R : Nat → Prop) : ∀ (x y : Xp) (u v : Value) (w : World), Tree Q w x u → Tree R w y v → Calls Tryz.prog 10 #[u, v] w (BEnd (x = y) w) := by
  intro x
  induction x using Xp.ind with
  | h o n kids ih =>
  intro y u v w hx hy
  obtain ⟨o2, n2, kids2⟩ := y
  obtain ⟨ad, cap, rfl, hl1, hk1⟩ := hx.shape
  obtain ⟨ad2, cap2, rfl, hl2, hk2⟩ := hy.shape
  simp only [Xp.o, Xp.n, Xp.ks] at *
  generalize hp : (Xp.mk o n kids = Xp.mk o2 n2 kids2) = p
  have hpe : p ↔ o = o2 ∧ n = n2 ∧ kids = kids2 := by rw [← hp]; exact mk_eq _ _ _ _ _ _
  clear hp
  have hb0 : Below w.heap.size w ((w.alloc (.cells #[.int .i64 o, .int .i64 n, .slice ad kids.length cap] 24)).alloc (.cells #[.int .i64 o2, .int .i64 n2, .slice ad2 kids2.length cap2] 24)) := by (repeat (first | exact Below.refl _ _ | assumption | refine Below.drew ?_ | refine below_drewN ?_ _ | refine Below.setCell ?_ (by first | omega | (simp <;> omega)) _ | refine Below.alloc ?_ (by first | omega | (simp <;> omega)) _))
  have p2 := (Own.new w #[.int .i64 o, .int .i64 n, .slice ad kids.length cap] 24).alloc (.cells #[.int .i64 o2, .int .i64 n2, .slice ad2 kids2.length cap2] 24)
  have p3 := Own.at (w.alloc (.cells #[.int .i64 o, .int .i64 n, .slice ad kids.length cap] 24)) #[.int .i64 o2, .int .i64 n2, .slice ad2 kids2.length cap2] 24 (w.heap.size + 1) (by simp)
  by_cases h1 : o = o2
  case neg =>
    have h1' : (o != o2) = true := by rw [bne_iff_ne]; exact h1
    have HF : Hid (¬ p) := Lib.hid (by rw [hpe]; exact fun h => h1 h.1)
    clear ih hk1 hk2 hx hy h1 hpe
    go_enter Tryz.func10, Tryz.ntmps10
    go_wp2_with fail
    go_ret
    exact ⟨false, rfl, ⟨fun h => (by cases h), fun h => absurd h HF.out⟩, hb0⟩
  have h1' : (o != o2) = false := by rw [bne_eq_false_iff_eq]; exact h1
  by_cases h2 : n = n2
  case neg =>
    have h2' : (n != n2) = true := by rw [bne_iff_ne]; exact h2
    have HF : Hid (¬ p) := Lib.hid (by rw [hpe]; exact fun h => h2 h.2.1)
    clear ih hk1 hk2 hx hy h1 h2 hpe
    go_enter Tryz.func10, Tryz.ntmps10
    go_wp2_with fail
    go_ret
    exact ⟨false, rfl, ⟨fun h => (by cases h), fun h => absurd h HF.out⟩, hb0⟩
  have h2' : (n != n2) = false := by rw [bne_eq_false_iff_eq]; exact h2
  by_cases h3 : kids.length = kids2.length
  case neg =>
    have h3' : ((kids.length : Int) != (kids2.length : Int)) = true := by rw [bne_iff_ne]; omega
    have h4' : (kids.length != kids2.length) = true := by rw [bne_iff_ne]; exact h3
    have HF : Hid (¬ p) := Lib.hid (by rw [hpe]; exact fun h => h3 (by rw [h.2.2]))
    clear ih hk1 hk2 hx hy h1 h2 h3 hpe
    go_enter Tryz.func10, Tryz.ntmps10
    go_wp2_with fail
    go_ret
    exact ⟨false, rfl, ⟨fun h => (by cases h), fun h => absurd h HF.out⟩, hb0⟩
  have h3' : ((kids.length : Int) != (kids2.length : Int)) = false := by rw [bne_eq_false_iff_eq]; omega
  have h4' : (kids.length != kids2.length) = false := by rw [bne_eq_false_iff_eq]; exact h3
  have HL := Lib.hid h3
  have hIH : ∀ (k : Nat) (h : k < kids.length) (h' : k < kids2.length) (u v : Value) (w : World), Tree Q w kids[k] u → Tree R w kids2[k] v → Calls Tryz.prog 10 #[u, v] w (BEnd (kids[k] = kids2[k]) w) := fun k h h' u v w g1 g2 => ih kids[k] (List.getElem_mem h) kids2[k] u v w g1 g2
  have HE : Hid (p ↔ kids = kids2) := Lib.hid (by rw [hpe]; exact ⟨fun h => h.2.2, fun h => ⟨h1, h2, h⟩⟩)
  clear ih h1 h2 h3 hpe
  go_enter Tryz.func10, Tryz.ntmps10
  go_wp2_with fail
  go_loopw [5] (fun i wr => ∃ k : Nat, i = .int .i64 k ∧ k ≤ kids.length ∧ kids.take k = kids2.take k ∧ Own wr w.heap.size [.int .i64 o, .int .i64 n, .slice ad kids.length cap] ∧ Own wr (w.heap.size + 1) [.int .i64 o2, .int .i64 n2, .slice ad2 kids2.length cap2] ∧ Below w.heap.size w wr) (fun i _ => kids.length - (intOf i).toNat)
  case atStart => exact ⟨0, rfl, Nat.zero_le _, by simp, p2, p3, hb0⟩
  case round =>
    obtain ⟨k, rfl, hkl, htk, q1, q2, q3⟩ := hrel
    obtain ⟨u0, u1, u2, -, -, -, uz⟩ := q1.three
    obtain ⟨v0, v1, v2, -, -, -, vz⟩ := q2.three
    by_cases hk : k < kids.length
    · have hk' : k < kids2.length := by rw [← HL.out]; exact hk
      have t1 := hx.below q3
      obtain ⟨ad', cap', hv', -, ts⟩ := t1.shape
      have hadd : ad' = ad := by simp [Xp.o, Xp.n, Xp.ks] at hv'; exact hv'.1.symm
      subst hadd
      obtain ⟨a, ae, ce, rfl, m0, m1, m2, tk, hab⟩ := ts.reads k hk
      have s1 := hy.below q3
      obtain ⟨ad3, cap3, hw', -, ss⟩ := s1.shape
      have hadd : ad3 = ad2 := by simp [Xp.o, Xp.n, Xp.ks] at hw'; exact hw'.1.symm
      subst hadd
      obtain ⟨b, be, de, rfl, n0, n1, n3, tj, hbb⟩ := ss.reads k hk'
      simp only [Xp.ks] at m0 m1 m2 tk n0 n1 n3 tj
      have hcall := fun w2 (h : Below wr.heap.size wr w2) => hIH k hk hk' _ _ w2 (tk.below h) (tj.below h)
      have HA : Hid (kids[k] = kids2[k] → kids.take (k + 1) = kids2.take (k + 1)) := Lib.hid (fun h => by
        rw [List.take_succ_eq_append_getElem hk, List.take_succ_eq_append_getElem hk', htk, h])
      have HB : Hid (kids = kids2 → kids[k] = kids2[k]) := Lib.hid (fun h => by subst h; rfl)
      have hwk : IntKind.i64.wrap ((k : Int) + 1) = (k : Int) + 1 := IntWalk.i64_in _ (by omega)
      generalize kids[k] = x at *
      generalize kids2[k] = y at *
      clear hv' hw' t1 s1 ts ss htk
      go_wp2_with fail
      go_region_with ((go_at_call 10; refine (hcall _ (Below.refl _ _).drew).mono ?_; rintro e w2 ⟨bb, rfl, hbb2, hbw⟩))
      all_goals (
        have q4 : Below w.heap.size w w2 := q3.drew.trans (hbw.mono q3.size)
        replace q1 := q1.drew.below hbw
        replace q2 := q2.drew.below hbw
        cases bb with
        | true =>
          have g1 := HA.out (hbb2.1 rfl)
          clear hbb2 u0 u1 u2 v0 v1 v2
          go_wp2_with fail
          go_roundw
          case rel => exact ⟨k + 1, by go_num, by omega, g1, q1, q2, q4⟩
          case measure => simp [intOf]; omega
        | false =>
          have HF : Hid (¬ p) := Lib.hid (fun h => by have := hbb2.2 (HB.out (HE.out.1 h)); cases this)
          clear hbb2 u0 u1 u2 v0 v1 v2
          go_wp2_with fail
          go_ret
          exact ⟨false, rfl, ⟨fun h => (by cases h), fun h => absurd h HF.out⟩, q4⟩)
    · have hkE : k = kids.length := by omega
      subst hkE
      have HT : Hid p := Lib.hid (HE.out.2 (take_all HL.out htk))
      clear htk
      go_wp2_with fail
      go_ret
      exact ⟨true, rfl, ⟨fun _ => HT.out, fun _ => rfl⟩, q3⟩
theorem same_self {Q R : Nat → Prop} {x : Xp} {u v : Value} {w : World} (h1 : Tree Q w x u) (h2 : Tree R w x v) : Calls Tryz.prog 10 #[u, v] w (Ret (.bool true) w) :=
  (same_any Q R x x u v w h1 h2).mono fun e w' ⟨b, he, hb, hw⟩ => ⟨by rw [he, hb.2 rfl], hw⟩
end Go.Proofs.YthnlenbfknbmcaaGreatDoor
