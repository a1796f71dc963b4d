/-
  The walk of rates: the map of a list of exchanges, if it consists of such.
-/
import Derived.Test.YtnjaedbekogeaaaDoorMonMap
namespace Go.Proofs.YtnjaedbekogeaaaDoor
open Go.RowKit
set_option maxRecDepth 100000

theorem xdrop_cons {l : List Ex} {k : Nat} (h : k < l.length) : l.drop k = l[k] :: l.drop (k + 1) := List.drop_eq_getElem_cons h
theorem take_snoc {l : List Ex} {k : Nat} (h : k < l.length) : l.take (k + 1) = l.take k ++ [l[k]] := List.take_succ_eq_append_getElem h
theorem seen_rate (l : List Ex) (a b : Int) : l.any (keyB a b) = (rateOf l a b).isSome := by
  unfold rateOf
  rw [Bool.eq_iff_iff, List.find?_isSome]
  simp

/-- what rates gives -/
def RatesP (l : List Ex) (w : World) (e : Ending) (w' : World) : Prop := Below w.heap.size w w' ∧
  ((vldX l = false ∧ e = .returned (.tuple #[.map none, .bool false])) ∨ (vldX l = true ∧ ∃ b, e = .returned (.tuple #[.map (some b), .bool true]) ∧ MapAt w' b l))

set_option maxHeartbeats 1000000 in
theorem rates_any (v : Value) (l : List Ex) (w : World) (h : Exs w v l) : Calls Tryd.prog 24 #[v] w (RatesP l w) := by
  have hmm := @run_makeMap Tryd.prog
  obtain ⟨ad, cap, rfl, hc⟩ := h.open
  have hlen := h.short
  by_cases hm : 30 < l.length
  · go_enter Tryd.func24, Tryd.ntmps24
    go_wp2_with fail
    go_ret2
    exact ⟨by (repeat (first | exact Below.refl _ _ | assumption | refine Below.drew ?_ | refine below_drewN ?_ _ | refine Below.setCell ?_ (by first | omega | (simp <;> omega)) _ | refine Below.alloc ?_ (by first | omega | (simp <;> omega)) _)), .inl ⟨by simp [vldX]; omega, rfl⟩⟩
  go_enter Tryd.func24, Tryd.ntmps24
  go_wp2_with fail
  go_loopw [16] (fun i wr => ∃ k : Nat, k ≤ l.length ∧ i = .int .i64 k ∧ MapAt wr w.heap.size (l.take k) ∧ vldX l = okEx (l.take k) (l.drop k) ∧ Below w.heap.size w wr)
    (fun i _ => l.length - (intOf i).toNat)
  case atStart => exact ⟨0, by omega, rfl, by unfold MapAt; simp only [World.alloc, Array.getElem?_push_size]; rfl, by simp [vldX]; omega, by (repeat (first | exact Below.refl _ _ | assumption | refine Below.drew ?_ | refine below_drewN ?_ _ | refine Below.setCell ?_ (by first | omega | (simp <;> omega)) _ | refine Below.alloc ?_ (by first | omega | (simp <;> omega)) _))⟩
  case round =>
    obtain ⟨k, hk, rfl, hM, hv, hb⟩ := hrel
    by_cases hkl : k < l.length
    · obtain ⟨a, rfl, hr0, hr1, hr2, hr3⟩ := h.reads hb (Nat.le_refl _) k hkl
      rw [xdrop_cons hkl] at hv
      have htk := take_snoc hkl
      generalize l[k] = x at hr0 hr1 hr2 hr3 hv htk
      clear hc h
      have hn1 : Below wr.heap.size wr (wr.alloc (.cells #[.int .i64 x.f, .int .i64 x.t, .int .i64 x.n, .int .i64 x.d] 53)) := (Below.refl _ _).alloc (Nat.le_refl _) _
      have hn2 : Below wr.heap.size wr ((wr.alloc (.cells #[.int .i64 x.f, .int .i64 x.t, .int .i64 x.n, .int .i64 x.d] 53)).alloc (.cells #[.int .i64 x.f, .int .i64 x.t] 58)) := hn1.alloc (by simp) _
      have hM2 := hM.below hn2
      cases hrt : rateOf (l.take k) x.f x.t with
      | some y =>
        have hL := look_in hM2 x.f x.t hrt
        have hvf : vldX l = false := by rw [hv, okEx, seen_rate, hrt]; rfl
        clear hv hM hM2
        go_wp2_with fail
        go_ret2
        exact ⟨hb.trans (Below.mono (by (repeat (first | exact Below.refl _ _ | assumption | refine Below.drew ?_ | refine below_drewN ?_ _ | refine Below.setCell ?_ (by first | omega | (simp <;> omega)) _ | refine Below.alloc ?_ (by first | omega | (simp <;> omega)) _))) hb.size), .inl ⟨hvf, rfl⟩⟩
      | none =>
        have hL := look_out hM2 x.f x.t hrt
        have hM3 : ∀ o, MapAt (((wr.alloc (.cells #[.int .i64 x.f, .int .i64 x.t, .int .i64 x.n, .int .i64 x.d] 53)).alloc (.cells #[.int .i64 x.f, .int .i64 x.t] 58)).alloc o) w.heap.size (l.take k) := fun o => hM2.below ((Below.refl _ _).alloc (Nat.le_refl _) _)
        have hn3 : ∀ o, Below w.heap.size w (((wr.alloc (.cells #[.int .i64 x.f, .int .i64 x.t, .int .i64 x.n, .int .i64 x.d] 53)).alloc (.cells #[.int .i64 x.f, .int .i64 x.t] 58)).alloc o) := fun o => hb.trans ((hn2.alloc (by simp; omega) o).mono hb.size)
        have oX := (Own.new wr #[.int .i64 x.f, .int .i64 x.t, .int .i64 x.n, .int .i64 x.d] 53).alloc (.cells #[.int .i64 x.f, .int .i64 x.t] 58)
        have oP := Own.at (wr.alloc (.cells #[.int .i64 x.f, .int .i64 x.t, .int .i64 x.n, .int .i64 x.d] 53)) #[.int .i64 x.f, .int .i64 x.t] 58 (wr.heap.size + 1) (by simp)
        cases hex : exB x with
        | false =>
          have hvf : vldX l = false := by rw [hv, okEx, hex]; simp
          have HE := Lib.hid hex
          clear hv hM hM2 hex
          go_wp2_with fail
          refine (isExchange_at x _ HE.out).mono ?_
          rintro e w1 ⟨rfl, hx⟩
          have hb1 := (hn3 _).trans (hx.mono (hn3 _).size)
          clear hM3 hn3 hn2 hn1 hx
          go_wp2_with fail
          go_ret2
          exact ⟨hb1, .inl ⟨hvf, rfl⟩⟩
        | true =>
          have hvf : vldX l = okEx (l.take (k + 1)) (l.drop (k + 1)) := by rw [hv, okEx, seen_rate, hrt, hex, htk]; rfl
          have HE := Lib.hid hex
          clear hv hM hM2 hex
          go_wp2_with fail
          refine (isExchange_at x _ HE.out).mono ?_
          rintro e w1 ⟨rfl, hx⟩
          have hb1 := (hn3 _).trans (hx.mono (hn3 _).size)
          replace oX := (oX.alloc _).below hx
          replace oP := (oP.alloc _).below hx
          have hM1 := (hM3 _).below hx
          obtain ⟨x0, x1, x2, x3, g0, g1, g2, g3, zX⟩ := oX.four
          obtain ⟨p0, p1, q0, q1, zP⟩ := oP.two
          clear hM3 hn3 hn2 hn1 hx oX oP hr0 hr1 hr2 hr3
          obtain ⟨w2, hrun, hM4, hput⟩ := put_new x hM1 hrt
          have hb2 := hb1.trans (hput w.heap.size (Nat.le_refl _))
          go_wp2_with fail
          go_roundw
          case rel => exact ⟨k + 1, by omega, by go_num, by rw [htk]; exact hM4, hvf, hb2⟩
          case measure => simp [intOf]; omega
    · have e1 : k = l.length := by omega
      subst e1
      rw [List.take_length] at hM
      go_wp2_with fail
      go_ret2
      refine ⟨hb, .inr ⟨by rw [hv]; simp [okEx], _, rfl, hM⟩⟩
end Go.Proofs.YtnjaedbekogeaaaDoor
