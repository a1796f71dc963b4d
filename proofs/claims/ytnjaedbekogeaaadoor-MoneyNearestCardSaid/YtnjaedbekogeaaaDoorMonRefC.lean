/-
  The walk of the reference's Convert.
-/
import Derived.Test.YtnjaedbekogeaaaDoorMonRefV
import Derived.Test.YtnjaedbekogeaaaDoorDigArg
namespace Go.Proofs.YtnjaedbekogeaaaDoor
open Go.RowKit
set_option maxRecDepth 100000

theorem rvalid6_at {b : Bool} (v : Value) (l : List Ex) (w : World) (h : Exs w v l) (hv : vldX l = b) : Calls Tryd.prog 13 #[v] w (Ret (.bool b) w) := by subst hv; exact rvalid6_any v l w h

set_option maxHeartbeats 2000000 in
theorem rconv_bad (v : Value) (l : List Ex) (c k to : Int) (w : World) (h : Exs w v l) (hv : vldX l = false) : Calls Tryd.prog 11 #[v, .agg #[.int .i64 c, .int .i64 k], .int .i64 to] w (Ret (convV (convF l c k to)) w) := by
  have hb : Below w.heap.size w w := Below.refl _ _
  have HF : Hid (convF l c k to = ((0, 0), 1)) := Lib.hid (by simp [convF, hv])
  clear hb
  have HV := Lib.hid hv
  clear hv
  go_enter Tryd.func11, Tryd.ntmps11
  go_wp2_with fail
  have h2 := h.below (((Below.refl _ w).alloc (Nat.le_refl _) (.cells #[.int .i64 c, .int .i64 k] 24)).alloc (by simp) (.cells #[.int .i64 0, .int .i64 0] 24))
  have hn2 : Below w.heap.size w ((w.alloc (.cells #[.int .i64 c, .int .i64 k] 24)).alloc (.cells #[.int .i64 0, .int .i64 0] 24)) := (((Below.refl _ w).alloc (Nat.le_refl _) _).alloc (by simp) _)
  have oM := (Own.new w #[.int .i64 c, .int .i64 k] 24).alloc (.cells #[.int .i64 0, .int .i64 0] 24)
  have oR := Own.at (w.alloc (.cells #[.int .i64 c, .int .i64 k] 24)) #[.int .i64 0, .int .i64 0] 24 (w.heap.size + 1) (by simp)
  refine (rvalid6_at _ l _ h2 HV.out).mono ?_
  rintro e w1 ⟨rfl, hx⟩
  replace oM := oM.below hx
  replace oR := oR.below hx
  have h1 := h2.below hx
  have hb := hn2.trans (hx.mono hn2.size)
  obtain ⟨m0, m1, p0, p1, zM⟩ := oM.two
  obtain ⟨r0, r1, q0, q1, zR⟩ := oR.two
  clear hx hn2 h2 h
  go_wp2_with fail
  refine bodyPost_ret (v := .tuple #[.agg #[.int .i64 0, .int .i64 0], .int .i64 1]) (by simp [results, Tryd.results11, go_sem, r0, r1]) rfl (Ret.mk (convV.eq HF.out) ?_)
  (have hbs := hb.size; repeat (first | exact Below.refl _ _ | assumption | refine Below.drew ?_ | refine below_drewN ?_ _ | refine Below.setCell ?_ (by first | omega | (simp <;> omega)) _ | refine Below.alloc ?_ (by first | omega | (simp <;> omega)) _))

set_option maxHeartbeats 2000000 in
theorem rconv_amt (v : Value) (l : List Ex) (c k to : Int) (w : World) (h : Exs w v l) (hv : vldX l = true) (hc : wthB c 1000000000 = false) : Calls Tryd.prog 11 #[v, .agg #[.int .i64 c, .int .i64 k], .int .i64 to] w (Ret (convV (convF l c k to)) w) := by
  have hb : Below w.heap.size w w := Below.refl _ _
  have HF : Hid (convF l c k to = ((0, 0), 1)) := Lib.hid (by simp [convF, hc])
  clear hb
  have HV := Lib.hid hv
  have HC := Lib.hid hc
  clear hv hc
  go_enter Tryd.func11, Tryd.ntmps11
  go_wp2_with fail
  have h2 := h.below (((Below.refl _ w).alloc (Nat.le_refl _) (.cells #[.int .i64 c, .int .i64 k] 24)).alloc (by simp) (.cells #[.int .i64 0, .int .i64 0] 24))
  have hn2 : Below w.heap.size w ((w.alloc (.cells #[.int .i64 c, .int .i64 k] 24)).alloc (.cells #[.int .i64 0, .int .i64 0] 24)) := (((Below.refl _ w).alloc (Nat.le_refl _) _).alloc (by simp) _)
  have oM := (Own.new w #[.int .i64 c, .int .i64 k] 24).alloc (.cells #[.int .i64 0, .int .i64 0] 24)
  have oR := Own.at (w.alloc (.cells #[.int .i64 c, .int .i64 k] 24)) #[.int .i64 0, .int .i64 0] 24 (w.heap.size + 1) (by simp)
  refine (rvalid6_at _ l _ h2 HV.out).mono ?_
  rintro e w1 ⟨rfl, hx⟩
  replace oM := oM.below hx
  replace oR := oR.below hx
  have h1 := h2.below hx
  have hb := hn2.trans (hx.mono hn2.size)
  obtain ⟨m0, m1, p0, p1, zM⟩ := oM.two
  obtain ⟨r0, r1, q0, q1, zR⟩ := oR.two
  clear hx hn2 h2 h
  go_wp2_with fail
  refine (rAmount_at _ _ HC.out).mono ?_
  rintro e w' ⟨rfl, rfl⟩
  go_wp2_with fail
  refine bodyPost_ret (v := .tuple #[.agg #[.int .i64 0, .int .i64 0], .int .i64 1]) (by simp [results, Tryd.results11, go_sem, r0, r1]) rfl (Ret.mk (convV.eq HF.out) ?_)
  (have hbs := hb.size; repeat (first | exact Below.refl _ _ | assumption | refine Below.drew ?_ | refine below_drewN ?_ _ | refine Below.setCell ?_ (by first | omega | (simp <;> omega)) _ | refine Below.alloc ?_ (by first | omega | (simp <;> omega)) _))

set_option maxHeartbeats 2000000 in
theorem rconv_cur (v : Value) (l : List Ex) (c k to : Int) (w : World) (h : Exs w v l) (hv : vldX l = true) (hc : wthB c 1000000000 = true) (hk : cur k = false) : Calls Tryd.prog 11 #[v, .agg #[.int .i64 c, .int .i64 k], .int .i64 to] w (Ret (convV (convF l c k to)) w) := by
  have hb : Below w.heap.size w w := Below.refl _ _
  have HF : Hid (convF l c k to = ((0, 0), 1)) := Lib.hid (by simp [convF, hk])
  clear hb
  have HV := Lib.hid hv
  have HC := Lib.hid hc
  have HK := Lib.hid hk
  clear hv hc hk
  go_enter Tryd.func11, Tryd.ntmps11
  go_wp2_with fail
  have h2 := h.below (((Below.refl _ w).alloc (Nat.le_refl _) (.cells #[.int .i64 c, .int .i64 k] 24)).alloc (by simp) (.cells #[.int .i64 0, .int .i64 0] 24))
  have hn2 : Below w.heap.size w ((w.alloc (.cells #[.int .i64 c, .int .i64 k] 24)).alloc (.cells #[.int .i64 0, .int .i64 0] 24)) := (((Below.refl _ w).alloc (Nat.le_refl _) _).alloc (by simp) _)
  have oM := (Own.new w #[.int .i64 c, .int .i64 k] 24).alloc (.cells #[.int .i64 0, .int .i64 0] 24)
  have oR := Own.at (w.alloc (.cells #[.int .i64 c, .int .i64 k] 24)) #[.int .i64 0, .int .i64 0] 24 (w.heap.size + 1) (by simp)
  refine (rvalid6_at _ l _ h2 HV.out).mono ?_
  rintro e w1 ⟨rfl, hx⟩
  replace oM := oM.below hx
  replace oR := oR.below hx
  have h1 := h2.below hx
  have hb := hn2.trans (hx.mono hn2.size)
  obtain ⟨m0, m1, p0, p1, zM⟩ := oM.two
  obtain ⟨r0, r1, q0, q1, zR⟩ := oR.two
  clear hx hn2 h2 h
  go_wp2_with fail
  refine (rAmount_at _ _ HC.out).mono ?_
  rintro e w' ⟨rfl, rfl⟩
  go_wp2_with fail
  refine (rCurrency_at _ _ HK.out).mono ?_
  rintro e w' ⟨rfl, rfl⟩
  go_wp2_with fail
  refine bodyPost_ret (v := .tuple #[.agg #[.int .i64 0, .int .i64 0], .int .i64 1]) (by simp [results, Tryd.results11, go_sem, r0, r1]) rfl (Ret.mk (convV.eq HF.out) ?_)
  (have hbs := hb.size; repeat (first | exact Below.refl _ _ | assumption | refine Below.drew ?_ | refine below_drewN ?_ _ | refine Below.setCell ?_ (by first | omega | (simp <;> omega)) _ | refine Below.alloc ?_ (by first | omega | (simp <;> omega)) _))

set_option maxHeartbeats 2000000 in
theorem rconv_to (v : Value) (l : List Ex) (c k to : Int) (w : World) (h : Exs w v l) (hv : vldX l = true) (hc : wthB c 1000000000 = true) (hk : cur k = true) (ht : cur to = false) : Calls Tryd.prog 11 #[v, .agg #[.int .i64 c, .int .i64 k], .int .i64 to] w (Ret (convV (convF l c k to)) w) := by
  have hb : Below w.heap.size w w := Below.refl _ _
  have HF : Hid (convF l c k to = ((0, 0), 1)) := Lib.hid (by simp [convF, ht])
  clear hb
  have HV := Lib.hid hv
  have HC := Lib.hid hc
  have HK := Lib.hid hk
  have HT := Lib.hid ht
  clear hv hc hk ht
  go_enter Tryd.func11, Tryd.ntmps11
  go_wp2_with fail
  have h2 := h.below (((Below.refl _ w).alloc (Nat.le_refl _) (.cells #[.int .i64 c, .int .i64 k] 24)).alloc (by simp) (.cells #[.int .i64 0, .int .i64 0] 24))
  have hn2 : Below w.heap.size w ((w.alloc (.cells #[.int .i64 c, .int .i64 k] 24)).alloc (.cells #[.int .i64 0, .int .i64 0] 24)) := (((Below.refl _ w).alloc (Nat.le_refl _) _).alloc (by simp) _)
  have oM := (Own.new w #[.int .i64 c, .int .i64 k] 24).alloc (.cells #[.int .i64 0, .int .i64 0] 24)
  have oR := Own.at (w.alloc (.cells #[.int .i64 c, .int .i64 k] 24)) #[.int .i64 0, .int .i64 0] 24 (w.heap.size + 1) (by simp)
  refine (rvalid6_at _ l _ h2 HV.out).mono ?_
  rintro e w1 ⟨rfl, hx⟩
  replace oM := oM.below hx
  replace oR := oR.below hx
  have h1 := h2.below hx
  have hb := hn2.trans (hx.mono hn2.size)
  obtain ⟨m0, m1, p0, p1, zM⟩ := oM.two
  obtain ⟨r0, r1, q0, q1, zR⟩ := oR.two
  clear hx hn2 h2 h
  go_wp2_with fail
  refine (rAmount_at _ _ HC.out).mono ?_
  rintro e w' ⟨rfl, rfl⟩
  go_wp2_with fail
  refine (rCurrency_at _ _ HK.out).mono ?_
  rintro e w' ⟨rfl, rfl⟩
  go_wp2_with fail
  refine (rCurrency_at _ _ HT.out).mono ?_
  rintro e w' ⟨rfl, rfl⟩
  go_wp2_with fail
  refine bodyPost_ret (v := .tuple #[.agg #[.int .i64 0, .int .i64 0], .int .i64 1]) (by simp [results, Tryd.results11, go_sem, r0, r1]) rfl (Ret.mk (convV.eq HF.out) ?_)
  (have hbs := hb.size; repeat (first | exact Below.refl _ _ | assumption | refine Below.drew ?_ | refine below_drewN ?_ _ | refine Below.setCell ?_ (by first | omega | (simp <;> omega)) _ | refine Below.alloc ?_ (by first | omega | (simp <;> omega)) _))

set_option maxHeartbeats 2000000 in
theorem rconv_same (v : Value) (l : List Ex) (c k to : Int) (w : World) (h : Exs w v l) (hv : vldX l = true) (hc : wthB c 1000000000 = true) (hk : cur k = true) (ht : cur to = true) (he : k = to) : Calls Tryd.prog 11 #[v, .agg #[.int .i64 c, .int .i64 k], .int .i64 to] w (Ret (convV (convF l c k to)) w) := by
  have hb : Below w.heap.size w w := Below.refl _ _
  have HF : Hid (convF l c k to = ((c, k), 0)) := Lib.hid (by simp [convF, hv, hc, ht, he])
  clear hb
  have HV := Lib.hid hv
  have HC := Lib.hid hc
  have HK := Lib.hid hk
  have HT := Lib.hid ht
  clear hv hc hk ht
  have he' : (k == to) = true := by simpa using he
  clear he
  go_enter Tryd.func11, Tryd.ntmps11
  go_wp2_with fail
  have h2 := h.below (((Below.refl _ w).alloc (Nat.le_refl _) (.cells #[.int .i64 c, .int .i64 k] 24)).alloc (by simp) (.cells #[.int .i64 0, .int .i64 0] 24))
  have hn2 : Below w.heap.size w ((w.alloc (.cells #[.int .i64 c, .int .i64 k] 24)).alloc (.cells #[.int .i64 0, .int .i64 0] 24)) := (((Below.refl _ w).alloc (Nat.le_refl _) _).alloc (by simp) _)
  have oM := (Own.new w #[.int .i64 c, .int .i64 k] 24).alloc (.cells #[.int .i64 0, .int .i64 0] 24)
  have oR := Own.at (w.alloc (.cells #[.int .i64 c, .int .i64 k] 24)) #[.int .i64 0, .int .i64 0] 24 (w.heap.size + 1) (by simp)
  refine (rvalid6_at _ l _ h2 HV.out).mono ?_
  rintro e w1 ⟨rfl, hx⟩
  replace oM := oM.below hx
  replace oR := oR.below hx
  have h1 := h2.below hx
  have hb := hn2.trans (hx.mono hn2.size)
  obtain ⟨m0, m1, p0, p1, zM⟩ := oM.two
  obtain ⟨r0, r1, q0, q1, zR⟩ := oR.two
  clear hx hn2 h2 h
  go_wp2_with fail
  refine (rAmount_at _ _ HC.out).mono ?_
  rintro e w' ⟨rfl, rfl⟩
  go_wp2_with fail
  refine (rCurrency_at _ _ HK.out).mono ?_
  rintro e w' ⟨rfl, rfl⟩
  go_wp2_with fail
  refine (rCurrency_at _ _ HT.out).mono ?_
  rintro e w' ⟨rfl, rfl⟩
  go_wp2_with fail
  refine bodyPost_ret (v := .tuple #[.agg #[.int .i64 c, .int .i64 k], .int .i64 0]) (by simp [results, Tryd.results11, go_sem, r0, r1]) rfl (Ret.mk (convV.eq HF.out) ?_)
  (have hbs := hb.size; repeat (first | exact Below.refl _ _ | assumption | refine Below.drew ?_ | refine below_drewN ?_ _ | refine Below.setCell ?_ (by first | omega | (simp <;> omega)) _ | refine Below.alloc ?_ (by first | omega | (simp <;> omega)) _))

set_option maxHeartbeats 2000000 in
theorem rconv_loop (v : Value) (l : List Ex) (c k to : Int) (w : World) (h : Exs w v l) (hv : vldX l = true) (hc : wthB c 1000000000 = true) (hk : cur k = true) (ht : cur to = true) (he : ¬ k = to) : Calls Tryd.prog 11 #[v, .agg #[.int .i64 c, .int .i64 k], .int .i64 to] w (Ret (convV (convF l c k to)) w) := by
  have hb : Below w.heap.size w w := Below.refl _ _
  have hC : convF l c k to = (match rateOf l k to with | none => ((0, 0), 4) | some x => if wthB (rndF (c * x.n) x.d 3) 1000000000 then ((rndF (c * x.n) x.d 3, to), 0) else ((0, 0), 3)) := by simp only [convF, hv, hc, hk, ht, he, Bool.and_self, if_true, if_false]; rfl
  have hvr := fun x => vldX_rate (l := l) (a := k) (b := to) (x := x) hv
  have HN := Lib.hid hc
  replace hC := Lib.hid hC
  clear hb
  have HV := Lib.hid hv
  have HC := Lib.hid hc
  have HK := Lib.hid hk
  have HT := Lib.hid ht
  clear hv hc hk ht
  have he' : (k == to) = false := by simpa using he
  clear he
  go_enter Tryd.func11, Tryd.ntmps11
  go_wp2_with fail
  have h2 := h.below (((Below.refl _ w).alloc (Nat.le_refl _) (.cells #[.int .i64 c, .int .i64 k] 24)).alloc (by simp) (.cells #[.int .i64 0, .int .i64 0] 24))
  have hn2 : Below w.heap.size w ((w.alloc (.cells #[.int .i64 c, .int .i64 k] 24)).alloc (.cells #[.int .i64 0, .int .i64 0] 24)) := (((Below.refl _ w).alloc (Nat.le_refl _) _).alloc (by simp) _)
  have oM := (Own.new w #[.int .i64 c, .int .i64 k] 24).alloc (.cells #[.int .i64 0, .int .i64 0] 24)
  have oR := Own.at (w.alloc (.cells #[.int .i64 c, .int .i64 k] 24)) #[.int .i64 0, .int .i64 0] 24 (w.heap.size + 1) (by simp)
  refine (rvalid6_at _ l _ h2 HV.out).mono ?_
  rintro e w1 ⟨rfl, hx⟩
  replace oM := oM.below hx
  replace oR := oR.below hx
  have h1 := h2.below hx
  have hb := hn2.trans (hx.mono hn2.size)
  obtain ⟨m0, m1, p0, p1, zM⟩ := oM.two
  obtain ⟨r0, r1, q0, q1, zR⟩ := oR.two
  clear hx hn2 h2 h
  go_wp2_with fail
  refine (rAmount_at _ _ HC.out).mono ?_
  rintro e w' ⟨rfl, rfl⟩
  go_wp2_with fail
  refine (rCurrency_at _ _ HK.out).mono ?_
  rintro e w' ⟨rfl, rfl⟩
  go_wp2_with fail
  refine (rCurrency_at _ _ HT.out).mono ?_
  rintro e w' ⟨rfl, rfl⟩
  go_wp2_with fail
  clear m0 m1 p0 p1 zM r0 r1 q0 q1 zR
  have hlen := h1.short
  obtain ⟨ad, cap, hsl, hc1⟩ := h1.open
  cases hsl
  clear hc1
  go_loopw [8] (fun i wr => ∃ j : Nat, j ≤ l.length ∧ i = .int .i64 j ∧ rateOf l k to = rateOf (l.drop j) k to ∧ Below w1.heap.size w1 wr)
    (fun i _ => l.length - (intOf i).toNat)
  case atStart => exact ⟨0, by omega, rfl, by simp, Below.refl _ _⟩
  case round =>
    obtain ⟨j, hj, rfl, hnone, hb3⟩ := hrel
    by_cases hjl : j < l.length
    · obtain ⟨a, rfl, _⟩ := h1.reads hb3 (Nat.le_refl _) j hjl
      have q0 : decide ((j : Int) < l.length) = true := by simp; omega
      have hu := fun g : Grow wr => h1.readsA (hb3.trans ((up_below wr g).mono hb3.size)) (Nat.le_refl _) j hjl
      have u0 := fun g => (hu g).1
      have u1 := fun g => (hu g).2.1
      have u2 := fun g => (hu g).2.2.1
      have u3 := fun g => (hu g).2.2.2
      rw [xdrop_cons hjl] at hnone
      clear hu
      generalize l[j] = x at u0 u1 u2 u3 hnone
      have vm0 := fun g : Grow wr => ((oM.below hb3).below (up_below wr g)).cell 0 _ rfl
      have vm1 := fun g : Grow wr => ((oM.below hb3).below (up_below wr g)).cell 1 _ rfl
      by_cases e1 : x.f = k
      · by_cases e2 : x.t = to
        · have q2 : (x.f == k) = true := by simpa using e1
          have q3 : (x.t == to) = true := by simpa using e2
          have hrx : rateOf l k to = some x := by rw [hnone]; simp [rateOf, keyB, e1, e2]
          have HX := Lib.hid (hvr x hrx)
          have HC2 := hC.out
          rw [hrx] at HC2
          clear e1 e2 hnone hrx hvr
          go_wp2_with fail
          refine wp_region_up (by kernel_rfl) (by kernel_rfl) ?_
          repeat (go_big_quiet_step (fail))
          refine wpQuiet_nil ?_
          rintro w5 ⟨g, rfl⟩
          have hx5 := up_below wr g
          have hb5 := hb3.trans (hx5.mono hb3.size)
          have u2' := u2 g
          have u3' := u3 g
          have vm0' := vm0 g
          have vm1' := vm1 g
          clear u0 u1 u2 u3 vm0 vm1
          generalize up wr g = w6 at *
          have v0 := fun g : Grow w6 => h1.readsA (hb5.trans ((up_below w6 g).mono hb5.size)) (Nat.le_refl _) j hjl
          have z2 : ∀ g : Grow w6, (up w6 g).cell? { block := (a.add (j * 4)).block, off := (a.add (j * 4)).off + 2 } = some (.int .i64 x.n) := fun g => ((up_below w6 g).cell (p := { block := (a.add (j * 4)).block, off := (a.add (j * 4)).off + 2 }) (block_lt u2')).trans u2'
          have z3 : ∀ g : Grow w6, (up w6 g).cell? { block := (a.add (j * 4)).block, off := (a.add (j * 4)).off + 3 } = some (.int .i64 x.d) := fun g => ((up_below w6 g).cell (p := { block := (a.add (j * 4)).block, off := (a.add (j * 4)).off + 3 }) (block_lt u3')).trans u3'
          have vm0 := fun g : Grow w6 => ((oM.below hb5).below (up_below w6 g)).cell 0 _ rfl
          clear v0 u2' u3' vm0' vm1'
          cases hw : wthB (rndF (c * x.n) x.d 3) 1000000000 with
          | true =>
            have HF : Hid (convF l c k to = ((rndF (c * x.n) x.d 3, to), 0)) := Lib.hid (by rw [HC2]; simp [hw])
            have HP : Hid (partF c x.n x.d 3 = (rndF (c * x.n) x.d 3, 0)) := Lib.hid (by simp [partF, exB_vld HX.out, HN.out, hw])
            generalize rndF (c * x.n) x.d 3 = y at *
            have HW := Lib.hid hw
            clear hw HC2
            go_wp2_with fail
            refine wp_region_up (by kernel_rfl) (by kernel_rfl) ?_
            repeat (go_big_quiet_step (first | (go_at_call 29; refine Ret.up (v := .tuple #[.int .i64 y, .int .i64 0]) ?_; have hpp := r_part c x.n x.d 3; rw [HP.out] at hpp; exact hpp _)))
            refine wpQuiet_nil ?_
            rintro w7 ⟨g, rfl⟩
            have hx7 := up_below w6 g
            have hb7 := hb5.trans (hx7.mono hb5.size)
            obtain ⟨r0, r1, q0, q1, zR⟩ := (oR.below hb7).two
            generalize up w6 g = w7 at *
            replace hb := hb.trans (hb7.mono hb.size)
            clear vm0 z2 z3 hx7
            go_wp2_with (go_at_call 22; refine (rAmount_at _ _ HW.out).mono ?_; rintro e w' ⟨rfl, rfl⟩)
            refine bodyPost_ret (v := .tuple #[.agg #[.int .i64 y, .int .i64 to], .int .i64 0]) (by simp [results, Tryd.results11, go_sem, r0, r1]) rfl (Ret.mk (convV.eq HF.out) ?_)
            (have hbs := hb.size; repeat (first | exact Below.refl _ _ | assumption | refine Below.drew ?_ | refine below_drewN ?_ _ | refine Below.setCell ?_ (by first | omega | (simp <;> omega)) _ | refine Below.alloc ?_ (by first | omega | (simp <;> omega)) _))
          | false =>
            have HF : Hid (convF l c k to = ((0, 0), 3)) := Lib.hid (by rw [HC2]; simp [hw])
            have HP : Hid (partF c x.n x.d 3 = (0, 3)) := Lib.hid (by simp [partF, exB_vld HX.out, HN.out, hw])
            clear hw HC2
            go_wp2_with fail
            refine wp_region_up (by kernel_rfl) (by kernel_rfl) ?_
            repeat (go_big_quiet_step (first | (go_at_call 29; refine Ret.up (v := .tuple #[.int .i64 0, .int .i64 3]) ?_; have hpp := r_part c x.n x.d 3; rw [HP.out] at hpp; exact hpp _)))
            refine wpQuiet_nil ?_
            rintro w7 ⟨g, rfl⟩
            have hx7 := up_below w6 g
            have hb7 := hb5.trans (hx7.mono hb5.size)
            obtain ⟨r0, r1, q0, q1, zR⟩ := (oR.below hb7).two
            generalize up w6 g = w7 at *
            replace hb := hb.trans (hb7.mono hb.size)
            clear vm0 z2 z3 hx7
            go_wp2_with fail
            refine bodyPost_ret (v := .tuple #[.agg #[.int .i64 0, .int .i64 0], .int .i64 3]) (by simp [results, Tryd.results11, go_sem, r0, r1]) rfl (Ret.mk (convV.eq HF.out) ?_)
            (have hbs := hb.size; repeat (first | exact Below.refl _ _ | assumption | refine Below.drew ?_ | refine below_drewN ?_ _ | refine Below.setCell ?_ (by first | omega | (simp <;> omega)) _ | refine Below.alloc ?_ (by first | omega | (simp <;> omega)) _))
        · have q2 : (x.f == k) = true := by simpa using e1
          have q3 : (x.t == to) = false := by simpa using e2
          have hne : rateOf l k to = rateOf (l.drop (j + 1)) k to := by rw [hnone]; simp [rateOf, keyB, e2]
          clear e1 e2 hnone
          go_wp2_with fail
          refine wp_region_up (by kernel_rfl) (by kernel_rfl) ?_
          repeat (go_big_quiet_step (fail))
          refine wpQuiet_nil ?_
          rintro w5 ⟨g, rfl⟩
          have hx5 := up_below wr g
          have hb5 := hb3.trans (hx5.mono hb3.size)
          go_wp2_with fail
          go_roundw
          case rel => exact ⟨j + 1, by omega, by go_num, hne, hb5⟩
          case measure => simp [intOf]; omega
      · have q2 : (x.f == k) = false := by simpa using e1
        have hne : rateOf l k to = rateOf (l.drop (j + 1)) k to := by rw [hnone]; simp [rateOf, keyB, e1]
        clear e1 hnone
        go_wp2_with fail
        refine wp_region_up (by kernel_rfl) (by kernel_rfl) ?_
        repeat (go_big_quiet_step (fail))
        refine wpQuiet_nil ?_
        rintro w5 ⟨g, rfl⟩
        have hx5 := up_below wr g
        have hb5 := hb3.trans (hx5.mono hb3.size)
        go_wp2_with fail
        go_roundw
        case rel => exact ⟨j + 1, by omega, by go_num, hne, hb5⟩
        case measure => simp [intOf]; omega
    · have q0 : decide ((j : Int) < l.length) = false := by simp; omega
      have hz : rateOf l k to = none := by rw [hnone, List.drop_eq_nil_of_le (by omega)]; rfl
      have HF : Hid (convF l c k to = ((0, 0), 4)) := Lib.hid (by rw [hC.out, hz])
      obtain ⟨r0, r1, q5, q6, zR⟩ := (oR.below hb3).two
      replace hb := hb.trans (hb3.mono hb.size)
      clear hnone
      go_wp2_with fail
      refine bodyPost_ret (v := .tuple #[.agg #[.int .i64 0, .int .i64 0], .int .i64 4]) (by simp [results, Tryd.results11, go_sem, r0, r1]) rfl (Ret.mk (convV.eq HF.out) ?_)
      (have hbs := hb.size; repeat (first | exact Below.refl _ _ | assumption | refine Below.drew ?_ | refine below_drewN ?_ _ | refine Below.setCell ?_ (by first | omega | (simp <;> omega)) _ | refine Below.alloc ?_ (by first | omega | (simp <;> omega)) _))

theorem rconvert_any (v : Value) (l : List Ex) (c k to : Int) (w : World) (h : Exs w v l) : Calls Tryd.prog 11 #[v, .agg #[.int .i64 c, .int .i64 k], .int .i64 to] w (Ret (convV (convF l c k to)) w) := by
  cases hv : vldX l with
  | false => exact rconv_bad v l c k to w h hv
  | true =>
  cases hc : wthB c 1000000000 with
  | false => exact rconv_amt v l c k to w h hv hc
  | true =>
  cases hk : cur k with
  | false => exact rconv_cur v l c k to w h hv hc hk
  | true =>
  cases ht : cur to with
  | false => exact rconv_to v l c k to w h hv hc hk ht
  | true =>
  by_cases he : k = to
  · exact rconv_same v l c k to w h hv hc hk ht he
  · exact rconv_loop v l c k to w h hv hc hk ht he
end Go.Proofs.YtnjaedbekogeaaaDoor
