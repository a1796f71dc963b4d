/-
  The walks of Valid and Convert.
-/
import Derived.Test.YtnjaedbekogeaaaDoorMonRates
namespace Go.Proofs.YtnjaedbekogeaaaDoor
open Go.RowKit
set_option maxRecDepth 100000

theorem rates_bad (v : Value) (l : List Ex) (w : World) (h : Exs w v l) (hv : vldX l = false) : Calls Tryd.prog 24 #[v] w (Ret (.tuple #[.map none, .bool false]) w) :=
  (rates_any v l w h).mono fun e w' ⟨hb, hr⟩ => by
    rcases hr with ⟨_, rfl⟩ | ⟨h1, _⟩
    · exact ⟨rfl, hb⟩
    · rw [hv] at h1; cases h1
theorem rates_good (v : Value) (l : List Ex) (w : World) (h : Exs w v l) (hv : vldX l = true) : Calls Tryd.prog 24 #[v] w fun e w' => (∃ b, e = .returned (.tuple #[.map (some b), .bool true]) ∧ MapAt w' b l) ∧ Below w.heap.size w w' :=
  (rates_any v l w h).mono fun e w' ⟨hb, hr⟩ => by
    rcases hr with ⟨h1, _⟩ | ⟨_, b, rfl, hM⟩
    · rw [hv] at h1; cases h1
    · exact ⟨⟨b, rfl, hM⟩, hb⟩

set_option maxHeartbeats 400000 in
theorem mvalid_any (v : Value) (l : List Ex) (w : World) (h : Exs w v l) : Calls Tryd.prog 12 #[v] w (Ret (.bool (vldX l)) w) := by
  have hb : Below w.heap.size w w := Below.refl _ _
  cases hv : vldX l with
  | false =>
    have HV := Lib.hid hv
    clear hv
    go_enter Tryd.func12, Tryd.ntmps12
    go_wp2_with fail
    refine (rates_bad _ l w h HV.out).mono ?_
    rintro e w1 ⟨rfl, hx⟩
    go_wp2_with fail
    go_ret
    exact ⟨rfl, hx⟩
  | true =>
    have HV := Lib.hid hv
    clear hv
    go_enter Tryd.func12, Tryd.ntmps12
    go_wp2_with fail
    refine (rates_good _ l w h HV.out).mono ?_
    rintro e w1 ⟨⟨b, rfl, _⟩, hx⟩
    go_wp2_with fail
    go_ret
    exact ⟨rfl, hx⟩

def convV (x : (Int × Int) × Int) : Value := .tuple #[.agg #[.int .i64 x.1.1, .int .i64 x.1.2], .int .i64 x.2]
theorem convV.eq {a b e : Int} {p : (Int × Int) × Int} (h : p = ((a, b), e)) : Value.tuple #[.agg #[.int .i64 a, .int .i64 b], .int .i64 e] = convV p := by rw [h]; rfl

set_option maxHeartbeats 1000000 in
theorem conv_bad (v : Value) (l : List Ex) (c k to : Int) (w : World) (h : Exs w v l) (hv : vldX l = false) : Calls Tryd.prog 10 #[v, .agg #[.int .i64 c, .int .i64 k], .int .i64 to] w (Ret (convV (convF l c k to)) w) := by
  have hb : Below w.heap.size w w := Below.refl _ _
  have HF : Hid (convF l c k to = ((0, 0), 1)) := Lib.hid (by simp [convF, hv])
  clear hb
  have HV := Lib.hid hv
  clear hv
  go_enter Tryd.func10, Tryd.ntmps10
  go_wp2_with fail
  have h2 := h.below (((Below.refl _ w).alloc (Nat.le_refl _) (.cells #[.int .i64 c, .int .i64 k] 24)).alloc (by simp) (.cells #[.int .i64 0, .int .i64 0] 24))
  have hn2 : Below w.heap.size w ((w.alloc (.cells #[.int .i64 c, .int .i64 k] 24)).alloc (.cells #[.int .i64 0, .int .i64 0] 24)) := (((Below.refl _ w).alloc (Nat.le_refl _) _).alloc (by simp) _)
  have oM := (Own.new w #[.int .i64 c, .int .i64 k] 24).alloc (.cells #[.int .i64 0, .int .i64 0] 24)
  have oR := Own.at (w.alloc (.cells #[.int .i64 c, .int .i64 k] 24)) #[.int .i64 0, .int .i64 0] 24 (w.heap.size + 1) (by simp)
  refine (rates_bad _ l _ h2 HV.out).mono ?_
  rintro e w1 ⟨rfl, hx⟩
  replace oM := oM.below hx
  replace oR := oR.below hx
  have hb := hn2.trans (hx.mono hn2.size)
  obtain ⟨m0, m1, p0, p1, zM⟩ := oM.two
  obtain ⟨r0, r1, q0, q1, zR⟩ := oR.two
  clear hx hn2 h2 oM h
  go_wp2_with fail
  refine bodyPost_ret (v := .tuple #[.agg #[.int .i64 0, .int .i64 0], .int .i64 1]) (by simp [results, Tryd.results10, go_sem, r0, r1]) rfl (Ret.mk (convV.eq HF.out) ?_)
  (have hbs := hb.size; repeat (first | exact Below.refl _ _ | assumption | refine Below.drew ?_ | refine below_drewN ?_ _ | refine Below.setCell ?_ (by first | omega | (simp <;> omega)) _ | refine Below.alloc ?_ (by first | omega | (simp <;> omega)) _))

set_option maxHeartbeats 1000000 in
theorem conv_amt (v : Value) (l : List Ex) (c k to : Int) (w : World) (h : Exs w v l) (hv : vldX l = true) (hc : wthB c 1000000000 = false) : Calls Tryd.prog 10 #[v, .agg #[.int .i64 c, .int .i64 k], .int .i64 to] w (Ret (convV (convF l c k to)) w) := by
  have hb : Below w.heap.size w w := Below.refl _ _
  have HF : Hid (convF l c k to = ((0, 0), 1)) := Lib.hid (by simp [convF, hc])
  clear hb
  have HV := Lib.hid hv
  have HC := Lib.hid hc
  clear hv hc
  go_enter Tryd.func10, Tryd.ntmps10
  go_wp2_with fail
  have h2 := h.below (((Below.refl _ w).alloc (Nat.le_refl _) (.cells #[.int .i64 c, .int .i64 k] 24)).alloc (by simp) (.cells #[.int .i64 0, .int .i64 0] 24))
  have hn2 : Below w.heap.size w ((w.alloc (.cells #[.int .i64 c, .int .i64 k] 24)).alloc (.cells #[.int .i64 0, .int .i64 0] 24)) := (((Below.refl _ w).alloc (Nat.le_refl _) _).alloc (by simp) _)
  have oM := (Own.new w #[.int .i64 c, .int .i64 k] 24).alloc (.cells #[.int .i64 0, .int .i64 0] 24)
  have oR := Own.at (w.alloc (.cells #[.int .i64 c, .int .i64 k] 24)) #[.int .i64 0, .int .i64 0] 24 (w.heap.size + 1) (by simp)
  refine (rates_good _ l _ h2 HV.out).mono ?_
  rintro e w1 ⟨⟨b, rfl, hM⟩, hx⟩
  replace oM := oM.below hx
  replace oR := oR.below hx
  have hb := hn2.trans (hx.mono hn2.size)
  obtain ⟨m0, m1, p0, p1, zM⟩ := oM.two
  obtain ⟨r0, r1, q0, q1, zR⟩ := oR.two
  clear hx hn2 h2 oM h
  go_wp2_with fail
  refine (isAmount_at _ _ HC.out).mono ?_
  rintro e w' ⟨rfl, rfl⟩
  go_wp2_with fail
  refine bodyPost_ret (v := .tuple #[.agg #[.int .i64 0, .int .i64 0], .int .i64 1]) (by simp [results, Tryd.results10, go_sem, r0, r1]) rfl (Ret.mk (convV.eq HF.out) ?_)
  (have hbs := hb.size; repeat (first | exact Below.refl _ _ | assumption | refine Below.drew ?_ | refine below_drewN ?_ _ | refine Below.setCell ?_ (by first | omega | (simp <;> omega)) _ | refine Below.alloc ?_ (by first | omega | (simp <;> omega)) _))

set_option maxHeartbeats 1000000 in
theorem conv_cur (v : Value) (l : List Ex) (c k to : Int) (w : World) (h : Exs w v l) (hv : vldX l = true) (hc : wthB c 1000000000 = true) (hk : cur k = false) : Calls Tryd.prog 10 #[v, .agg #[.int .i64 c, .int .i64 k], .int .i64 to] w (Ret (convV (convF l c k to)) w) := by
  have hb : Below w.heap.size w w := Below.refl _ _
  have HF : Hid (convF l c k to = ((0, 0), 1)) := Lib.hid (by simp [convF, hk])
  clear hb
  have HV := Lib.hid hv
  have HC := Lib.hid hc
  have HK := Lib.hid hk
  clear hv hc hk
  go_enter Tryd.func10, Tryd.ntmps10
  go_wp2_with fail
  have h2 := h.below (((Below.refl _ w).alloc (Nat.le_refl _) (.cells #[.int .i64 c, .int .i64 k] 24)).alloc (by simp) (.cells #[.int .i64 0, .int .i64 0] 24))
  have hn2 : Below w.heap.size w ((w.alloc (.cells #[.int .i64 c, .int .i64 k] 24)).alloc (.cells #[.int .i64 0, .int .i64 0] 24)) := (((Below.refl _ w).alloc (Nat.le_refl _) _).alloc (by simp) _)
  have oM := (Own.new w #[.int .i64 c, .int .i64 k] 24).alloc (.cells #[.int .i64 0, .int .i64 0] 24)
  have oR := Own.at (w.alloc (.cells #[.int .i64 c, .int .i64 k] 24)) #[.int .i64 0, .int .i64 0] 24 (w.heap.size + 1) (by simp)
  refine (rates_good _ l _ h2 HV.out).mono ?_
  rintro e w1 ⟨⟨b, rfl, hM⟩, hx⟩
  replace oM := oM.below hx
  replace oR := oR.below hx
  have hb := hn2.trans (hx.mono hn2.size)
  obtain ⟨m0, m1, p0, p1, zM⟩ := oM.two
  obtain ⟨r0, r1, q0, q1, zR⟩ := oR.two
  clear hx hn2 h2 oM h
  go_wp2_with fail
  refine (isAmount_at _ _ HC.out).mono ?_
  rintro e w' ⟨rfl, rfl⟩
  go_wp2_with fail
  refine (isCurrency_at _ _ HK.out).mono ?_
  rintro e w' ⟨rfl, rfl⟩
  go_wp2_with fail
  refine bodyPost_ret (v := .tuple #[.agg #[.int .i64 0, .int .i64 0], .int .i64 1]) (by simp [results, Tryd.results10, go_sem, r0, r1]) rfl (Ret.mk (convV.eq HF.out) ?_)
  (have hbs := hb.size; repeat (first | exact Below.refl _ _ | assumption | refine Below.drew ?_ | refine below_drewN ?_ _ | refine Below.setCell ?_ (by first | omega | (simp <;> omega)) _ | refine Below.alloc ?_ (by first | omega | (simp <;> omega)) _))

set_option maxHeartbeats 1000000 in
theorem conv_to (v : Value) (l : List Ex) (c k to : Int) (w : World) (h : Exs w v l) (hv : vldX l = true) (hc : wthB c 1000000000 = true) (hk : cur k = true) (ht : cur to = false) : Calls Tryd.prog 10 #[v, .agg #[.int .i64 c, .int .i64 k], .int .i64 to] w (Ret (convV (convF l c k to)) w) := by
  have hb : Below w.heap.size w w := Below.refl _ _
  have HF : Hid (convF l c k to = ((0, 0), 1)) := Lib.hid (by simp [convF, ht])
  clear hb
  have HV := Lib.hid hv
  have HC := Lib.hid hc
  have HK := Lib.hid hk
  have HT := Lib.hid ht
  clear hv hc hk ht
  go_enter Tryd.func10, Tryd.ntmps10
  go_wp2_with fail
  have h2 := h.below (((Below.refl _ w).alloc (Nat.le_refl _) (.cells #[.int .i64 c, .int .i64 k] 24)).alloc (by simp) (.cells #[.int .i64 0, .int .i64 0] 24))
  have hn2 : Below w.heap.size w ((w.alloc (.cells #[.int .i64 c, .int .i64 k] 24)).alloc (.cells #[.int .i64 0, .int .i64 0] 24)) := (((Below.refl _ w).alloc (Nat.le_refl _) _).alloc (by simp) _)
  have oM := (Own.new w #[.int .i64 c, .int .i64 k] 24).alloc (.cells #[.int .i64 0, .int .i64 0] 24)
  have oR := Own.at (w.alloc (.cells #[.int .i64 c, .int .i64 k] 24)) #[.int .i64 0, .int .i64 0] 24 (w.heap.size + 1) (by simp)
  refine (rates_good _ l _ h2 HV.out).mono ?_
  rintro e w1 ⟨⟨b, rfl, hM⟩, hx⟩
  replace oM := oM.below hx
  replace oR := oR.below hx
  have hb := hn2.trans (hx.mono hn2.size)
  obtain ⟨m0, m1, p0, p1, zM⟩ := oM.two
  obtain ⟨r0, r1, q0, q1, zR⟩ := oR.two
  clear hx hn2 h2 oM h
  go_wp2_with fail
  refine (isAmount_at _ _ HC.out).mono ?_
  rintro e w' ⟨rfl, rfl⟩
  go_wp2_with fail
  refine (isCurrency_at _ _ HK.out).mono ?_
  rintro e w' ⟨rfl, rfl⟩
  go_wp2_with fail
  refine (isCurrency_at _ _ HT.out).mono ?_
  rintro e w' ⟨rfl, rfl⟩
  go_wp2_with fail
  refine bodyPost_ret (v := .tuple #[.agg #[.int .i64 0, .int .i64 0], .int .i64 1]) (by simp [results, Tryd.results10, go_sem, r0, r1]) rfl (Ret.mk (convV.eq HF.out) ?_)
  (have hbs := hb.size; repeat (first | exact Below.refl _ _ | assumption | refine Below.drew ?_ | refine below_drewN ?_ _ | refine Below.setCell ?_ (by first | omega | (simp <;> omega)) _ | refine Below.alloc ?_ (by first | omega | (simp <;> omega)) _))

set_option maxHeartbeats 1000000 in
theorem conv_same (v : Value) (l : List Ex) (c k to : Int) (w : World) (h : Exs w v l) (hv : vldX l = true) (hc : wthB c 1000000000 = true) (hk : cur k = true) (ht : cur to = true) (he : k = to) : Calls Tryd.prog 10 #[v, .agg #[.int .i64 c, .int .i64 k], .int .i64 to] w (Ret (convV (convF l c k to)) w) := by
  have hb : Below w.heap.size w w := Below.refl _ _
  have HF : Hid (convF l c k to = ((c, k), 0)) := Lib.hid (by simp [convF, hv, hc, ht, he])
  clear hb
  have HV := Lib.hid hv
  have HC := Lib.hid hc
  have HK := Lib.hid hk
  have HT := Lib.hid ht
  clear hv hc hk ht
  have he' : (k == to) = true := by simpa using he
  clear he
  go_enter Tryd.func10, Tryd.ntmps10
  go_wp2_with fail
  have h2 := h.below (((Below.refl _ w).alloc (Nat.le_refl _) (.cells #[.int .i64 c, .int .i64 k] 24)).alloc (by simp) (.cells #[.int .i64 0, .int .i64 0] 24))
  have hn2 : Below w.heap.size w ((w.alloc (.cells #[.int .i64 c, .int .i64 k] 24)).alloc (.cells #[.int .i64 0, .int .i64 0] 24)) := (((Below.refl _ w).alloc (Nat.le_refl _) _).alloc (by simp) _)
  have oM := (Own.new w #[.int .i64 c, .int .i64 k] 24).alloc (.cells #[.int .i64 0, .int .i64 0] 24)
  have oR := Own.at (w.alloc (.cells #[.int .i64 c, .int .i64 k] 24)) #[.int .i64 0, .int .i64 0] 24 (w.heap.size + 1) (by simp)
  refine (rates_good _ l _ h2 HV.out).mono ?_
  rintro e w1 ⟨⟨b, rfl, hM⟩, hx⟩
  replace oM := oM.below hx
  replace oR := oR.below hx
  have hb := hn2.trans (hx.mono hn2.size)
  obtain ⟨m0, m1, p0, p1, zM⟩ := oM.two
  obtain ⟨r0, r1, q0, q1, zR⟩ := oR.two
  clear hx hn2 h2 oM h
  go_wp2_with fail
  refine (isAmount_at _ _ HC.out).mono ?_
  rintro e w' ⟨rfl, rfl⟩
  go_wp2_with fail
  refine (isCurrency_at _ _ HK.out).mono ?_
  rintro e w' ⟨rfl, rfl⟩
  go_wp2_with fail
  refine (isCurrency_at _ _ HT.out).mono ?_
  rintro e w' ⟨rfl, rfl⟩
  go_wp2_with fail
  refine bodyPost_ret (v := .tuple #[.agg #[.int .i64 c, .int .i64 k], .int .i64 0]) (by simp [results, Tryd.results10, go_sem, r0, r1]) rfl (Ret.mk (convV.eq HF.out) ?_)
  (have hbs := hb.size; repeat (first | exact Below.refl _ _ | assumption | refine Below.drew ?_ | refine below_drewN ?_ _ | refine Below.setCell ?_ (by first | omega | (simp <;> omega)) _ | refine Below.alloc ?_ (by first | omega | (simp <;> omega)) _))

set_option maxHeartbeats 1000000 in
theorem conv_none (v : Value) (l : List Ex) (c k to : Int) (w : World) (h : Exs w v l) (hv : vldX l = true) (hc : wthB c 1000000000 = true) (hk : cur k = true) (ht : cur to = true) (he : ¬ k = to) (hr : rateOf l k to = none) : Calls Tryd.prog 10 #[v, .agg #[.int .i64 c, .int .i64 k], .int .i64 to] w (Ret (convV (convF l c k to)) w) := by
  have hb : Below w.heap.size w w := Below.refl _ _
  have HF : Hid (convF l c k to = ((0, 0), 4)) := Lib.hid (by simp [convF, hv, hc, hk, ht, he, hr])
  clear hb
  have HV := Lib.hid hv
  have HC := Lib.hid hc
  have HK := Lib.hid hk
  have HT := Lib.hid ht
  clear hv hc hk ht
  have he' : (k == to) = false := by simpa using he
  clear he
  go_enter Tryd.func10, Tryd.ntmps10
  go_wp2_with fail
  have h2 := h.below (((Below.refl _ w).alloc (Nat.le_refl _) (.cells #[.int .i64 c, .int .i64 k] 24)).alloc (by simp) (.cells #[.int .i64 0, .int .i64 0] 24))
  have hn2 : Below w.heap.size w ((w.alloc (.cells #[.int .i64 c, .int .i64 k] 24)).alloc (.cells #[.int .i64 0, .int .i64 0] 24)) := (((Below.refl _ w).alloc (Nat.le_refl _) _).alloc (by simp) _)
  have oM := (Own.new w #[.int .i64 c, .int .i64 k] 24).alloc (.cells #[.int .i64 0, .int .i64 0] 24)
  have oR := Own.at (w.alloc (.cells #[.int .i64 c, .int .i64 k] 24)) #[.int .i64 0, .int .i64 0] 24 (w.heap.size + 1) (by simp)
  refine (rates_good _ l _ h2 HV.out).mono ?_
  rintro e w1 ⟨⟨b, rfl, hM⟩, hx⟩
  replace oM := oM.below hx
  replace oR := oR.below hx
  have hb := hn2.trans (hx.mono hn2.size)
  obtain ⟨m0, m1, p0, p1, zM⟩ := oM.two
  obtain ⟨r0, r1, q0, q1, zR⟩ := oR.two
  clear hx hn2 h2 oM h
  have hL := look_out hM k to hr
  clear hM
  go_wp2_with fail
  refine (isAmount_at _ _ HC.out).mono ?_
  rintro e w' ⟨rfl, rfl⟩
  go_wp2_with fail
  refine (isCurrency_at _ _ HK.out).mono ?_
  rintro e w' ⟨rfl, rfl⟩
  go_wp2_with fail
  refine (isCurrency_at _ _ HT.out).mono ?_
  rintro e w' ⟨rfl, rfl⟩
  go_wp2_with fail
  refine bodyPost_ret (v := .tuple #[.agg #[.int .i64 0, .int .i64 0], .int .i64 4]) (by simp [results, Tryd.results10, go_sem, r0, r1, zR]) rfl (Ret.mk (convV.eq HF.out) ?_)
  (have hbs := hb.size; repeat (first | exact Below.refl _ _ | assumption | refine Below.drew ?_ | refine below_drewN ?_ _ | refine Below.setCell ?_ (by first | omega | (simp <;> omega)) _ | refine Below.alloc ?_ (by first | omega | (simp <;> omega)) _))

set_option maxHeartbeats 1000000 in
theorem conv_far (v : Value) (l : List Ex) (c k to : Int) (w : World) (h : Exs w v l) (hv : vldX l = true) (hc : wthB c 1000000000 = true) (hk : cur k = true) (ht : cur to = true) (he : ¬ k = to) (x : Ex) (hr : rateOf l k to = some x) (hw : wthB (rndF (c * x.n) x.d 3) 1000000000 = false) : Calls Tryd.prog 10 #[v, .agg #[.int .i64 c, .int .i64 k], .int .i64 to] w (Ret (convV (convF l c k to)) w) := by
  have hb : Below w.heap.size w w := Below.refl _ _
  have HF : Hid (convF l c k to = ((0, 0), 3)) := Lib.hid (by simp [convF, hv, hc, hk, ht, he, hr, hw])
  clear hb
  have HP : Hid (partF c x.n x.d 3 = (0, 3)) := Lib.hid (by have h1 := exB_vld (vldX_rate hv hr); simp [partF, h1, hc, hw])
  have HV := Lib.hid hv
  have HC := Lib.hid hc
  have HK := Lib.hid hk
  have HT := Lib.hid ht
  clear hv hc hk ht
  have he' : (k == to) = false := by simpa using he
  clear he
  go_enter Tryd.func10, Tryd.ntmps10
  go_wp2_with fail
  have h2 := h.below (((Below.refl _ w).alloc (Nat.le_refl _) (.cells #[.int .i64 c, .int .i64 k] 24)).alloc (by simp) (.cells #[.int .i64 0, .int .i64 0] 24))
  have hn2 : Below w.heap.size w ((w.alloc (.cells #[.int .i64 c, .int .i64 k] 24)).alloc (.cells #[.int .i64 0, .int .i64 0] 24)) := (((Below.refl _ w).alloc (Nat.le_refl _) _).alloc (by simp) _)
  have oM := (Own.new w #[.int .i64 c, .int .i64 k] 24).alloc (.cells #[.int .i64 0, .int .i64 0] 24)
  have oR := Own.at (w.alloc (.cells #[.int .i64 c, .int .i64 k] 24)) #[.int .i64 0, .int .i64 0] 24 (w.heap.size + 1) (by simp)
  refine (rates_good _ l _ h2 HV.out).mono ?_
  rintro e w1 ⟨⟨b, rfl, hM⟩, hx⟩
  replace oM := oM.below hx
  replace oR := oR.below hx
  have hb := hn2.trans (hx.mono hn2.size)
  obtain ⟨m0, m1, p0, p1, zM⟩ := oM.two
  obtain ⟨r0, r1, q0, q1, zR⟩ := oR.two
  clear hx hn2 h2 oM h
  clear r0 r1 q0 q1 zR
  have hL := look_in hM k to hr
  clear hM
  go_wp2_with fail
  refine (isAmount_at _ _ HC.out).mono ?_
  rintro e w' ⟨rfl, rfl⟩
  go_wp2_with fail
  refine (isCurrency_at _ _ HK.out).mono ?_
  rintro e w' ⟨rfl, rfl⟩
  go_wp2_with fail
  refine (isCurrency_at _ _ HT.out).mono ?_
  rintro e w' ⟨rfl, rfl⟩
  go_wp2_with fail
  have hn3 : ∀ ob, Below w1.heap.size w1 (w1.alloc ob) := fun ob => (Below.refl _ _).alloc (Nat.le_refl _) ob
  refine (part_way3 c x.n x.d _).mono ?_
  rintro e w2 ⟨rfl, hx⟩
  rw [HP.out]
  replace oR := (oR.alloc _).below hx
  obtain ⟨r0, r1, q0, q1, zR⟩ := oR.two
  replace hb := hb.trans (((hn3 _).trans (hx.mono (by simp))).mono hb.size)
  clear hx hn3 zM
  go_wp2_with fail
  refine bodyPost_ret (v := .tuple #[.agg #[.int .i64 0, .int .i64 0], .int .i64 3]) (by simp [results, Tryd.results10, go_sem, r0, r1]) rfl (Ret.mk (convV.eq HF.out) ?_)
  (have hbs := hb.size; repeat (first | exact Below.refl _ _ | assumption | refine Below.drew ?_ | refine below_drewN ?_ _ | refine Below.setCell ?_ (by first | omega | (simp <;> omega)) _ | refine Below.alloc ?_ (by first | omega | (simp <;> omega)) _))

set_option maxHeartbeats 1000000 in
theorem conv_in (v : Value) (l : List Ex) (c k to : Int) (w : World) (h : Exs w v l) (hv : vldX l = true) (hc : wthB c 1000000000 = true) (hk : cur k = true) (ht : cur to = true) (he : ¬ k = to) (x : Ex) (hr : rateOf l k to = some x) (hw : wthB (rndF (c * x.n) x.d 3) 1000000000 = true) : Calls Tryd.prog 10 #[v, .agg #[.int .i64 c, .int .i64 k], .int .i64 to] w (Ret (convV (convF l c k to)) w) := by
  have hb : Below w.heap.size w w := Below.refl _ _
  have HF : Hid (convF l c k to = ((rndF (c * x.n) x.d 3, to), 0)) := Lib.hid (by simp [convF, hv, hc, hk, ht, he, hr, hw])
  clear hb
  have HP : Hid (partF c x.n x.d 3 = (rndF (c * x.n) x.d 3, 0)) := Lib.hid (by have h1 := exB_vld (vldX_rate hv hr); simp [partF, h1, hc, hw])
  have HV := Lib.hid hv
  have HC := Lib.hid hc
  have HK := Lib.hid hk
  have HT := Lib.hid ht
  clear hv hc hk ht
  have he' : (k == to) = false := by simpa using he
  clear he
  generalize rndF (c * x.n) x.d 3 = y at *
  clear hw
  go_enter Tryd.func10, Tryd.ntmps10
  go_wp2_with fail
  have h2 := h.below (((Below.refl _ w).alloc (Nat.le_refl _) (.cells #[.int .i64 c, .int .i64 k] 24)).alloc (by simp) (.cells #[.int .i64 0, .int .i64 0] 24))
  have hn2 : Below w.heap.size w ((w.alloc (.cells #[.int .i64 c, .int .i64 k] 24)).alloc (.cells #[.int .i64 0, .int .i64 0] 24)) := (((Below.refl _ w).alloc (Nat.le_refl _) _).alloc (by simp) _)
  have oM := (Own.new w #[.int .i64 c, .int .i64 k] 24).alloc (.cells #[.int .i64 0, .int .i64 0] 24)
  have oR := Own.at (w.alloc (.cells #[.int .i64 c, .int .i64 k] 24)) #[.int .i64 0, .int .i64 0] 24 (w.heap.size + 1) (by simp)
  refine (rates_good _ l _ h2 HV.out).mono ?_
  rintro e w1 ⟨⟨b, rfl, hM⟩, hx⟩
  replace oM := oM.below hx
  replace oR := oR.below hx
  have hb := hn2.trans (hx.mono hn2.size)
  obtain ⟨m0, m1, p0, p1, zM⟩ := oM.two
  obtain ⟨r0, r1, q0, q1, zR⟩ := oR.two
  clear hx hn2 h2 oM h
  clear r0 r1 q0 q1 zR
  have hL := look_in hM k to hr
  clear hM
  go_wp2_with fail
  refine (isAmount_at _ _ HC.out).mono ?_
  rintro e w' ⟨rfl, rfl⟩
  go_wp2_with fail
  refine (isCurrency_at _ _ HK.out).mono ?_
  rintro e w' ⟨rfl, rfl⟩
  go_wp2_with fail
  refine (isCurrency_at _ _ HT.out).mono ?_
  rintro e w' ⟨rfl, rfl⟩
  go_wp2_with fail
  have hn3 : ∀ ob, Below w1.heap.size w1 (w1.alloc ob) := fun ob => (Below.refl _ _).alloc (Nat.le_refl _) ob
  refine (part_way3 c x.n x.d _).mono ?_
  rintro e w2 ⟨rfl, hx⟩
  rw [HP.out]
  replace oR := (oR.alloc _).below hx
  obtain ⟨r0, r1, q0, q1, zR⟩ := oR.two
  replace hb := hb.trans (((hn3 _).trans (hx.mono (by simp))).mono hb.size)
  clear hx hn3 zM
  go_wp2_with fail
  refine bodyPost_ret (v := .tuple #[.agg #[.int .i64 y, .int .i64 to], .int .i64 0]) (by simp [results, Tryd.results10, go_sem, r0, r1]) rfl (Ret.mk (convV.eq HF.out) ?_)
  (have hbs := hb.size; repeat (first | exact Below.refl _ _ | assumption | refine Below.drew ?_ | refine below_drewN ?_ _ | refine Below.setCell ?_ (by first | omega | (simp <;> omega)) _ | refine Below.alloc ?_ (by first | omega | (simp <;> omega)) _))

theorem convert_any (v : Value) (l : List Ex) (c k to : Int) (w : World) (h : Exs w v l) : Calls Tryd.prog 10 #[v, .agg #[.int .i64 c, .int .i64 k], .int .i64 to] w (Ret (convV (convF l c k to)) w) := by
  cases hv : vldX l with
  | false => exact conv_bad v l c k to w h hv
  | true =>
  cases hc : wthB c 1000000000 with
  | false => exact conv_amt v l c k to w h hv hc
  | true =>
  cases hk : cur k with
  | false => exact conv_cur v l c k to w h hv hc hk
  | true =>
  cases ht : cur to with
  | false => exact conv_to v l c k to w h hv hc hk ht
  | true =>
  by_cases he : k = to
  · exact conv_same v l c k to w h hv hc hk ht he
  cases hr : rateOf l k to with
  | none => exact conv_none v l c k to w h hv hc hk ht he hr
  | some x =>
  cases hw : wthB (rndF (c * x.n) x.d 3) 1000000000 with
  | false => exact conv_far v l c k to w h hv hc hk ht he x hr hw
  | true => exact conv_in v l c k to w h hv hc hk ht he x hr hw
end Go.Proofs.YtnjaedbekogeaaaDoor
