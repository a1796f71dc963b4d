/-
  The reference's parser: a rate.
-/
import Derived.Test.YthnlenbfknbmcaaGreatDoorParR9
import Derived.Test.YthnlenbfknbmcaaGreatDoorQq
import Derived.Test.YthnlenbfknbmcaaGreatDoorQt
import Derived.Test.YthnlenbfknbmcaaGreatDoorRef01C
import Derived.Test.YthnlenbfknbmcaaGreatDoorTail
import Derived.Deep.RegionHeld3
import Derived.Deep.DeepCutAuto
namespace Go.Proofs.YthnlenbfknbmcaaGreatDoor
open Go.RowKit Go.Shelf
set_option maxRecDepth 100000
set_option linter.unusedVariables false
set_option linter.unusedSimpArgs false
variable {W0 : World} {ad : Option Addr} {cap : Nat} {L : List Tok}

set_option maxHeartbeats 800000 in
theorem rline_any (hE : REnv W0 ad cap L) (i : Nat) (h0 : L ≠ []) (w : World) (hW : Below W0.heap.size W0 w) : Calls Tryz.prog 35 #[.slice ad L.length cap, .int .i64 (i : Nat)] w (Ret (.int .i64 (lineAt L (L.drop i) : Nat)) w) := by
  have hl : 0 < L.length := List.length_pos_iff.2 h0
  have hsh := hE.short
  have hb := Below.refl w.heap.size w
  obtain ⟨k, hk, hmin, hln⟩ : ∃ k, ∃ hk : k < L.length, min (i : Int) ((L.length : Int) - 1) = (k : Int) ∧ (L[k]).n = lineAt L (L.drop i) := by
    by_cases hi : i < L.length
    · refine ⟨i, hi, by omega, ?_⟩
      have := nextT_line (L := L) (i := i)
      rw [nextT_in hi] at this
      have this2 : (((L[i]).n : Nat) : Int) = (lineAt L (L.drop i) : Nat) := this
      exact_mod_cast this2
    · refine ⟨L.length - 1, by omega, by omega, ?_⟩
      obtain ⟨x, hx, hl2⟩ := last_get h0
      rw [List.drop_of_length_le (by omega), hl2]
      rw [List.getElem?_eq_getElem (by omega)] at hx
      rw [Option.some.inj hx]
  rw [← hln]
  obtain ⟨a, rfl, d0, d1, d2, hab⟩ := hE.reads hW hk
  generalize L[k] = x at *
  obtain ⟨xk, xn, xt⟩ := x
  simp only at d0 d1 d2 ⊢
  have hw : IntKind.i64.wrap ((L.length : Int) - 1) = (L.length : Int) - 1 := IntWalk.i64_in _ (by omega)
  have hix : ¬ ((k : Int) < 0) := by omega
  clear hE hW hln h0 d0 d2
  go_enter Tryz.func35, Tryz.ntmps35
  go_wp2_with fail
  go_ret
  exact Ret.mk rfl hb
/-- a word and a number are read -/
def NamedEnd (ad : Option Addr) (cap : Nat) (L : List Tok) (t : List UInt8) (i : Nat) (b : Bool) (w : World) (e : Ending) (w' : World) : Prop :=
  ∃ j c, ∃ n : Nat, e = .returned (.tuple #[pv ad cap L j c, .int .i64 (n : Nat)]) ∧ Below w.heap.size w w' ∧ i ≤ j ∧ j ≤ L.length ∧ ∀ all rest i0 es, SQ L all i0 (.lit t :: .num :: rest) es i b → SQ L all i0 rest (es ++ [leafE 1 n]) j c
set_option maxHeartbeats 1600000 in
theorem rnamed_any (hE : REnv W0 ad cap L) (t : List UInt8) (i : Nat) (hi : i ≤ L.length) (b : Bool) (w : World) (hW : Below W0.heap.size W0 w) : Calls Tryz.prog 55 #[pv ad cap L i b, .string ⟨t.toArray⟩] w (NamedEnd ad cap L t i b w) := by
  have hM := fun w1 (h : Below w.heap.size w w1) => must_any hE t i hi b w1 (hW.trans (h.mono hW.size))
  have hN := fun j c w1 (hj : j ≤ L.length) (h : Below w.heap.size w w1) => rnumber_any hE j hj c w1 (hW.trans (h.mono hW.size))
  clear hE hW
  go_enter Tryz.func55, Tryz.ntmps55
  go_wp2_with fail
  have h0 : Below w.heap.size w ((w.alloc (.cells #[.slice ad L.length cap, .int .i64 (i : Nat), .bool b] 67)).alloc (.cells #[.slice none 0 0, .int .i64 0, .bool false] 67)) := balloc (balloc (Below.refl _ _) _) _
  refine (hM _ h0).mono ?_
  rintro e w1 ⟨j1, c1, rfl, hx, l1, m1, g1, k1⟩
  have r1 : Own w1 (w.heap.size + 1) [.slice none 0 0, .int .i64 0, .bool false] := by have := (Own.new (w.alloc (.cells #[.slice ad L.length cap, .int .i64 (i : Nat), .bool b] 67)) #[.slice none 0 0, .int .i64 0, .bool false] 67).below hx; simpa using this
  have hb := h0.trans (hx.mono h0.size)
  have SQ1 := fun all rest i0 es (h : SQ L all i0 (.lit t :: .num :: rest) es i b) => h.lit m1 g1 k1
  clear hx hM h0 g1 k1
  go_wp2_with fail
  refine (hN j1 c1 _ m1 hb).mono ?_
  rintro e w2 ⟨j2, c2, n2, rfl, hx, l2, m2, g2, k2⟩
  replace r1 := r1.below hx
  replace hb := hb.trans (hx.mono hb.size)
  have SQ2 := fun all rest i0 es (h : SQ L all i0 (.lit t :: .num :: rest) es i b) => (SQ1 all rest i0 es h).num m2 g2 k2
  clear hx hN g2 k2 SQ1
  obtain ⟨r10, r11, r12, r13, r14, r15, r16⟩ := r1.three
  go_wp2_with fail
  refine bodyPost_ret (results_ct rfl rfl (loadVar_at (vs := [.slice ad L.length cap, .int .i64 (j2 : Nat), .bool c2]) Tryz.underlying67 rfl (by kernel_rfl) (r1.put3 _ _ _))) rfl ?_
  exact ⟨j2, c2, n2, rfl, bset3 hb (by omega) _ _ _, by omega, m2, SQ2⟩
theorem setCells_is (B : Nat) : ∀ (vs : List Value) (o : Nat) (w : World), w.setCells B o vs = Go.Proofs.YthnlenbfknbmcaaGreatDoor.setN w B o vs
  | [], _, _ => rfl
  | v :: r, o, w => setCells_is B r (o + 1) _
theorem own_range {w : World} {B : Nat} {xs : List Value} (h : Own w B xs) : w.rangeAt B 0 xs := fun j v hj => by rw [Nat.zero_add]; exact h.cell j v hj
theorem own_there {w : World} {B n : Nat} {xs : List Value} (h : Own w B xs) (hn : xs.length = n) : w.there B 0 n := fun j hj => by subst hn; rw [Nat.zero_add]; exact ⟨by rw [h.cell j _ (List.getElem?_eq_getElem hj)]; rfl, h.fro j _ (List.getElem?_eq_getElem hj)⟩
theorem must_det (hE : REnv W0 ad cap L) {w : World} (hW : Below W0.heap.size W0 w) (t : List UInt8) (i : Nat) (hi : i ≤ L.length) (b : Bool) : ∃ j c, i ≤ j ∧ j ≤ L.length ∧ (c = false → b = false ∧ isT t (L.drop i) = true ∧ j = i + 1) ∧ (c = true → j = i ∧ (b = true ∨ isT t (L.drop i) = false)) ∧ ∀ w1, Below w.heap.size w w1 → Calls Tryz.prog 49 #[pv ad cap L i b, .string ⟨t.toArray⟩] w1 (Ret (pv ad cap L j c) w1) := by
  cases hq : (!b && isT t (L.drop i)) with
  | true =>
    have hq2 : b = false ∧ isT t (L.drop i) = true := by simpa using hq
    refine ⟨i + 1, false, by omega, isT_lt hq2.2, fun _ => ⟨hq2.1, hq2.2, rfl⟩, fun h => (by cases h), fun w1 h => (must_any hE t i hi b w1 (hW.trans (h.mono hW.size))).mono fun e w2 ⟨j, c, he, hb, _, _, h1, h2⟩ => ?_⟩
    cases c with
    | true => rcases (h2 rfl).2 with h3 | h3 <;> simp [h3] at hq
    | false => obtain ⟨-, -, rfl⟩ := h1 rfl; exact ⟨he, hb⟩
  | false =>
    have hq2 : b = true ∨ isT t (L.drop i) = false := by cases b <;> simp_all
    refine ⟨i, true, Nat.le_refl _, hi, fun h => (by cases h), fun _ => ⟨rfl, hq2⟩, fun w1 h => (must_any hE t i hi b w1 (hW.trans (h.mono hW.size))).mono fun e w2 ⟨j, c, he, hb, _, _, h1, h2⟩ => ?_⟩
    cases c with
    | true => obtain ⟨rfl, -⟩ := h2 rfl; exact ⟨he, hb⟩
    | false => obtain ⟨h3, h4, -⟩ := h1 rfl; rw [h3, h4] at hq; cases hq
/-- a rate is read -/
def RRateEnd (ad : Option Addr) (cap : Nat) (L : List Tok) (i : Nat) (w : World) (e : Ending) (w' : World) : Prop :=
  ∃ rt : Rt, ∃ j d, ∃ cells : List Value, e = .returned (.tuple #[pv ad cap L j d, .agg (List.toArray cells)]) ∧ RateV (Lo w.heap.size) w' rt cells ∧ Below w.heap.size w w' ∧ i ≤ j ∧ j ≤ L.length ∧ (d = true → G (.seq rateI) (L.drop i) (.bad (L.drop j))) ∧ (d = false → G (.seq rateI) (L.drop i) (.ok rt.list (L.drop j)))
set_option maxHeartbeats 64000000 in
theorem rrate_any (hE : REnv W0 ad cap L) (i : Nat) (hi : i ≤ L.length) (w : World) (hW : Below W0.heap.size W0 w) : Calls Tryz.prog 36 #[pv ad cap L i false] w (RRateEnd ad cap L i w) := by
  have hN := fun t j c w1 (hj : j ≤ L.length) (h : Below w.heap.size w w1) => rnamed_any hE t j hj c w1 (hW.trans (h.mono hW.size))
  have hM := fun t j c w1 (hj : j ≤ L.length) (h : Below w.heap.size w w1) => must_any hE t j hj c w1 (hW.trans (h.mono hW.size))
  have hMd := fun j c (hj : j ≤ L.length) => must_det hE hW wStop j hj c
  have hX := fun j c w1 (hj : j ≤ L.length) (h : Below w.heap.size w w1) => rexpr_any hE j c w1 (hW.trans (h.mono hW.size)) hj
  have hK : ∃ kn kd : Nat → Int, (∀ n, kn n = (mkF n 100).1) ∧ (∀ n, kd n = (mkF n 100).2.1) ∧ ∃ ke : Nat → Int, ∀ (n : Nat) w1, Calls Tryz.prog 20 #[.int .i64 (n : Nat), .int .i64 100] w1 (Ret (.tuple #[.agg #[.int .i64 (kn n), .int .i64 (kd n)], .int .i64 (ke n)]) w1) := ⟨_, _, fun _ => rfl, fun _ => rfl, _, fun n w1 => r_make n 100 w1⟩
  obtain ⟨kn', kd', ekn, ekd, ke', hK⟩ := hK
  replace ekn := Lib.hid ekn
  replace ekd := Lib.hid ekd
  have sq0 : SQ L rateI i rateI [] i false := SQ.start hi
  have hsh := hE.short
  clear hE hW
  go_enter Tryz.func36, Tryz.ntmps36
  go_wp2_with fail
  have h0 : Below w.heap.size w ((((w.alloc (.cells #[.slice ad L.length cap, .int .i64 (i : Nat), .bool false] 67)).alloc (.cells #[.slice none 0 0, .int .i64 0, .bool false] 67)).alloc (.cells #[.int .i64 0, .int .i64 0, .int .i64 0, .int .i64 0, .int .i64 0, .int .i64 0, .int .i64 0, .int .i64 0, .int .i64 0, .int .i64 0, .int .i64 0, .int .i64 0, .slice none 0 0, .int .i64 0, .int .i64 0, .slice none 0 0] 52)).alloc (.cells #[.int .i64 0, .int .i64 0, .int .i64 0, .int .i64 0, .int .i64 0, .int .i64 0, .int .i64 0, .int .i64 0, .int .i64 0, .int .i64 0, .int .i64 0, .int .i64 0, .slice none 0 0, .int .i64 0, .int .i64 0, .slice none 0 0] 52)) := balloc (balloc (balloc (balloc (Below.refl _ _) _) _) _) _
  refine (hN wRate i false _ hi h0).mono ?_
  rintro e w1 ⟨j0, c0, n0, rfl, hx, l0, m0, s0⟩
  have sq1 := s0 _ _ _ _ sq0
  clear s0 sq0
  have op : Own w1 (w.heap.size) [.slice ad L.length cap, .int .i64 (i : Nat), .bool false] := by have := ((((Own.new w #[.slice ad L.length cap, .int .i64 (i : Nat), .bool false] 67).alloc (.cells #[.slice none 0 0, .int .i64 0, .bool false] 67)).alloc (.cells #[.int .i64 0, .int .i64 0, .int .i64 0, .int .i64 0, .int .i64 0, .int .i64 0, .int .i64 0, .int .i64 0, .int .i64 0, .int .i64 0, .int .i64 0, .int .i64 0, .slice none 0 0, .int .i64 0, .int .i64 0, .slice none 0 0] 52)).alloc (.cells #[.int .i64 0, .int .i64 0, .int .i64 0, .int .i64 0, .int .i64 0, .int .i64 0, .int .i64 0, .int .i64 0, .int .i64 0, .int .i64 0, .int .i64 0, .int .i64 0, .slice none 0 0, .int .i64 0, .int .i64 0, .slice none 0 0] 52)).below hx; simpa using this
  have r1 : Own w1 (w.heap.size + 1) [.slice none 0 0, .int .i64 0, .bool false] := by have := (((Own.new (w.alloc (.cells #[.slice ad L.length cap, .int .i64 (i : Nat), .bool false] 67)) #[.slice none 0 0, .int .i64 0, .bool false] 67).alloc (.cells #[.int .i64 0, .int .i64 0, .int .i64 0, .int .i64 0, .int .i64 0, .int .i64 0, .int .i64 0, .int .i64 0, .int .i64 0, .int .i64 0, .int .i64 0, .int .i64 0, .slice none 0 0, .int .i64 0, .int .i64 0, .slice none 0 0] 52)).alloc (.cells #[.int .i64 0, .int .i64 0, .int .i64 0, .int .i64 0, .int .i64 0, .int .i64 0, .int .i64 0, .int .i64 0, .int .i64 0, .int .i64 0, .int .i64 0, .int .i64 0, .slice none 0 0, .int .i64 0, .int .i64 0, .slice none 0 0] 52)).below hx; simpa using this
  have r2 : Own w1 (w.heap.size + 1 + 1) [.int .i64 0, .int .i64 0, .int .i64 0, .int .i64 0, .int .i64 0, .int .i64 0, .int .i64 0, .int .i64 0, .int .i64 0, .int .i64 0, .int .i64 0, .int .i64 0, .slice none 0 0, .int .i64 0, .int .i64 0, .slice none 0 0] := by have := ((Own.new ((w.alloc (.cells #[.slice ad L.length cap, .int .i64 (i : Nat), .bool false] 67)).alloc (.cells #[.slice none 0 0, .int .i64 0, .bool false] 67)) #[.int .i64 0, .int .i64 0, .int .i64 0, .int .i64 0, .int .i64 0, .int .i64 0, .int .i64 0, .int .i64 0, .int .i64 0, .int .i64 0, .int .i64 0, .int .i64 0, .slice none 0 0, .int .i64 0, .int .i64 0, .slice none 0 0] 52).alloc (.cells #[.int .i64 0, .int .i64 0, .int .i64 0, .int .i64 0, .int .i64 0, .int .i64 0, .int .i64 0, .int .i64 0, .int .i64 0, .int .i64 0, .int .i64 0, .int .i64 0, .slice none 0 0, .int .i64 0, .int .i64 0, .slice none 0 0] 52)).below hx; simpa using this
  have rr : Own w1 (w.heap.size + 1 + 1 + 1) [.int .i64 0, .int .i64 0, .int .i64 0, .int .i64 0, .int .i64 0, .int .i64 0, .int .i64 0, .int .i64 0, .int .i64 0, .int .i64 0, .int .i64 0, .int .i64 0, .slice none 0 0, .int .i64 0, .int .i64 0, .slice none 0 0] := by have := (Own.new (((w.alloc (.cells #[.slice ad L.length cap, .int .i64 (i : Nat), .bool false] 67)).alloc (.cells #[.slice none 0 0, .int .i64 0, .bool false] 67)).alloc (.cells #[.int .i64 0, .int .i64 0, .int .i64 0, .int .i64 0, .int .i64 0, .int .i64 0, .int .i64 0, .int .i64 0, .int .i64 0, .int .i64 0, .int .i64 0, .int .i64 0, .slice none 0 0, .int .i64 0, .int .i64 0, .slice none 0 0] 52)) #[.int .i64 0, .int .i64 0, .int .i64 0, .int .i64 0, .int .i64 0, .int .i64 0, .int .i64 0, .int .i64 0, .int .i64 0, .int .i64 0, .int .i64 0, .int .i64 0, .slice none 0 0, .int .i64 0, .int .i64 0, .slice none 0 0] 52).below hx; simpa using this
  have hb := h0.trans (hx.mono h0.size)
  have yw1 := hb.size
  clear hx h0
  obtain ⟨op0, op1, op2, op3, op4, op5, op6⟩ := op.three
  have q0 := rr.cell 0 _ rfl
  have g0 := rr.fro 0 _ rfl
  have q1 := rr.cell 1 _ rfl
  have g1 := rr.fro 1 _ rfl
  have q2 := rr.cell 2 _ rfl
  have g2 := rr.fro 2 _ rfl
  have q3 := rr.cell 3 _ rfl
  have g3 := rr.fro 3 _ rfl
  have q4 := rr.cell 4 _ rfl
  have g4 := rr.fro 4 _ rfl
  have q5 := rr.cell 5 _ rfl
  have g5 := rr.fro 5 _ rfl
  have q6 := rr.cell 6 _ rfl
  have g6 := rr.fro 6 _ rfl
  have q7 := rr.cell 7 _ rfl
  have g7 := rr.fro 7 _ rfl
  have q8 := rr.cell 8 _ rfl
  have g8 := rr.fro 8 _ rfl
  have q9 := rr.cell 9 _ rfl
  have g9 := rr.fro 9 _ rfl
  have q10 := rr.cell 10 _ rfl
  have g10 := rr.fro 10 _ rfl
  have q11 := rr.cell 11 _ rfl
  have g11 := rr.fro 11 _ rfl
  have q12 := rr.cell 12 _ rfl
  have g12 := rr.fro 12 _ rfl
  have q13 := rr.cell 13 _ rfl
  have g13 := rr.fro 13 _ rfl
  have q14 := rr.cell 14 _ rfl
  have g14 := rr.fro 14 _ rfl
  have q15 := rr.cell 15 _ rfl
  have g15 := rr.fro 15 _ rfl
  have q16 := rr.lt
  go_wp2_with fail
  clear op0 op1 op2 op3 op4 op5 op6
  clear q0 g0 q1 g1 q2 g2 q3 g3 q4 g4 q5 g5 q6 g6 q7 g7 q8 g8 q9 g9 q10 g10 q11 g11 q12 g12 q13 g13 q14 g14 q15 g15 q16
  refine (hN wLevel j0 c0 _ m0 ((bset3 hb (B := w.heap.size) (by omega) (.slice ad L.length cap) (.int .i64 (j0 : Nat)) (.bool c0)).setCell (p := ⟨w.heap.size + 1 + 1 + 1, 0, none⟩) (by show w.heap.size ≤ w.heap.size + 1 + 1 + 1; omega) (.int .i64 (n0 : Nat)))).mono ?_
  rintro e w2 ⟨j1, c1, n1, rfl, hx, l1, m1, s1⟩
  have sq2 := s1 _ _ _ _ sq1
  clear s1 sq1
  replace hb := ((bset3 hb (B := w.heap.size) (by omega) (.slice ad L.length cap) (.int .i64 (j0 : Nat)) (.bool c0)).setCell (p := ⟨w.heap.size + 1 + 1 + 1, 0, none⟩) (by show w.heap.size ≤ w.heap.size + 1 + 1 + 1; omega) (.int .i64 (n0 : Nat))).trans (hx.mono ((bset3 hb (B := w.heap.size) (by omega) (.slice ad L.length cap) (.int .i64 (j0 : Nat)) (.bool c0)).setCell (p := ⟨w.heap.size + 1 + 1 + 1, 0, none⟩) (by show w.heap.size ≤ w.heap.size + 1 + 1 + 1; omega) (.int .i64 (n0 : Nat))).size)
  replace op := ((op.put3 (.slice ad L.length cap) (.int .i64 (j0 : Nat)) (.bool c0)).setCell (p := ⟨w.heap.size + 1 + 1 + 1, 0, none⟩) (by simp <;> omega) (.int .i64 (n0 : Nat))).below hx
  replace r1 := ((r1.off3 (B := w.heap.size) (by omega) (.slice ad L.length cap) (.int .i64 (j0 : Nat)) (.bool c0)).setCell (p := ⟨w.heap.size + 1 + 1 + 1, 0, none⟩) (by simp <;> omega) (.int .i64 (n0 : Nat))).below hx
  replace r2 := ((r2.off3 (B := w.heap.size) (by omega) (.slice ad L.length cap) (.int .i64 (j0 : Nat)) (.bool c0)).setCell (p := ⟨w.heap.size + 1 + 1 + 1, 0, none⟩) (by simp <;> omega) (.int .i64 (n0 : Nat))).below hx
  replace rr := ((rr.off3 (B := w.heap.size) (by omega) (.slice ad L.length cap) (.int .i64 (j0 : Nat)) (.bool c0)).setAt (i := 0) (.int .i64 (n0 : Nat)) (by simp)).below hx
  have yw2 := hb.size
  clear hx
  replace rr : Own w2 (w.heap.size + 1 + 1 + 1) [.int .i64 (n0 : Nat), .int .i64 0, .int .i64 0, .int .i64 0, .int .i64 0, .int .i64 0, .int .i64 0, .int .i64 0, .int .i64 0, .int .i64 0, .int .i64 0, .int .i64 0, .slice none 0 0, .int .i64 0, .int .i64 0, .slice none 0 0] := rr
  obtain ⟨op0, op1, op2, op3, op4, op5, op6⟩ := op.three
  have q0 := rr.cell 0 _ rfl
  have g0 := rr.fro 0 _ rfl
  have q1 := rr.cell 1 _ rfl
  have g1 := rr.fro 1 _ rfl
  have q2 := rr.cell 2 _ rfl
  have g2 := rr.fro 2 _ rfl
  have q3 := rr.cell 3 _ rfl
  have g3 := rr.fro 3 _ rfl
  have q4 := rr.cell 4 _ rfl
  have g4 := rr.fro 4 _ rfl
  have q5 := rr.cell 5 _ rfl
  have g5 := rr.fro 5 _ rfl
  have q6 := rr.cell 6 _ rfl
  have g6 := rr.fro 6 _ rfl
  have q7 := rr.cell 7 _ rfl
  have g7 := rr.fro 7 _ rfl
  have q8 := rr.cell 8 _ rfl
  have g8 := rr.fro 8 _ rfl
  have q9 := rr.cell 9 _ rfl
  have g9 := rr.fro 9 _ rfl
  have q10 := rr.cell 10 _ rfl
  have g10 := rr.fro 10 _ rfl
  have q11 := rr.cell 11 _ rfl
  have g11 := rr.fro 11 _ rfl
  have q12 := rr.cell 12 _ rfl
  have g12 := rr.fro 12 _ rfl
  have q13 := rr.cell 13 _ rfl
  have g13 := rr.fro 13 _ rfl
  have q14 := rr.cell 14 _ rfl
  have g14 := rr.fro 14 _ rfl
  have q15 := rr.cell 15 _ rfl
  have g15 := rr.fro 15 _ rfl
  have q16 := rr.lt
  go_wp2_with fail
  clear op0 op1 op2 op3 op4 op5 op6
  clear q0 g0 q1 g1 q2 g2 q3 g3 q4 g4 q5 g5 q6 g6 q7 g7 q8 g8 q9 g9 q10 g10 q11 g11 q12 g12 q13 g13 q14 g14 q15 g15 q16
  refine (hN wKind j1 c1 _ m1 ((bset3 hb (B := w.heap.size) (by omega) (.slice ad L.length cap) (.int .i64 (j1 : Nat)) (.bool c1)).setCell (p := ⟨w.heap.size + 1 + 1 + 1, 1, none⟩) (by show w.heap.size ≤ w.heap.size + 1 + 1 + 1; omega) (.int .i64 (n1 : Nat)))).mono ?_
  rintro e w3 ⟨j2, c2, n2, rfl, hx, l2, m2, s2⟩
  have sq3 := s2 _ _ _ _ sq2
  clear s2 sq2
  replace hb := ((bset3 hb (B := w.heap.size) (by omega) (.slice ad L.length cap) (.int .i64 (j1 : Nat)) (.bool c1)).setCell (p := ⟨w.heap.size + 1 + 1 + 1, 1, none⟩) (by show w.heap.size ≤ w.heap.size + 1 + 1 + 1; omega) (.int .i64 (n1 : Nat))).trans (hx.mono ((bset3 hb (B := w.heap.size) (by omega) (.slice ad L.length cap) (.int .i64 (j1 : Nat)) (.bool c1)).setCell (p := ⟨w.heap.size + 1 + 1 + 1, 1, none⟩) (by show w.heap.size ≤ w.heap.size + 1 + 1 + 1; omega) (.int .i64 (n1 : Nat))).size)
  replace op := ((op.put3 (.slice ad L.length cap) (.int .i64 (j1 : Nat)) (.bool c1)).setCell (p := ⟨w.heap.size + 1 + 1 + 1, 1, none⟩) (by simp <;> omega) (.int .i64 (n1 : Nat))).below hx
  replace r1 := ((r1.off3 (B := w.heap.size) (by omega) (.slice ad L.length cap) (.int .i64 (j1 : Nat)) (.bool c1)).setCell (p := ⟨w.heap.size + 1 + 1 + 1, 1, none⟩) (by simp <;> omega) (.int .i64 (n1 : Nat))).below hx
  replace r2 := ((r2.off3 (B := w.heap.size) (by omega) (.slice ad L.length cap) (.int .i64 (j1 : Nat)) (.bool c1)).setCell (p := ⟨w.heap.size + 1 + 1 + 1, 1, none⟩) (by simp <;> omega) (.int .i64 (n1 : Nat))).below hx
  replace rr := ((rr.off3 (B := w.heap.size) (by omega) (.slice ad L.length cap) (.int .i64 (j1 : Nat)) (.bool c1)).setAt (i := 1) (.int .i64 (n1 : Nat)) (by simp)).below hx
  have yw3 := hb.size
  clear hx
  replace rr : Own w3 (w.heap.size + 1 + 1 + 1) [.int .i64 (n0 : Nat), .int .i64 (n1 : Nat), .int .i64 0, .int .i64 0, .int .i64 0, .int .i64 0, .int .i64 0, .int .i64 0, .int .i64 0, .int .i64 0, .int .i64 0, .int .i64 0, .slice none 0 0, .int .i64 0, .int .i64 0, .slice none 0 0] := rr
  obtain ⟨op0, op1, op2, op3, op4, op5, op6⟩ := op.three
  have q0 := rr.cell 0 _ rfl
  have g0 := rr.fro 0 _ rfl
  have q1 := rr.cell 1 _ rfl
  have g1 := rr.fro 1 _ rfl
  have q2 := rr.cell 2 _ rfl
  have g2 := rr.fro 2 _ rfl
  have q3 := rr.cell 3 _ rfl
  have g3 := rr.fro 3 _ rfl
  have q4 := rr.cell 4 _ rfl
  have g4 := rr.fro 4 _ rfl
  have q5 := rr.cell 5 _ rfl
  have g5 := rr.fro 5 _ rfl
  have q6 := rr.cell 6 _ rfl
  have g6 := rr.fro 6 _ rfl
  have q7 := rr.cell 7 _ rfl
  have g7 := rr.fro 7 _ rfl
  have q8 := rr.cell 8 _ rfl
  have g8 := rr.fro 8 _ rfl
  have q9 := rr.cell 9 _ rfl
  have g9 := rr.fro 9 _ rfl
  have q10 := rr.cell 10 _ rfl
  have g10 := rr.fro 10 _ rfl
  have q11 := rr.cell 11 _ rfl
  have g11 := rr.fro 11 _ rfl
  have q12 := rr.cell 12 _ rfl
  have g12 := rr.fro 12 _ rfl
  have q13 := rr.cell 13 _ rfl
  have g13 := rr.fro 13 _ rfl
  have q14 := rr.cell 14 _ rfl
  have g14 := rr.fro 14 _ rfl
  have q15 := rr.cell 15 _ rfl
  have g15 := rr.fro 15 _ rfl
  have q16 := rr.lt
  go_wp2_with fail
  clear op0 op1 op2 op3 op4 op5 op6
  clear q0 g0 q1 g1 q2 g2 q3 g3 q4 g4 q5 g5 q6 g6 q7 g7 q8 g8 q9 g9 q10 g10 q11 g11 q12 g12 q13 g13 q14 g14 q15 g15 q16
  refine (hN wNights j2 c2 _ m2 ((bset3 hb (B := w.heap.size) (by omega) (.slice ad L.length cap) (.int .i64 (j2 : Nat)) (.bool c2)).setCell (p := ⟨w.heap.size + 1 + 1 + 1, 2, none⟩) (by show w.heap.size ≤ w.heap.size + 1 + 1 + 1; omega) (.int .i64 (n2 : Nat)))).mono ?_
  rintro e w4 ⟨j3, c3, n3, rfl, hx, l3, m3, s3⟩
  have sq4 := s3 _ _ _ _ sq3
  clear s3 sq3
  replace hb := ((bset3 hb (B := w.heap.size) (by omega) (.slice ad L.length cap) (.int .i64 (j2 : Nat)) (.bool c2)).setCell (p := ⟨w.heap.size + 1 + 1 + 1, 2, none⟩) (by show w.heap.size ≤ w.heap.size + 1 + 1 + 1; omega) (.int .i64 (n2 : Nat))).trans (hx.mono ((bset3 hb (B := w.heap.size) (by omega) (.slice ad L.length cap) (.int .i64 (j2 : Nat)) (.bool c2)).setCell (p := ⟨w.heap.size + 1 + 1 + 1, 2, none⟩) (by show w.heap.size ≤ w.heap.size + 1 + 1 + 1; omega) (.int .i64 (n2 : Nat))).size)
  replace op := ((op.put3 (.slice ad L.length cap) (.int .i64 (j2 : Nat)) (.bool c2)).setCell (p := ⟨w.heap.size + 1 + 1 + 1, 2, none⟩) (by simp <;> omega) (.int .i64 (n2 : Nat))).below hx
  replace r1 := ((r1.off3 (B := w.heap.size) (by omega) (.slice ad L.length cap) (.int .i64 (j2 : Nat)) (.bool c2)).setCell (p := ⟨w.heap.size + 1 + 1 + 1, 2, none⟩) (by simp <;> omega) (.int .i64 (n2 : Nat))).below hx
  replace r2 := ((r2.off3 (B := w.heap.size) (by omega) (.slice ad L.length cap) (.int .i64 (j2 : Nat)) (.bool c2)).setCell (p := ⟨w.heap.size + 1 + 1 + 1, 2, none⟩) (by simp <;> omega) (.int .i64 (n2 : Nat))).below hx
  replace rr := ((rr.off3 (B := w.heap.size) (by omega) (.slice ad L.length cap) (.int .i64 (j2 : Nat)) (.bool c2)).setAt (i := 2) (.int .i64 (n2 : Nat)) (by simp)).below hx
  have yw4 := hb.size
  clear hx
  replace rr : Own w4 (w.heap.size + 1 + 1 + 1) [.int .i64 (n0 : Nat), .int .i64 (n1 : Nat), .int .i64 (n2 : Nat), .int .i64 0, .int .i64 0, .int .i64 0, .int .i64 0, .int .i64 0, .int .i64 0, .int .i64 0, .int .i64 0, .int .i64 0, .slice none 0 0, .int .i64 0, .int .i64 0, .slice none 0 0] := rr
  obtain ⟨op0, op1, op2, op3, op4, op5, op6⟩ := op.three
  have q0 := rr.cell 0 _ rfl
  have g0 := rr.fro 0 _ rfl
  have q1 := rr.cell 1 _ rfl
  have g1 := rr.fro 1 _ rfl
  have q2 := rr.cell 2 _ rfl
  have g2 := rr.fro 2 _ rfl
  have q3 := rr.cell 3 _ rfl
  have g3 := rr.fro 3 _ rfl
  have q4 := rr.cell 4 _ rfl
  have g4 := rr.fro 4 _ rfl
  have q5 := rr.cell 5 _ rfl
  have g5 := rr.fro 5 _ rfl
  have q6 := rr.cell 6 _ rfl
  have g6 := rr.fro 6 _ rfl
  have q7 := rr.cell 7 _ rfl
  have g7 := rr.fro 7 _ rfl
  have q8 := rr.cell 8 _ rfl
  have g8 := rr.fro 8 _ rfl
  have q9 := rr.cell 9 _ rfl
  have g9 := rr.fro 9 _ rfl
  have q10 := rr.cell 10 _ rfl
  have g10 := rr.fro 10 _ rfl
  have q11 := rr.cell 11 _ rfl
  have g11 := rr.fro 11 _ rfl
  have q12 := rr.cell 12 _ rfl
  have g12 := rr.fro 12 _ rfl
  have q13 := rr.cell 13 _ rfl
  have g13 := rr.fro 13 _ rfl
  have q14 := rr.cell 14 _ rfl
  have g14 := rr.fro 14 _ rfl
  have q15 := rr.cell 15 _ rfl
  have g15 := rr.fro 15 _ rfl
  have q16 := rr.lt
  go_wp2_with fail
  clear op0 op1 op2 op3 op4 op5 op6
  clear q0 g0 q1 g1 q2 g2 q3 g3 q4 g4 q5 g5 q6 g6 q7 g7 q8 g8 q9 g9 q10 g10 q11 g11 q12 g12 q13 g13 q14 g14 q15 g15 q16
  refine (hN wTo j3 c3 _ m3 ((bset3 hb (B := w.heap.size) (by omega) (.slice ad L.length cap) (.int .i64 (j3 : Nat)) (.bool c3)).setCell (p := ⟨w.heap.size + 1 + 1 + 1, 3, none⟩) (by show w.heap.size ≤ w.heap.size + 1 + 1 + 1; omega) (.int .i64 (n3 : Nat)))).mono ?_
  rintro e w5 ⟨j4, c4, n4, rfl, hx, l4, m4, s4⟩
  have sq5 := s4 _ _ _ _ sq4
  clear s4 sq4
  replace hb := ((bset3 hb (B := w.heap.size) (by omega) (.slice ad L.length cap) (.int .i64 (j3 : Nat)) (.bool c3)).setCell (p := ⟨w.heap.size + 1 + 1 + 1, 3, none⟩) (by show w.heap.size ≤ w.heap.size + 1 + 1 + 1; omega) (.int .i64 (n3 : Nat))).trans (hx.mono ((bset3 hb (B := w.heap.size) (by omega) (.slice ad L.length cap) (.int .i64 (j3 : Nat)) (.bool c3)).setCell (p := ⟨w.heap.size + 1 + 1 + 1, 3, none⟩) (by show w.heap.size ≤ w.heap.size + 1 + 1 + 1; omega) (.int .i64 (n3 : Nat))).size)
  replace op := ((op.put3 (.slice ad L.length cap) (.int .i64 (j3 : Nat)) (.bool c3)).setCell (p := ⟨w.heap.size + 1 + 1 + 1, 3, none⟩) (by simp <;> omega) (.int .i64 (n3 : Nat))).below hx
  replace r1 := ((r1.off3 (B := w.heap.size) (by omega) (.slice ad L.length cap) (.int .i64 (j3 : Nat)) (.bool c3)).setCell (p := ⟨w.heap.size + 1 + 1 + 1, 3, none⟩) (by simp <;> omega) (.int .i64 (n3 : Nat))).below hx
  replace r2 := ((r2.off3 (B := w.heap.size) (by omega) (.slice ad L.length cap) (.int .i64 (j3 : Nat)) (.bool c3)).setCell (p := ⟨w.heap.size + 1 + 1 + 1, 3, none⟩) (by simp <;> omega) (.int .i64 (n3 : Nat))).below hx
  replace rr := ((rr.off3 (B := w.heap.size) (by omega) (.slice ad L.length cap) (.int .i64 (j3 : Nat)) (.bool c3)).setAt (i := 3) (.int .i64 (n3 : Nat)) (by simp)).below hx
  have yw5 := hb.size
  clear hx
  replace rr : Own w5 (w.heap.size + 1 + 1 + 1) [.int .i64 (n0 : Nat), .int .i64 (n1 : Nat), .int .i64 (n2 : Nat), .int .i64 (n3 : Nat), .int .i64 0, .int .i64 0, .int .i64 0, .int .i64 0, .int .i64 0, .int .i64 0, .int .i64 0, .int .i64 0, .slice none 0 0, .int .i64 0, .int .i64 0, .slice none 0 0] := rr
  obtain ⟨op0, op1, op2, op3, op4, op5, op6⟩ := op.three
  have q0 := rr.cell 0 _ rfl
  have g0 := rr.fro 0 _ rfl
  have q1 := rr.cell 1 _ rfl
  have g1 := rr.fro 1 _ rfl
  have q2 := rr.cell 2 _ rfl
  have g2 := rr.fro 2 _ rfl
  have q3 := rr.cell 3 _ rfl
  have g3 := rr.fro 3 _ rfl
  have q4 := rr.cell 4 _ rfl
  have g4 := rr.fro 4 _ rfl
  have q5 := rr.cell 5 _ rfl
  have g5 := rr.fro 5 _ rfl
  have q6 := rr.cell 6 _ rfl
  have g6 := rr.fro 6 _ rfl
  have q7 := rr.cell 7 _ rfl
  have g7 := rr.fro 7 _ rfl
  have q8 := rr.cell 8 _ rfl
  have g8 := rr.fro 8 _ rfl
  have q9 := rr.cell 9 _ rfl
  have g9 := rr.fro 9 _ rfl
  have q10 := rr.cell 10 _ rfl
  have g10 := rr.fro 10 _ rfl
  have q11 := rr.cell 11 _ rfl
  have g11 := rr.fro 11 _ rfl
  have q12 := rr.cell 12 _ rfl
  have g12 := rr.fro 12 _ rfl
  have q13 := rr.cell 13 _ rfl
  have g13 := rr.fro 13 _ rfl
  have q14 := rr.cell 14 _ rfl
  have g14 := rr.fro 14 _ rfl
  have q15 := rr.cell 15 _ rfl
  have g15 := rr.fro 15 _ rfl
  have q16 := rr.lt
  go_wp2_with fail
  clear op0 op1 op2 op3 op4 op5 op6
  clear q0 g0 q1 g1 q2 g2 q3 g3 q4 g4 q5 g5 q6 g6 q7 g7 q8 g8 q9 g9 q10 g10 q11 g11 q12 g12 q13 g13 q14 g14 q15 g15 q16
  refine (hN wStay j4 c4 _ m4 ((bset3 hb (B := w.heap.size) (by omega) (.slice ad L.length cap) (.int .i64 (j4 : Nat)) (.bool c4)).setCell (p := ⟨w.heap.size + 1 + 1 + 1, 4, none⟩) (by show w.heap.size ≤ w.heap.size + 1 + 1 + 1; omega) (.int .i64 (n4 : Nat)))).mono ?_
  rintro e w6 ⟨j5, c5, n5, rfl, hx, l5, m5, s5⟩
  have sq6 := s5 _ _ _ _ sq5
  clear s5 sq5
  replace hb := ((bset3 hb (B := w.heap.size) (by omega) (.slice ad L.length cap) (.int .i64 (j4 : Nat)) (.bool c4)).setCell (p := ⟨w.heap.size + 1 + 1 + 1, 4, none⟩) (by show w.heap.size ≤ w.heap.size + 1 + 1 + 1; omega) (.int .i64 (n4 : Nat))).trans (hx.mono ((bset3 hb (B := w.heap.size) (by omega) (.slice ad L.length cap) (.int .i64 (j4 : Nat)) (.bool c4)).setCell (p := ⟨w.heap.size + 1 + 1 + 1, 4, none⟩) (by show w.heap.size ≤ w.heap.size + 1 + 1 + 1; omega) (.int .i64 (n4 : Nat))).size)
  replace op := ((op.put3 (.slice ad L.length cap) (.int .i64 (j4 : Nat)) (.bool c4)).setCell (p := ⟨w.heap.size + 1 + 1 + 1, 4, none⟩) (by simp <;> omega) (.int .i64 (n4 : Nat))).below hx
  replace r1 := ((r1.off3 (B := w.heap.size) (by omega) (.slice ad L.length cap) (.int .i64 (j4 : Nat)) (.bool c4)).setCell (p := ⟨w.heap.size + 1 + 1 + 1, 4, none⟩) (by simp <;> omega) (.int .i64 (n4 : Nat))).below hx
  replace r2 := ((r2.off3 (B := w.heap.size) (by omega) (.slice ad L.length cap) (.int .i64 (j4 : Nat)) (.bool c4)).setCell (p := ⟨w.heap.size + 1 + 1 + 1, 4, none⟩) (by simp <;> omega) (.int .i64 (n4 : Nat))).below hx
  replace rr := ((rr.off3 (B := w.heap.size) (by omega) (.slice ad L.length cap) (.int .i64 (j4 : Nat)) (.bool c4)).setAt (i := 4) (.int .i64 (n4 : Nat)) (by simp)).below hx
  have yw6 := hb.size
  clear hx
  replace rr : Own w6 (w.heap.size + 1 + 1 + 1) [.int .i64 (n0 : Nat), .int .i64 (n1 : Nat), .int .i64 (n2 : Nat), .int .i64 (n3 : Nat), .int .i64 (n4 : Nat), .int .i64 0, .int .i64 0, .int .i64 0, .int .i64 0, .int .i64 0, .int .i64 0, .int .i64 0, .slice none 0 0, .int .i64 0, .int .i64 0, .slice none 0 0] := rr
  obtain ⟨op0, op1, op2, op3, op4, op5, op6⟩ := op.three
  have q0 := rr.cell 0 _ rfl
  have g0 := rr.fro 0 _ rfl
  have q1 := rr.cell 1 _ rfl
  have g1 := rr.fro 1 _ rfl
  have q2 := rr.cell 2 _ rfl
  have g2 := rr.fro 2 _ rfl
  have q3 := rr.cell 3 _ rfl
  have g3 := rr.fro 3 _ rfl
  have q4 := rr.cell 4 _ rfl
  have g4 := rr.fro 4 _ rfl
  have q5 := rr.cell 5 _ rfl
  have g5 := rr.fro 5 _ rfl
  have q6 := rr.cell 6 _ rfl
  have g6 := rr.fro 6 _ rfl
  have q7 := rr.cell 7 _ rfl
  have g7 := rr.fro 7 _ rfl
  have q8 := rr.cell 8 _ rfl
  have g8 := rr.fro 8 _ rfl
  have q9 := rr.cell 9 _ rfl
  have g9 := rr.fro 9 _ rfl
  have q10 := rr.cell 10 _ rfl
  have g10 := rr.fro 10 _ rfl
  have q11 := rr.cell 11 _ rfl
  have g11 := rr.fro 11 _ rfl
  have q12 := rr.cell 12 _ rfl
  have g12 := rr.fro 12 _ rfl
  have q13 := rr.cell 13 _ rfl
  have g13 := rr.fro 13 _ rfl
  have q14 := rr.cell 14 _ rfl
  have g14 := rr.fro 14 _ rfl
  have q15 := rr.cell 15 _ rfl
  have g15 := rr.fro 15 _ rfl
  have q16 := rr.lt
  go_wp2_with fail
  clear op0 op1 op2 op3 op4 op5 op6
  clear q0 g0 q1 g1 q2 g2 q3 g3 q4 g4 q5 g5 q6 g6 q7 g7 q8 g8 q9 g9 q10 g10 q11 g11 q12 g12 q13 g13 q14 g14 q15 g15 q16
  refine (hN wTo j5 c5 _ m5 ((bset3 hb (B := w.heap.size) (by omega) (.slice ad L.length cap) (.int .i64 (j5 : Nat)) (.bool c5)).setCell (p := ⟨w.heap.size + 1 + 1 + 1, 5, none⟩) (by show w.heap.size ≤ w.heap.size + 1 + 1 + 1; omega) (.int .i64 (n5 : Nat)))).mono ?_
  rintro e w7 ⟨j6, c6, n6, rfl, hx, l6, m6, s6⟩
  have sq7 := s6 _ _ _ _ sq6
  clear s6 sq6
  replace hb := ((bset3 hb (B := w.heap.size) (by omega) (.slice ad L.length cap) (.int .i64 (j5 : Nat)) (.bool c5)).setCell (p := ⟨w.heap.size + 1 + 1 + 1, 5, none⟩) (by show w.heap.size ≤ w.heap.size + 1 + 1 + 1; omega) (.int .i64 (n5 : Nat))).trans (hx.mono ((bset3 hb (B := w.heap.size) (by omega) (.slice ad L.length cap) (.int .i64 (j5 : Nat)) (.bool c5)).setCell (p := ⟨w.heap.size + 1 + 1 + 1, 5, none⟩) (by show w.heap.size ≤ w.heap.size + 1 + 1 + 1; omega) (.int .i64 (n5 : Nat))).size)
  replace op := ((op.put3 (.slice ad L.length cap) (.int .i64 (j5 : Nat)) (.bool c5)).setCell (p := ⟨w.heap.size + 1 + 1 + 1, 5, none⟩) (by simp <;> omega) (.int .i64 (n5 : Nat))).below hx
  replace r1 := ((r1.off3 (B := w.heap.size) (by omega) (.slice ad L.length cap) (.int .i64 (j5 : Nat)) (.bool c5)).setCell (p := ⟨w.heap.size + 1 + 1 + 1, 5, none⟩) (by simp <;> omega) (.int .i64 (n5 : Nat))).below hx
  replace r2 := ((r2.off3 (B := w.heap.size) (by omega) (.slice ad L.length cap) (.int .i64 (j5 : Nat)) (.bool c5)).setCell (p := ⟨w.heap.size + 1 + 1 + 1, 5, none⟩) (by simp <;> omega) (.int .i64 (n5 : Nat))).below hx
  replace rr := ((rr.off3 (B := w.heap.size) (by omega) (.slice ad L.length cap) (.int .i64 (j5 : Nat)) (.bool c5)).setAt (i := 5) (.int .i64 (n5 : Nat)) (by simp)).below hx
  have yw7 := hb.size
  clear hx
  replace rr : Own w7 (w.heap.size + 1 + 1 + 1) [.int .i64 (n0 : Nat), .int .i64 (n1 : Nat), .int .i64 (n2 : Nat), .int .i64 (n3 : Nat), .int .i64 (n4 : Nat), .int .i64 (n5 : Nat), .int .i64 0, .int .i64 0, .int .i64 0, .int .i64 0, .int .i64 0, .int .i64 0, .slice none 0 0, .int .i64 0, .int .i64 0, .slice none 0 0] := rr
  obtain ⟨op0, op1, op2, op3, op4, op5, op6⟩ := op.three
  have q0 := rr.cell 0 _ rfl
  have g0 := rr.fro 0 _ rfl
  have q1 := rr.cell 1 _ rfl
  have g1 := rr.fro 1 _ rfl
  have q2 := rr.cell 2 _ rfl
  have g2 := rr.fro 2 _ rfl
  have q3 := rr.cell 3 _ rfl
  have g3 := rr.fro 3 _ rfl
  have q4 := rr.cell 4 _ rfl
  have g4 := rr.fro 4 _ rfl
  have q5 := rr.cell 5 _ rfl
  have g5 := rr.fro 5 _ rfl
  have q6 := rr.cell 6 _ rfl
  have g6 := rr.fro 6 _ rfl
  have q7 := rr.cell 7 _ rfl
  have g7 := rr.fro 7 _ rfl
  have q8 := rr.cell 8 _ rfl
  have g8 := rr.fro 8 _ rfl
  have q9 := rr.cell 9 _ rfl
  have g9 := rr.fro 9 _ rfl
  have q10 := rr.cell 10 _ rfl
  have g10 := rr.fro 10 _ rfl
  have q11 := rr.cell 11 _ rfl
  have g11 := rr.fro 11 _ rfl
  have q12 := rr.cell 12 _ rfl
  have g12 := rr.fro 12 _ rfl
  have q13 := rr.cell 13 _ rfl
  have g13 := rr.fro 13 _ rfl
  have q14 := rr.cell 14 _ rfl
  have g14 := rr.fro 14 _ rfl
  have q15 := rr.cell 15 _ rfl
  have g15 := rr.fro 15 _ rfl
  have q16 := rr.lt
  go_wp2_with fail
  clear op0 op1 op2 op3 op4 op5 op6
  clear q0 g0 q1 g1 q2 g2 q3 g3 q4 g4 q5 g5 q6 g6 q7 g7 q8 g8 q9 g9 q10 g10 q11 g11 q12 g12 q13 g13 q14 g14 q15 g15 q16
  refine (hN wArrive j6 c6 _ m6 ((bset3 hb (B := w.heap.size) (by omega) (.slice ad L.length cap) (.int .i64 (j6 : Nat)) (.bool c6)).setCell (p := ⟨w.heap.size + 1 + 1 + 1, 6, none⟩) (by show w.heap.size ≤ w.heap.size + 1 + 1 + 1; omega) (.int .i64 (n6 : Nat)))).mono ?_
  rintro e w8 ⟨j7, c7, n7, rfl, hx, l7, m7, s7⟩
  have sq8 := s7 _ _ _ _ sq7
  clear s7 sq7
  replace hb := ((bset3 hb (B := w.heap.size) (by omega) (.slice ad L.length cap) (.int .i64 (j6 : Nat)) (.bool c6)).setCell (p := ⟨w.heap.size + 1 + 1 + 1, 6, none⟩) (by show w.heap.size ≤ w.heap.size + 1 + 1 + 1; omega) (.int .i64 (n6 : Nat))).trans (hx.mono ((bset3 hb (B := w.heap.size) (by omega) (.slice ad L.length cap) (.int .i64 (j6 : Nat)) (.bool c6)).setCell (p := ⟨w.heap.size + 1 + 1 + 1, 6, none⟩) (by show w.heap.size ≤ w.heap.size + 1 + 1 + 1; omega) (.int .i64 (n6 : Nat))).size)
  replace op := ((op.put3 (.slice ad L.length cap) (.int .i64 (j6 : Nat)) (.bool c6)).setCell (p := ⟨w.heap.size + 1 + 1 + 1, 6, none⟩) (by simp <;> omega) (.int .i64 (n6 : Nat))).below hx
  replace r1 := ((r1.off3 (B := w.heap.size) (by omega) (.slice ad L.length cap) (.int .i64 (j6 : Nat)) (.bool c6)).setCell (p := ⟨w.heap.size + 1 + 1 + 1, 6, none⟩) (by simp <;> omega) (.int .i64 (n6 : Nat))).below hx
  replace r2 := ((r2.off3 (B := w.heap.size) (by omega) (.slice ad L.length cap) (.int .i64 (j6 : Nat)) (.bool c6)).setCell (p := ⟨w.heap.size + 1 + 1 + 1, 6, none⟩) (by simp <;> omega) (.int .i64 (n6 : Nat))).below hx
  replace rr := ((rr.off3 (B := w.heap.size) (by omega) (.slice ad L.length cap) (.int .i64 (j6 : Nat)) (.bool c6)).setAt (i := 6) (.int .i64 (n6 : Nat)) (by simp)).below hx
  have yw8 := hb.size
  clear hx
  replace rr : Own w8 (w.heap.size + 1 + 1 + 1) [.int .i64 (n0 : Nat), .int .i64 (n1 : Nat), .int .i64 (n2 : Nat), .int .i64 (n3 : Nat), .int .i64 (n4 : Nat), .int .i64 (n5 : Nat), .int .i64 (n6 : Nat), .int .i64 0, .int .i64 0, .int .i64 0, .int .i64 0, .int .i64 0, .slice none 0 0, .int .i64 0, .int .i64 0, .slice none 0 0] := rr
  obtain ⟨op0, op1, op2, op3, op4, op5, op6⟩ := op.three
  have q0 := rr.cell 0 _ rfl
  have g0 := rr.fro 0 _ rfl
  have q1 := rr.cell 1 _ rfl
  have g1 := rr.fro 1 _ rfl
  have q2 := rr.cell 2 _ rfl
  have g2 := rr.fro 2 _ rfl
  have q3 := rr.cell 3 _ rfl
  have g3 := rr.fro 3 _ rfl
  have q4 := rr.cell 4 _ rfl
  have g4 := rr.fro 4 _ rfl
  have q5 := rr.cell 5 _ rfl
  have g5 := rr.fro 5 _ rfl
  have q6 := rr.cell 6 _ rfl
  have g6 := rr.fro 6 _ rfl
  have q7 := rr.cell 7 _ rfl
  have g7 := rr.fro 7 _ rfl
  have q8 := rr.cell 8 _ rfl
  have g8 := rr.fro 8 _ rfl
  have q9 := rr.cell 9 _ rfl
  have g9 := rr.fro 9 _ rfl
  have q10 := rr.cell 10 _ rfl
  have g10 := rr.fro 10 _ rfl
  have q11 := rr.cell 11 _ rfl
  have g11 := rr.fro 11 _ rfl
  have q12 := rr.cell 12 _ rfl
  have g12 := rr.fro 12 _ rfl
  have q13 := rr.cell 13 _ rfl
  have g13 := rr.fro 13 _ rfl
  have q14 := rr.cell 14 _ rfl
  have g14 := rr.fro 14 _ rfl
  have q15 := rr.cell 15 _ rfl
  have g15 := rr.fro 15 _ rfl
  have q16 := rr.lt
  go_wp2_with fail
  clear op0 op1 op2 op3 op4 op5 op6
  clear q0 g0 q1 g1 q2 g2 q3 g3 q4 g4 q5 g5 q6 g6 q7 g7 q8 g8 q9 g9 q10 g10 q11 g11 q12 g12 q13 g13 q14 g14 q15 g15 q16
  refine (hN wKeep j7 c7 _ m7 ((bset3 hb (B := w.heap.size) (by omega) (.slice ad L.length cap) (.int .i64 (j7 : Nat)) (.bool c7)).setCell (p := ⟨w.heap.size + 1 + 1 + 1, 7, none⟩) (by show w.heap.size ≤ w.heap.size + 1 + 1 + 1; omega) (.int .i64 (n7 : Nat)))).mono ?_
  rintro e w9 ⟨j8, c8, n8, rfl, hx, l8, m8, s8⟩
  have sq9 := s8 _ _ _ _ sq8
  clear s8 sq8
  replace hb := ((bset3 hb (B := w.heap.size) (by omega) (.slice ad L.length cap) (.int .i64 (j7 : Nat)) (.bool c7)).setCell (p := ⟨w.heap.size + 1 + 1 + 1, 7, none⟩) (by show w.heap.size ≤ w.heap.size + 1 + 1 + 1; omega) (.int .i64 (n7 : Nat))).trans (hx.mono ((bset3 hb (B := w.heap.size) (by omega) (.slice ad L.length cap) (.int .i64 (j7 : Nat)) (.bool c7)).setCell (p := ⟨w.heap.size + 1 + 1 + 1, 7, none⟩) (by show w.heap.size ≤ w.heap.size + 1 + 1 + 1; omega) (.int .i64 (n7 : Nat))).size)
  replace op := ((op.put3 (.slice ad L.length cap) (.int .i64 (j7 : Nat)) (.bool c7)).setCell (p := ⟨w.heap.size + 1 + 1 + 1, 7, none⟩) (by simp <;> omega) (.int .i64 (n7 : Nat))).below hx
  replace r1 := ((r1.off3 (B := w.heap.size) (by omega) (.slice ad L.length cap) (.int .i64 (j7 : Nat)) (.bool c7)).setCell (p := ⟨w.heap.size + 1 + 1 + 1, 7, none⟩) (by simp <;> omega) (.int .i64 (n7 : Nat))).below hx
  replace r2 := ((r2.off3 (B := w.heap.size) (by omega) (.slice ad L.length cap) (.int .i64 (j7 : Nat)) (.bool c7)).setCell (p := ⟨w.heap.size + 1 + 1 + 1, 7, none⟩) (by simp <;> omega) (.int .i64 (n7 : Nat))).below hx
  replace rr := ((rr.off3 (B := w.heap.size) (by omega) (.slice ad L.length cap) (.int .i64 (j7 : Nat)) (.bool c7)).setAt (i := 7) (.int .i64 (n7 : Nat)) (by simp)).below hx
  have yw9 := hb.size
  clear hx
  replace rr : Own w9 (w.heap.size + 1 + 1 + 1) [.int .i64 (n0 : Nat), .int .i64 (n1 : Nat), .int .i64 (n2 : Nat), .int .i64 (n3 : Nat), .int .i64 (n4 : Nat), .int .i64 (n5 : Nat), .int .i64 (n6 : Nat), .int .i64 (n7 : Nat), .int .i64 0, .int .i64 0, .int .i64 0, .int .i64 0, .slice none 0 0, .int .i64 0, .int .i64 0, .slice none 0 0] := rr
  obtain ⟨op0, op1, op2, op3, op4, op5, op6⟩ := op.three
  go_wp2_with fail
  clear op0 op1 op2 op3 op4 op5 op6
  refine (hK n8 _).mono ?_
  rintro e wa ⟨rfl, hx⟩
  replace hb := (bset3 hb (B := w.heap.size) (by omega) (.slice ad L.length cap) (.int .i64 (j8 : Nat)) (.bool c8)).trans (hx.mono (bset3 hb (B := w.heap.size) (by omega) (.slice ad L.length cap) (.int .i64 (j8 : Nat)) (.bool c8)).size)
  replace op := (op.put3 (.slice ad L.length cap) (.int .i64 (j8 : Nat)) (.bool c8)).below hx
  replace r1 := (r1.off3 (B := w.heap.size) (by omega) (.slice ad L.length cap) (.int .i64 (j8 : Nat)) (.bool c8)).below hx
  replace r2 := (r2.off3 (B := w.heap.size) (by omega) (.slice ad L.length cap) (.int .i64 (j8 : Nat)) (.bool c8)).below hx
  replace rr := (rr.off3 (B := w.heap.size) (by omega) (.slice ad L.length cap) (.int .i64 (j8 : Nat)) (.bool c8)).below hx
  have ywa := hb.size
  clear hx
  replace rr : Own wa (w.heap.size + 1 + 1 + 1) [.int .i64 (n0 : Nat), .int .i64 (n1 : Nat), .int .i64 (n2 : Nat), .int .i64 (n3 : Nat), .int .i64 (n4 : Nat), .int .i64 (n5 : Nat), .int .i64 (n6 : Nat), .int .i64 (n7 : Nat), .int .i64 0, .int .i64 0, .int .i64 0, .int .i64 0, .slice none 0 0, .int .i64 0, .int .i64 0, .slice none 0 0] := rr
  have q0 := rr.cell 0 _ rfl
  have g0 := rr.fro 0 _ rfl
  have q1 := rr.cell 1 _ rfl
  have g1 := rr.fro 1 _ rfl
  have q2 := rr.cell 2 _ rfl
  have g2 := rr.fro 2 _ rfl
  have q3 := rr.cell 3 _ rfl
  have g3 := rr.fro 3 _ rfl
  have q4 := rr.cell 4 _ rfl
  have g4 := rr.fro 4 _ rfl
  have q5 := rr.cell 5 _ rfl
  have g5 := rr.fro 5 _ rfl
  have q6 := rr.cell 6 _ rfl
  have g6 := rr.fro 6 _ rfl
  have q7 := rr.cell 7 _ rfl
  have g7 := rr.fro 7 _ rfl
  have q8 := rr.cell 8 _ rfl
  have g8 := rr.fro 8 _ rfl
  have q9 := rr.cell 9 _ rfl
  have g9 := rr.fro 9 _ rfl
  have q10 := rr.cell 10 _ rfl
  have g10 := rr.fro 10 _ rfl
  have q11 := rr.cell 11 _ rfl
  have g11 := rr.fro 11 _ rfl
  have q12 := rr.cell 12 _ rfl
  have g12 := rr.fro 12 _ rfl
  have q13 := rr.cell 13 _ rfl
  have g13 := rr.fro 13 _ rfl
  have q14 := rr.cell 14 _ rfl
  have g14 := rr.fro 14 _ rfl
  have q15 := rr.cell 15 _ rfl
  have g15 := rr.fro 15 _ rfl
  have q16 := rr.lt
  obtain ⟨op0, op1, op2, op3, op4, op5, op6⟩ := op.three
  go_wp2_with fail
  clear q0 g0 q1 g1 q2 g2 q3 g3 q4 g4 q5 g5 q6 g6 q7 g7 q8 g8 q9 g9 q10 g10 q11 g11 q12 g12 q13 g13 q14 g14 q15 g15 q16
  clear op0 op1 op2 op3 op4 op5 op6
  refine (hM wPart j8 c8 _ m8 ((hb.setCell (p := ⟨w.heap.size + 1 + 1 + 1, 8, none⟩) (by show w.heap.size ≤ w.heap.size + 1 + 1 + 1; omega) (.int .i64 (kn' n8))).setCell (p := ⟨w.heap.size + 1 + 1 + 1, 9, none⟩) (by show w.heap.size ≤ w.heap.size + 1 + 1 + 1; omega) (.int .i64 (kd' n8)))).mono ?_
  rintro e wb ⟨ja, ca, rfl, hx, la, ma, ga, ka⟩
  have sqa := sq9.lit ma ga ka
  clear ga ka sq9
  replace hb := ((hb.setCell (p := ⟨w.heap.size + 1 + 1 + 1, 8, none⟩) (by show w.heap.size ≤ w.heap.size + 1 + 1 + 1; omega) (.int .i64 (kn' n8))).setCell (p := ⟨w.heap.size + 1 + 1 + 1, 9, none⟩) (by show w.heap.size ≤ w.heap.size + 1 + 1 + 1; omega) (.int .i64 (kd' n8))).trans (hx.mono ((hb.setCell (p := ⟨w.heap.size + 1 + 1 + 1, 8, none⟩) (by show w.heap.size ≤ w.heap.size + 1 + 1 + 1; omega) (.int .i64 (kn' n8))).setCell (p := ⟨w.heap.size + 1 + 1 + 1, 9, none⟩) (by show w.heap.size ≤ w.heap.size + 1 + 1 + 1; omega) (.int .i64 (kd' n8))).size)
  replace op := ((op.setCell (p := ⟨w.heap.size + 1 + 1 + 1, 8, none⟩) (by simp <;> omega) (.int .i64 (kn' n8))).setCell (p := ⟨w.heap.size + 1 + 1 + 1, 9, none⟩) (by simp <;> omega) (.int .i64 (kd' n8))).below hx
  replace r1 := ((r1.setCell (p := ⟨w.heap.size + 1 + 1 + 1, 8, none⟩) (by simp <;> omega) (.int .i64 (kn' n8))).setCell (p := ⟨w.heap.size + 1 + 1 + 1, 9, none⟩) (by simp <;> omega) (.int .i64 (kd' n8))).below hx
  replace r2 := ((r2.setCell (p := ⟨w.heap.size + 1 + 1 + 1, 8, none⟩) (by simp <;> omega) (.int .i64 (kn' n8))).setCell (p := ⟨w.heap.size + 1 + 1 + 1, 9, none⟩) (by simp <;> omega) (.int .i64 (kd' n8))).below hx
  replace rr := ((rr.setAt (i := 8) (.int .i64 (kn' n8)) (by simp)).setAt (i := 9) (.int .i64 (kd' n8)) (by simp)).below hx
  have ywb := hb.size
  clear hx
  replace rr : Own wb (w.heap.size + 1 + 1 + 1) [.int .i64 (n0 : Nat), .int .i64 (n1 : Nat), .int .i64 (n2 : Nat), .int .i64 (n3 : Nat), .int .i64 (n4 : Nat), .int .i64 (n5 : Nat), .int .i64 (n6 : Nat), .int .i64 (n7 : Nat), .int .i64 (kn' n8), .int .i64 (kd' n8), .int .i64 0, .int .i64 0, .slice none 0 0, .int .i64 0, .int .i64 0, .slice none 0 0] := rr
  obtain ⟨op0, op1, op2, op3, op4, op5, op6⟩ := op.three
  go_wp2_with fail
  clear op0 op1 op2 op3 op4 op5 op6
  refine (hM wWhen ja ca _ ma hb).mono ?_
  rintro e wc ⟨jb, cb, rfl, hx, lb, mb, gb, kb⟩
  have sqb := sqa.lit mb gb kb
  clear gb kb sqa
  replace hb := hb.trans (hx.mono hb.size)
  replace op := op.below hx
  replace r1 := r1.below hx
  replace r2 := r2.below hx
  replace rr := rr.below hx
  have ywc := hb.size
  clear hx
  replace rr : Own wc (w.heap.size + 1 + 1 + 1) [.int .i64 (n0 : Nat), .int .i64 (n1 : Nat), .int .i64 (n2 : Nat), .int .i64 (n3 : Nat), .int .i64 (n4 : Nat), .int .i64 (n5 : Nat), .int .i64 (n6 : Nat), .int .i64 (n7 : Nat), .int .i64 (kn' n8), .int .i64 (kd' n8), .int .i64 0, .int .i64 0, .slice none 0 0, .int .i64 0, .int .i64 0, .slice none 0 0] := rr
  obtain ⟨op0, op1, op2, op3, op4, op5, op6⟩ := op.three
  go_wp2_with fail
  clear op0 op1 op2 op3 op4 op5 op6
  refine (hX jb cb _ mb (bset3 hb (B := w.heap.size) (by omega) (.slice ad L.length cap) (.int .i64 (jb : Nat)) (.bool cb))).mono ?_
  rintro e wd ⟨x1, jc, cc, tv1, rfl, t1, hx, lc, mc, gc, kc⟩
  obtain ⟨ad1, cap1, rfl, -, -⟩ := t1.shape
  replace t1 := t1.lo (b := w.heap.size + 1 + 1 + 1 + 1) (by simp only [setCell_size, set3_size]; have := rr.lt; omega)
  have sqc := sqb.ex mc lc gc kc
  clear gc kc sqb
  replace hb := (bset3 hb (B := w.heap.size) (by omega) (.slice ad L.length cap) (.int .i64 (jb : Nat)) (.bool cb)).trans (hx.mono (bset3 hb (B := w.heap.size) (by omega) (.slice ad L.length cap) (.int .i64 (jb : Nat)) (.bool cb)).size)
  replace op := (op.put3 (.slice ad L.length cap) (.int .i64 (jb : Nat)) (.bool cb)).below hx
  replace r1 := (r1.off3 (B := w.heap.size) (by omega) (.slice ad L.length cap) (.int .i64 (jb : Nat)) (.bool cb)).below hx
  replace r2 := (r2.off3 (B := w.heap.size) (by omega) (.slice ad L.length cap) (.int .i64 (jb : Nat)) (.bool cb)).below hx
  replace rr := (rr.off3 (B := w.heap.size) (by omega) (.slice ad L.length cap) (.int .i64 (jb : Nat)) (.bool cb)).below hx
  have ywd := hb.size
  clear hx
  replace rr : Own wd (w.heap.size + 1 + 1 + 1) [.int .i64 (n0 : Nat), .int .i64 (n1 : Nat), .int .i64 (n2 : Nat), .int .i64 (n3 : Nat), .int .i64 (n4 : Nat), .int .i64 (n5 : Nat), .int .i64 (n6 : Nat), .int .i64 (n7 : Nat), .int .i64 (kn' n8), .int .i64 (kd' n8), .int .i64 0, .int .i64 0, .slice none 0 0, .int .i64 0, .int .i64 0, .slice none 0 0] := rr
  obtain ⟨op0, op1, op2, op3, op4, op5, op6⟩ := op.three
  have q0 := rr.cell 0 _ rfl
  have g0 := rr.fro 0 _ rfl
  have q1 := rr.cell 1 _ rfl
  have g1 := rr.fro 1 _ rfl
  have q2 := rr.cell 2 _ rfl
  have g2 := rr.fro 2 _ rfl
  have q3 := rr.cell 3 _ rfl
  have g3 := rr.fro 3 _ rfl
  have q4 := rr.cell 4 _ rfl
  have g4 := rr.fro 4 _ rfl
  have q5 := rr.cell 5 _ rfl
  have g5 := rr.fro 5 _ rfl
  have q6 := rr.cell 6 _ rfl
  have g6 := rr.fro 6 _ rfl
  have q7 := rr.cell 7 _ rfl
  have g7 := rr.fro 7 _ rfl
  have q8 := rr.cell 8 _ rfl
  have g8 := rr.fro 8 _ rfl
  have q9 := rr.cell 9 _ rfl
  have g9 := rr.fro 9 _ rfl
  have q10 := rr.cell 10 _ rfl
  have g10 := rr.fro 10 _ rfl
  have q11 := rr.cell 11 _ rfl
  have g11 := rr.fro 11 _ rfl
  have q12 := rr.cell 12 _ rfl
  have g12 := rr.fro 12 _ rfl
  have q13 := rr.cell 13 _ rfl
  have g13 := rr.fro 13 _ rfl
  have q14 := rr.cell 14 _ rfl
  have g14 := rr.fro 14 _ rfl
  have q15 := rr.cell 15 _ rfl
  have g15 := rr.fro 15 _ rfl
  have q16 := rr.lt
  go_upto_region 15 with (fail)
  clear op0 op1 op2 op3 op4 op5 op6
  clear q0 g0 q1 g1 q2 g2 q3 g3 q4 g4 q5 g5 q6 g6 q7 g7 q8 g8 q9 g9 q10 g10 q11 g11 q12 g12 q13 g13 q14 g14 q15 g15 q16
  replace op := ((((op.put3 (.slice ad L.length cap) (.int .i64 (jc : Nat)) (.bool cc)).setCell (p := ⟨w.heap.size + 1 + 1 + 1, 10, none⟩) (by simp <;> omega) (.int .i64 x1.o)).setCell (p := ⟨w.heap.size + 1 + 1 + 1, 11, none⟩) (by simp <;> omega) (.int .i64 x1.n)).setCell (p := ⟨w.heap.size + 1 + 1 + 1, 12, none⟩) (by simp <;> omega) (.slice ad1 x1.ks.length cap1))
  replace r1 := ((((r1.off3 (B := w.heap.size) (by omega) (.slice ad L.length cap) (.int .i64 (jc : Nat)) (.bool cc)).setCell (p := ⟨w.heap.size + 1 + 1 + 1, 10, none⟩) (by simp <;> omega) (.int .i64 x1.o)).setCell (p := ⟨w.heap.size + 1 + 1 + 1, 11, none⟩) (by simp <;> omega) (.int .i64 x1.n)).setCell (p := ⟨w.heap.size + 1 + 1 + 1, 12, none⟩) (by simp <;> omega) (.slice ad1 x1.ks.length cap1))
  replace r2 := ((((r2.off3 (B := w.heap.size) (by omega) (.slice ad L.length cap) (.int .i64 (jc : Nat)) (.bool cc)).setCell (p := ⟨w.heap.size + 1 + 1 + 1, 10, none⟩) (by simp <;> omega) (.int .i64 x1.o)).setCell (p := ⟨w.heap.size + 1 + 1 + 1, 11, none⟩) (by simp <;> omega) (.int .i64 x1.n)).setCell (p := ⟨w.heap.size + 1 + 1 + 1, 12, none⟩) (by simp <;> omega) (.slice ad1 x1.ks.length cap1))
  replace rr := ((((rr.off3 (B := w.heap.size) (by omega) (.slice ad L.length cap) (.int .i64 (jc : Nat)) (.bool cc)).setAt (i := 10) (.int .i64 x1.o) (by simp)).setAt (i := 11) (.int .i64 x1.n) (by simp)).setAt (i := 12) (.slice ad1 x1.ks.length cap1) (by simp))
  replace t1 := ((((t1.set3 (B := w.heap.size) (by show _ < _; omega) (.slice ad L.length cap) (.int .i64 (jc : Nat)) (.bool cc)).set (b := ⟨w.heap.size + 1 + 1 + 1, 10, none⟩) (.int .i64 x1.o) (by show w.heap.size + 1 + 1 + 1 < _; omega)).set (b := ⟨w.heap.size + 1 + 1 + 1, 11, none⟩) (.int .i64 x1.n) (by show w.heap.size + 1 + 1 + 1 < _; omega)).set (b := ⟨w.heap.size + 1 + 1 + 1, 12, none⟩) (.slice ad1 x1.ks.length cap1) (by show w.heap.size + 1 + 1 + 1 < _; omega))
  replace hb := ((((bset3 hb (B := w.heap.size) (by omega) (.slice ad L.length cap) (.int .i64 (jc : Nat)) (.bool cc)).setCell (p := ⟨w.heap.size + 1 + 1 + 1, 10, none⟩) (by show w.heap.size ≤ w.heap.size + 1 + 1 + 1; omega) (.int .i64 x1.o)).setCell (p := ⟨w.heap.size + 1 + 1 + 1, 11, none⟩) (by show w.heap.size ≤ w.heap.size + 1 + 1 + 1; omega) (.int .i64 x1.n)).setCell (p := ⟨w.heap.size + 1 + 1 + 1, 12, none⟩) (by show w.heap.size ≤ w.heap.size + 1 + 1 + 1; omega) (.slice ad1 x1.ks.length cap1))
  replace rr : Own _ (w.heap.size + 1 + 1 + 1) [.int .i64 (n0 : Nat), .int .i64 (n1 : Nat), .int .i64 (n2 : Nat), .int .i64 (n3 : Nat), .int .i64 (n4 : Nat), .int .i64 (n5 : Nat), .int .i64 (n6 : Nat), .int .i64 (n7 : Nat), .int .i64 (kn' n8), .int .i64 (kd' n8), .int .i64 x1.o, .int .i64 x1.n, .slice ad1 x1.ks.length cap1, .int .i64 0, .int .i64 0, .slice none 0 0] := rr
  obtain ⟨wv, hwv⟩ : ∃ x, x = ((((set3 wd w.heap.size (.slice ad L.length cap) (.int .i64 (jc : Nat)) (.bool cc)).setCell ⟨w.heap.size + 1 + 1 + 1, 10, none⟩ (.int .i64 x1.o)).setCell ⟨w.heap.size + 1 + 1 + 1, 11, none⟩ (.int .i64 x1.n)).setCell ⟨w.heap.size + 1 + 1 + 1, 12, none⟩ (.slice ad1 x1.ks.length cap1)) := ⟨_, rfl⟩
  rw [← hwv] at op r1 r2 rr t1 hb
  try unfold set3 at hwv
  rw [← hwv]
  clear hwv
  go_cut [] (fun wx => ∃ (x2 : Xp) (je : Nat) (ce : Bool) (ad2 : Option Addr) (cap2 : Nat), SQ L rateI i [.lit wStop] ([leafE 1 n0, leafE 1 n1, leafE 1 n2, leafE 1 n3, leafE 1 n4, leafE 1 n5, leafE 1 n6, leafE 1 n7, leafE 1 n8, x1, x2]) je ce ∧ i ≤ je ∧ je ≤ L.length ∧ Own wx (w.heap.size) [.slice ad L.length cap, .int .i64 (je : Nat), .bool ce] ∧ Own wx (w.heap.size + 1) [.slice none 0 0, .int .i64 0, .bool false] ∧ Own wx (w.heap.size + 1 + 1) [.int .i64 0, .int .i64 0, .int .i64 0, .int .i64 0, .int .i64 0, .int .i64 0, .int .i64 0, .int .i64 0, .int .i64 0, .int .i64 0, .int .i64 0, .int .i64 0, .slice none 0 0, .int .i64 0, .int .i64 0, .slice none 0 0] ∧ Own wx (w.heap.size + 1 + 1 + 1) [.int .i64 (n0 : Nat), .int .i64 (n1 : Nat), .int .i64 (n2 : Nat), .int .i64 (n3 : Nat), .int .i64 (n4 : Nat), .int .i64 (n5 : Nat), .int .i64 (n6 : Nat), .int .i64 (n7 : Nat), .int .i64 (kn' n8), .int .i64 (kd' n8), .int .i64 x1.o, .int .i64 x1.n, .slice ad1 x1.ks.length cap1, .int .i64 x2.o, .int .i64 x2.n, .slice ad2 x2.ks.length cap2] ∧ Tree (Lo (w.heap.size + 1 + 1 + 1 + 1)) wx x1 (.agg #[.int .i64 x1.o, .int .i64 x1.n, .slice ad1 x1.ks.length cap1]) ∧ Tree (Lo (w.heap.size + 1 + 1 + 1 + 1)) wx x2 (.agg #[.int .i64 x2.o, .int .i64 x2.n, .slice ad2 x2.ks.length cap2]) ∧ Below w.heap.size w wx)
  case first =>
    obtain ⟨op0, op1, op2, op3, op4, op5, op6⟩ := op.three
    go_wp2_with fail
    clear op0 op1 op2 op3 op4 op5 op6
    refine (hM wPrice jc cc _ mc hb).mono ?_
    rintro e we ⟨jd, cd, rfl, hx, ld, md, gd, kd2⟩
    have sqd := sqc.lit md gd kd2
    clear gd kd2 sqc
    replace hb := hb.trans (hx.mono hb.size)
    replace op := op.below hx
    replace r1 := r1.below hx
    replace r2 := r2.below hx
    replace rr := rr.below hx
    replace t1 := t1.below hx
    have ywe := hb.size
    clear hx
    replace rr : Own we (w.heap.size + 1 + 1 + 1) [.int .i64 (n0 : Nat), .int .i64 (n1 : Nat), .int .i64 (n2 : Nat), .int .i64 (n3 : Nat), .int .i64 (n4 : Nat), .int .i64 (n5 : Nat), .int .i64 (n6 : Nat), .int .i64 (n7 : Nat), .int .i64 (kn' n8), .int .i64 (kd' n8), .int .i64 x1.o, .int .i64 x1.n, .slice ad1 x1.ks.length cap1, .int .i64 0, .int .i64 0, .slice none 0 0] := rr
    obtain ⟨op0, op1, op2, op3, op4, op5, op6⟩ := op.three
    go_wp2_with fail
    clear op0 op1 op2 op3 op4 op5 op6
    refine (hX jd cd _ md hb).mono ?_
    rintro e wf ⟨x2, je, ce, tv2, rfl, t2, hx, le, me, ge, ke⟩
    obtain ⟨ad2, cap2, rfl, -, -⟩ := t2.shape
    replace t2 := t2.lo (b := w.heap.size + 1 + 1 + 1 + 1) (by have := rr.lt; omega)
    have sqe := sqd.ex me le ge ke
    clear ge ke sqd
    replace hb := hb.trans (hx.mono hb.size)
    replace op := op.below hx
    replace r1 := r1.below hx
    replace r2 := r2.below hx
    replace rr := rr.below hx
    replace t1 := t1.below hx
    have ywf := hb.size
    clear hx
    replace rr : Own wf (w.heap.size + 1 + 1 + 1) [.int .i64 (n0 : Nat), .int .i64 (n1 : Nat), .int .i64 (n2 : Nat), .int .i64 (n3 : Nat), .int .i64 (n4 : Nat), .int .i64 (n5 : Nat), .int .i64 (n6 : Nat), .int .i64 (n7 : Nat), .int .i64 (kn' n8), .int .i64 (kd' n8), .int .i64 x1.o, .int .i64 x1.n, .slice ad1 x1.ks.length cap1, .int .i64 0, .int .i64 0, .slice none 0 0] := rr
    obtain ⟨op0, op1, op2, op3, op4, op5, op6⟩ := op.three
    have q0 := rr.cell 0 _ rfl
    have g0 := rr.fro 0 _ rfl
    have q1 := rr.cell 1 _ rfl
    have g1 := rr.fro 1 _ rfl
    have q2 := rr.cell 2 _ rfl
    have g2 := rr.fro 2 _ rfl
    have q3 := rr.cell 3 _ rfl
    have g3 := rr.fro 3 _ rfl
    have q4 := rr.cell 4 _ rfl
    have g4 := rr.fro 4 _ rfl
    have q5 := rr.cell 5 _ rfl
    have g5 := rr.fro 5 _ rfl
    have q6 := rr.cell 6 _ rfl
    have g6 := rr.fro 6 _ rfl
    have q7 := rr.cell 7 _ rfl
    have g7 := rr.fro 7 _ rfl
    have q8 := rr.cell 8 _ rfl
    have g8 := rr.fro 8 _ rfl
    have q9 := rr.cell 9 _ rfl
    have g9 := rr.fro 9 _ rfl
    have q10 := rr.cell 10 _ rfl
    have g10 := rr.fro 10 _ rfl
    have q11 := rr.cell 11 _ rfl
    have g11 := rr.fro 11 _ rfl
    have q12 := rr.cell 12 _ rfl
    have g12 := rr.fro 12 _ rfl
    have q13 := rr.cell 13 _ rfl
    have g13 := rr.fro 13 _ rfl
    have q14 := rr.cell 14 _ rfl
    have g14 := rr.fro 14 _ rfl
    have q15 := rr.cell 15 _ rfl
    have g15 := rr.fro 15 _ rfl
    have q16 := rr.lt
    go_wp2_with fail
    go_meet
    exact ⟨x2, je, ce, ad2, cap2, sqe, by omega, me, ((((op.put3 (.slice ad L.length cap) (.int .i64 (je : Nat)) (.bool ce)).setCell (p := ⟨w.heap.size + 1 + 1 + 1, 13, none⟩) (by simp <;> omega) (.int .i64 x2.o)).setCell (p := ⟨w.heap.size + 1 + 1 + 1, 14, none⟩) (by simp <;> omega) (.int .i64 x2.n)).setCell (p := ⟨w.heap.size + 1 + 1 + 1, 15, none⟩) (by simp <;> omega) (.slice ad2 x2.ks.length cap2)), ((((r1.off3 (B := w.heap.size) (by omega) (.slice ad L.length cap) (.int .i64 (je : Nat)) (.bool ce)).setCell (p := ⟨w.heap.size + 1 + 1 + 1, 13, none⟩) (by simp <;> omega) (.int .i64 x2.o)).setCell (p := ⟨w.heap.size + 1 + 1 + 1, 14, none⟩) (by simp <;> omega) (.int .i64 x2.n)).setCell (p := ⟨w.heap.size + 1 + 1 + 1, 15, none⟩) (by simp <;> omega) (.slice ad2 x2.ks.length cap2)), ((((r2.off3 (B := w.heap.size) (by omega) (.slice ad L.length cap) (.int .i64 (je : Nat)) (.bool ce)).setCell (p := ⟨w.heap.size + 1 + 1 + 1, 13, none⟩) (by simp <;> omega) (.int .i64 x2.o)).setCell (p := ⟨w.heap.size + 1 + 1 + 1, 14, none⟩) (by simp <;> omega) (.int .i64 x2.n)).setCell (p := ⟨w.heap.size + 1 + 1 + 1, 15, none⟩) (by simp <;> omega) (.slice ad2 x2.ks.length cap2)), ((((rr.off3 (B := w.heap.size) (by omega) (.slice ad L.length cap) (.int .i64 (je : Nat)) (.bool ce)).setAt (i := 13) (.int .i64 x2.o) (by simp)).setAt (i := 14) (.int .i64 x2.n) (by simp)).setAt (i := 15) (.slice ad2 x2.ks.length cap2) (by simp)), ((((t1.set3 (B := w.heap.size) (by show _ < _; omega) (.slice ad L.length cap) (.int .i64 (je : Nat)) (.bool ce)).set (b := ⟨w.heap.size + 1 + 1 + 1, 13, none⟩) (.int .i64 x2.o) (by show w.heap.size + 1 + 1 + 1 < _; omega)).set (b := ⟨w.heap.size + 1 + 1 + 1, 14, none⟩) (.int .i64 x2.n) (by show w.heap.size + 1 + 1 + 1 < _; omega)).set (b := ⟨w.heap.size + 1 + 1 + 1, 15, none⟩) (.slice ad2 x2.ks.length cap2) (by show w.heap.size + 1 + 1 + 1 < _; omega)), ((((t2.set3 (B := w.heap.size) (by show _ < _; omega) (.slice ad L.length cap) (.int .i64 (je : Nat)) (.bool ce)).set (b := ⟨w.heap.size + 1 + 1 + 1, 13, none⟩) (.int .i64 x2.o) (by show w.heap.size + 1 + 1 + 1 < _; omega)).set (b := ⟨w.heap.size + 1 + 1 + 1, 14, none⟩) (.int .i64 x2.n) (by show w.heap.size + 1 + 1 + 1 < _; omega)).set (b := ⟨w.heap.size + 1 + 1 + 1, 15, none⟩) (.slice ad2 x2.ks.length cap2) (by show w.heap.size + 1 + 1 + 1 < _; omega)), ((((bset3 hb (B := w.heap.size) (by omega) (.slice ad L.length cap) (.int .i64 (je : Nat)) (.bool ce)).setCell (p := ⟨w.heap.size + 1 + 1 + 1, 13, none⟩) (by show w.heap.size ≤ w.heap.size + 1 + 1 + 1; omega) (.int .i64 x2.o)).setCell (p := ⟨w.heap.size + 1 + 1 + 1, 14, none⟩) (by show w.heap.size ≤ w.heap.size + 1 + 1 + 1; omega) (.int .i64 x2.n)).setCell (p := ⟨w.heap.size + 1 + 1 + 1, 15, none⟩) (by show w.heap.size ≤ w.heap.size + 1 + 1 + 1; omega) (.slice ad2 x2.ks.length cap2))⟩
  case rest =>
    clear op r1 r2 rr t1 hb sqc hM hX hN
    clear yw1 yw2 yw3 yw4 yw5 yw6 yw7 yw8 yw9
    obtain ⟨x2, je, ce, ad2, cap2, sqe, le, me, op, r1, r2, rr, t1, t2, hb⟩ := hcut
    rename World => wg
    have ywg := hb.size
    obtain ⟨jf, cf, lf, mf, gf, kf, hMr⟩ := hMd je ce me
    have sqf := sqe.lit mf gf kf
    clear gf kf sqe hMd
    go_upto_region 16 with (fail)
    refine wp_region_held_drew (S := fun w2 => Own w2 w.heap.size [.slice ad L.length cap, .int .i64 (je : Nat), .bool ce] ∧ Own w2 (w.heap.size + 1 + 1 + 1) [.int .i64 (n0 : Nat), .int .i64 (n1 : Nat), .int .i64 (n2 : Nat), .int .i64 (n3 : Nat), .int .i64 (n4 : Nat), .int .i64 (n5 : Nat), .int .i64 (n6 : Nat), .int .i64 (n7 : Nat), .int .i64 (kn' n8), .int .i64 (kd' n8), .int .i64 x1.o, .int .i64 x1.n, .slice ad1 x1.ks.length cap1, .int .i64 x2.o, .int .i64 x2.n, .slice ad2 x2.ks.length cap2]) (by kernel_rfl) ⟨op.drew', rr.drew'⟩ (fun hHeld => ?_)
    refine wpAnyH_take (i := 0) (oi := ⟨_, .load _ _, _, _, _, _⟩) (v := .agg #[.slice ad L.length cap, .int .i64 (je : Nat), .bool ce]) rfl (by kernel_rfl) (by kernel_rfl) (by kernel_rfl) (fun _ _ _ h => h) (yieldsIf_load_mid rfl _ _ rfl w.heap.size 0 rfl [.slice ad L.length cap, .int .i64 (je : Nat), .bool ce] _ (fun w2 h => own_range h.1) Tryz.underlying67 rfl (by kernel_rfl)) hHeld ?_
    simp only [Act.put, List.setIfInBounds_toArray, List.set_cons_zero, List.set_cons_succ]
    refine wpAnyH_take (i := 2) (oi := ⟨_, .load _ _, _, _, _, _⟩) (v := .agg #[.int .i64 (n0 : Nat), .int .i64 (n1 : Nat), .int .i64 (n2 : Nat), .int .i64 (n3 : Nat), .int .i64 (n4 : Nat), .int .i64 (n5 : Nat), .int .i64 (n6 : Nat), .int .i64 (n7 : Nat), .int .i64 (kn' n8), .int .i64 (kd' n8), .int .i64 x1.o, .int .i64 x1.n, .slice ad1 x1.ks.length cap1, .int .i64 x2.o, .int .i64 x2.n, .slice ad2 x2.ks.length cap2]) rfl (by kernel_rfl) (by kernel_rfl) (by kernel_rfl) (fun _ _ _ h => h) (yieldsIf_load_mid rfl _ _ rfl (w.heap.size + 1 + 1 + 1) 0 rfl [.int .i64 (n0 : Nat), .int .i64 (n1 : Nat), .int .i64 (n2 : Nat), .int .i64 (n3 : Nat), .int .i64 (n4 : Nat), .int .i64 (n5 : Nat), .int .i64 (n6 : Nat), .int .i64 (n7 : Nat), .int .i64 (kn' n8), .int .i64 (kd' n8), .int .i64 x1.o, .int .i64 x1.n, .slice ad1 x1.ks.length cap1, .int .i64 x2.o, .int .i64 x2.n, .slice ad2 x2.ks.length cap2] _ (fun w2 h => own_range h.2) Tryz.underlying52 rfl (by kernel_rfl)) hHeld ?_
    simp only [Act.put, List.setIfInBounds_toArray, List.set_cons_zero, List.set_cons_succ]
    refine wpAnyH_ready (rs := [1]) (by kernel_rfl) (by simp) ?_
    refine AllReadyH.cons (o := ⟨_, .call _, _, _, _, _⟩) rfl (fun K hK => ?_) AllReadyH.nil
    go_simp
    go_at_call 49
    refine (hMr _ (hb.trans (drB' _ hb.size))).mono ?_
    rintro e wh ⟨rfl, hx⟩
    replace hb := (hb.trans (drB' _ hb.size)).trans (hx.mono (hb.trans (drB' _ hb.size)).size)
    replace op := op.drew'.below hx
    replace r1 := r1.drew'.below hx
    replace r2 := r2.drew'.below hx
    replace rr := rr.drew'.below hx
    replace t1 := t1.drew.below hx
    replace t2 := t2.drew.below hx
    clear hx hHeld hMr
    have yh := hb.size
    go_wp2_with fail
    refine hK.out _ _ ⟨op, rr⟩ (fun hHeld => ?_)
    clear hK K
    try simp only [Act.put, List.setIfInBounds_toArray, List.set_cons_zero, List.set_cons_succ]
    obtain ⟨a0, a1, a2, a3, a4, a5, a6⟩ := r1.three
    refine wpAnyH_ready (rs := [3]) (by kernel_rfl) (by simp) ?_
    refine AllReadyH.cons (o := ⟨_, .store _ _ _, _, _, _, _⟩) rfl (fun K hK => ?_) AllReadyH.nil
    go_simp
    replace op := (op.off3 (B := w.heap.size + 1) (by omega) (.slice ad L.length cap) (.int .i64 (jf : Nat)) (.bool cf))
    replace r1 := (r1.put3 (.slice ad L.length cap) (.int .i64 (jf : Nat)) (.bool cf))
    replace r2 := (r2.off3 (B := w.heap.size + 1) (by omega) (.slice ad L.length cap) (.int .i64 (jf : Nat)) (.bool cf))
    replace rr := (rr.off3 (B := w.heap.size + 1) (by omega) (.slice ad L.length cap) (.int .i64 (jf : Nat)) (.bool cf))
    replace t1 := (t1.set3 (B := w.heap.size + 1) (by show _ < _; omega) (.slice ad L.length cap) (.int .i64 (jf : Nat)) (.bool cf))
    replace t2 := (t2.set3 (B := w.heap.size + 1) (by show _ < _; omega) (.slice ad L.length cap) (.int .i64 (jf : Nat)) (.bool cf))
    replace hb := (bset3 hb (B := w.heap.size + 1) (by omega) (.slice ad L.length cap) (.int .i64 (jf : Nat)) (.bool cf))
    refine hK.out _ _ ⟨op, rr⟩ (fun hHeld => ?_)
    clear hK K a0 a1 a2 a3 a4 a5 a6
    try simp only [Act.put, List.setIfInBounds_toArray, List.set_cons_zero, List.set_cons_succ]
    refine wpAnyH_ready (rs := [4]) (by kernel_rfl) (by simp) ?_
    refine AllReadyH.cons (o := ⟨_, .store _ _ _, _, _, _, _⟩) rfl (fun K hK => ?_) AllReadyH.nil
    rw [if_pos (by rfl)]
    refine wp_store_mid _ _ _ rfl (w.heap.size + 1 + 1) 0 (List.toArray [.int .i64 (n0 : Nat), .int .i64 (n1 : Nat), .int .i64 (n2 : Nat), .int .i64 (n3 : Nat), .int .i64 (n4 : Nat), .int .i64 (n5 : Nat), .int .i64 (n6 : Nat), .int .i64 (n7 : Nat), .int .i64 (kn' n8), .int .i64 (kd' n8), .int .i64 x1.o, .int .i64 x1.n, .slice ad1 x1.ks.length cap1, .int .i64 x2.o, .int .i64 x2.n, .slice ad2 x2.ks.length cap2]) rfl rfl (own_there (n := 16) r2 rfl) (by kernel_rfl) (all_oneCell_toArray (by intro u hu; simp only [List.mem_cons, List.not_mem_nil, or_false] at hu; rcases hu with rfl | rfl | rfl | rfl | rfl | rfl | rfl | rfl | rfl | rfl | rfl | rfl | rfl | rfl | rfl | rfl <;> rfl)) ?_
    rw [setCells_is]
    refine hK.out _ _ ⟨Own.offN (B := w.heap.size + 1 + 1) (by omega) (vs := [.int .i64 (n0 : Nat), .int .i64 (n1 : Nat), .int .i64 (n2 : Nat), .int .i64 (n3 : Nat), .int .i64 (n4 : Nat), .int .i64 (n5 : Nat), .int .i64 (n6 : Nat), .int .i64 (n7 : Nat), .int .i64 (kn' n8), .int .i64 (kd' n8), .int .i64 x1.o, .int .i64 x1.n, .slice ad1 x1.ks.length cap1, .int .i64 x2.o, .int .i64 x2.n, .slice ad2 x2.ks.length cap2]) (o := 0) op, Own.offN (B := w.heap.size + 1 + 1) (by omega) (vs := [.int .i64 (n0 : Nat), .int .i64 (n1 : Nat), .int .i64 (n2 : Nat), .int .i64 (n3 : Nat), .int .i64 (n4 : Nat), .int .i64 (n5 : Nat), .int .i64 (n6 : Nat), .int .i64 (n7 : Nat), .int .i64 (kn' n8), .int .i64 (kd' n8), .int .i64 x1.o, .int .i64 x1.n, .slice ad1 x1.ks.length cap1, .int .i64 x2.o, .int .i64 x2.n, .slice ad2 x2.ks.length cap2]) (o := 0) rr⟩ (fun hHeld2 => ?_)
    refine wpAnyH_done (by kernel_rfl) ?_ _
    try simp only [Act.put, List.setIfInBounds_toArray, List.set_cons_zero, List.set_cons_succ]
    try go_wp2_with fail
    refine bodyPost_ret (results_cc rfl rfl rfl (loadVar_at (vs := [.slice ad L.length cap, .int .i64 (jf : Nat), .bool cf]) Tryz.underlying67 rfl (by kernel_rfl) (Own.offN (by omega) (vs := [.int .i64 (n0 : Nat), .int .i64 (n1 : Nat), .int .i64 (n2 : Nat), .int .i64 (n3 : Nat), .int .i64 (n4 : Nat), .int .i64 (n5 : Nat), .int .i64 (n6 : Nat), .int .i64 (n7 : Nat), .int .i64 (kn' n8), .int .i64 (kd' n8), .int .i64 x1.o, .int .i64 x1.n, .slice ad1 x1.ks.length cap1, .int .i64 x2.o, .int .i64 x2.n, .slice ad2 x2.ks.length cap2]) (o := 0) r1)) (loadVar_at (vs := [.int .i64 (n0 : Nat), .int .i64 (n1 : Nat), .int .i64 (n2 : Nat), .int .i64 (n3 : Nat), .int .i64 (n4 : Nat), .int .i64 (n5 : Nat), .int .i64 (n6 : Nat), .int .i64 (n7 : Nat), .int .i64 (kn' n8), .int .i64 (kd' n8), .int .i64 x1.o, .int .i64 x1.n, .slice ad1 x1.ks.length cap1, .int .i64 x2.o, .int .i64 x2.n, .slice ad2 x2.ks.length cap2]) Tryz.underlying52 rfl (by kernel_rfl) (r2.putN (vs := [.int .i64 (n0 : Nat), .int .i64 (n1 : Nat), .int .i64 (n2 : Nat), .int .i64 (n3 : Nat), .int .i64 (n4 : Nat), .int .i64 (n5 : Nat), .int .i64 (n6 : Nat), .int .i64 (n7 : Nat), .int .i64 (kn' n8), .int .i64 (kd' n8), .int .i64 x1.o, .int .i64 x1.n, .slice ad1 x1.ks.length cap1, .int .i64 x2.o, .int .i64 x2.n, .slice ad2 x2.ks.length cap2]) rfl))) rfl ?_
    refine ⟨⟨n0, n1, n2, n3, n4, n5, n6, n7, n8, x1, x2⟩, jf, cf, _, rfl, ⟨ad1, cap1, ad2, cap2, ?_, (Tree.setN (B := w.heap.size + 1 + 1) (by show _ < _; omega) (vs := [.int .i64 (n0 : Nat), .int .i64 (n1 : Nat), .int .i64 (n2 : Nat), .int .i64 (n3 : Nat), .int .i64 (n4 : Nat), .int .i64 (n5 : Nat), .int .i64 (n6 : Nat), .int .i64 (n7 : Nat), .int .i64 (kn' n8), .int .i64 (kd' n8), .int .i64 x1.o, .int .i64 x1.n, .slice ad1 x1.ks.length cap1, .int .i64 x2.o, .int .i64 x2.n, .slice ad2 x2.ks.length cap2]) (o := 0) t1).lo (by omega), (Tree.setN (B := w.heap.size + 1 + 1) (by show _ < _; omega) (vs := [.int .i64 (n0 : Nat), .int .i64 (n1 : Nat), .int .i64 (n2 : Nat), .int .i64 (n3 : Nat), .int .i64 (n4 : Nat), .int .i64 (n5 : Nat), .int .i64 (n6 : Nat), .int .i64 (n7 : Nat), .int .i64 (kn' n8), .int .i64 (kd' n8), .int .i64 x1.o, .int .i64 x1.n, .slice ad1 x1.ks.length cap1, .int .i64 x2.o, .int .i64 x2.n, .slice ad2 x2.ks.length cap2]) (o := 0) t2).lo (by omega)⟩, Go.Proofs.YthnlenbfknbmcaaGreatDoor.Below.setN (B := w.heap.size + 1 + 1) (by omega) (vs := [.int .i64 (n0 : Nat), .int .i64 (n1 : Nat), .int .i64 (n2 : Nat), .int .i64 (n3 : Nat), .int .i64 (n4 : Nat), .int .i64 (n5 : Nat), .int .i64 (n6 : Nat), .int .i64 (n7 : Nat), .int .i64 (kn' n8), .int .i64 (kd' n8), .int .i64 x1.o, .int .i64 x1.n, .slice ad1 x1.ks.length cap1, .int .i64 x2.o, .int .i64 x2.n, .slice ad2 x2.ks.length cap2]) (o := 0) hb, by omega, mf, fun h => sqf.bad h, fun h => sqf.done h⟩
    unfold rateC Rt.kn Rt.kd
    rw [← ekn.out, ← ekd.out]
end Go.Proofs.YthnlenbfknbmcaaGreatDoor
