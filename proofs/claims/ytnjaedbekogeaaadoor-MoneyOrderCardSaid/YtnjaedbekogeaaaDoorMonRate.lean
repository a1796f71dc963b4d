/-
  The law's search for a rate; a conversion's three cases; the nearest integer.
-/
import Derived.Test.YtnjaedbekogeaaaDoorMonHead
namespace Go.Proofs.YtnjaedbekogeaaaDoor
open Go.RowKit Go.Shelf
set_option maxRecDepth 100000

def rateT (r : Option Ex) : (Int × Int) × Bool := match r with | none => ((0, 0), false) | some x => ((x.n, x.d), true)
def rateV (r : Option Ex) : Value := .tuple #[.agg #[.int .i64 (rateT r).1.1, .int .i64 (rateT r).1.2], .bool (rateT r).2]
theorem rateV.eq {a b : Int} {e : Bool} {r : Option Ex} (h : rateT r = ((a, b), e)) : Value.tuple #[.agg #[.int .i64 a, .int .i64 b], .bool e] = rateV r := by unfold rateV; rw [h]

set_option maxHeartbeats 1000000 in
theorem rate_any (v : Value) (l : List Ex) (k to : Int) (w : World) (h : Exs w v l) : Calls Tryd.prog 21 #[v, .int .i64 k, .int .i64 to] w (Ret (rateV (rateOf l k to)) w) := by
  have hlen := h.short
  obtain ⟨ad, cap, hsl, hc1⟩ := h.open
  subst hsl
  clear hc1
  have oR := Own.new w #[.int .i64 0, .int .i64 0] 40
  have hb0 : Below w.heap.size w (w.alloc (.cells #[.int .i64 0, .int .i64 0] 40)) := (Below.refl _ _).alloc (Nat.le_refl _) _
  go_enter Tryd.func21, Tryd.ntmps21
  go_wp2_with fail
  generalize hw1 : w.alloc (.cells #[.int .i64 0, .int .i64 0] 40) = w1 at *
  clear hw1
  go_loopw [12] (fun i wr => ∃ j : Nat, j ≤ l.length ∧ i = .int .i64 j ∧ rateOf l k to = rateOf (l.drop j) k to ∧ Below w1.heap.size w1 wr)
    (fun i _ => l.length - (intOf i).toNat)
  case atStart => exact ⟨0, by omega, rfl, by simp, Below.refl _ _⟩
  case round =>
    obtain ⟨j, hj, rfl, hnone, hb3⟩ := hrel
    have hb4 := hb0.trans (hb3.mono hb0.size)
    replace oR := oR.below hb3
    obtain ⟨r0, r1, q0, q1, zR⟩ := oR.two
    by_cases hjl : j < l.length
    · obtain ⟨a, rfl, hr0, hr1, hr2, hr3⟩ := h.reads hb4 (Nat.le_refl _) j hjl
      have qk : decide ((j : Int) < l.length) = true := by rw [decide_eq_true_iff]; omega
      rw [xdrop_cons hjl] at hnone
      generalize l[j] = x at hr0 hr1 hr2 hr3 hnone
      obtain ⟨f, t, n, d⟩ := x
      simp only at hr0 hr1 hr2 hr3
      by_cases e1 : f = k
      · have t1 : (f == k) = true := by simpa using e1
        by_cases e2 : t = to
        · have t2 : (t == to) = true := by simpa using e2
          have HF : Hid (rateT (rateOf l k to) = ((n, d), true)) := Lib.hid (by rw [hnone]; simp [rateOf, keyB, e1, e2, rateT])
          clear e1 e2 hnone
          go_wp2_with fail
          refine bodyPost_ret (v := .tuple #[.agg #[.int .i64 n, .int .i64 d], .bool true]) (by simp [results, Tryd.results21, go_sem, zR, r0, r1]) rfl (Ret.mk (rateV.eq HF.out) ?_)
          (repeat (first | exact Below.refl _ _ | assumption | refine Below.drew ?_ | refine below_drewN ?_ _ | refine Below.setCell ?_ (by first | omega | (simp <;> omega)) _ | refine Below.alloc ?_ (by first | omega | (simp <;> omega)) _))
        · have t2 : (t == to) = false := by simpa using e2
          have hne : Hid (rateOf l k to = rateOf (l.drop (j + 1)) k to) := Lib.hid (by rw [hnone]; simp [rateOf, keyB, e2])
          clear e1 e2 hnone
          go_wp2_with fail
          go_roundw
          case rel => exact ⟨j + 1, by omega, by go_num, hne.out, hb3.alloc hb3.size _⟩
          case measure => simp [intOf]; omega
      · have t1 : (f == k) = false := by simpa using e1
        have hne : Hid (rateOf l k to = rateOf (l.drop (j + 1)) k to) := Lib.hid (by rw [hnone]; simp [rateOf, keyB, e1])
        clear e1 hnone
        go_wp2_with fail
        go_roundw
        case rel => exact ⟨j + 1, by omega, by go_num, hne.out, hb3.alloc hb3.size _⟩
        case measure => simp [intOf]; omega
    · have qk : decide ((j : Int) < l.length) = false := by rw [decide_eq_false_iff_not]; omega
      have HF : Hid (rateT (rateOf l k to) = ((0, 0), false)) := Lib.hid (by rw [hnone, List.drop_eq_nil_of_le (by omega)]; rfl)
      clear hnone
      go_wp2_with fail
      refine bodyPost_ret (v := .tuple #[.agg #[.int .i64 0, .int .i64 0], .bool false]) (by simp [results, Tryd.results21, go_sem, r0, r1]) rfl (Ret.mk (rateV.eq HF.out) ?_)
      (repeat (first | exact Below.refl _ _ | assumption | refine Below.drew ?_ | refine below_drewN ?_ _ | refine Below.setCell ?_ (by first | omega | (simp <;> omega)) _ | refine Below.alloc ?_ (by first | omega | (simp <;> omega)) _))

/-- the three ends of a conversion -/
theorem conv_cases (l : List Ex) (c k to : Int) : (∃ e : Int, e ≠ 0 ∧ convF l c k to = ((0, 0), e)) ∨ (k = to ∧ wthB c 1000000000 = true ∧ convF l c k to = ((c, k), 0)) ∨
    (k ≠ to ∧ ∃ x, rateOf l k to = some x ∧ exB x = true ∧ wthB c 1000000000 = true ∧ wthB (rndF (c * x.n) x.d 3) 1000000000 = true ∧ convF l c k to = ((rndF (c * x.n) x.d 3, to), 0)) := by
  by_cases h : (vldX l && wthB c 1000000000 && cur k && cur to) = true
  · have hc : wthB c 1000000000 = true := by simp only [Bool.and_eq_true] at h; exact h.1.1.2
    have hv : vldX l = true := by simp only [Bool.and_eq_true] at h; exact h.1.1.1
    by_cases he : k = to
    · exact .inr (.inl ⟨he, hc, by unfold convF; rw [if_pos h, if_pos he]⟩)
    · cases hr : rateOf l k to with
      | none => exact .inl ⟨4, by decide, by unfold convF; rw [if_pos h, if_neg he, hr]⟩
      | some x =>
        cases hw : wthB (rndF (c * x.n) x.d 3) 1000000000 with
        | false => exact .inl ⟨3, by decide, by unfold convF; rw [if_pos h, if_neg he, hr]; simp only [hw]; rfl⟩
        | true => exact .inr (.inr ⟨he, x, rfl, vldX_rate hv hr, hc, hw, by unfold convF; rw [if_pos h, if_neg he, hr]; simp only [hw]; rfl⟩)
  · exact .inl ⟨1, by decide, by unfold convF; rw [if_neg h]⟩

theorem rnd_near (m d : Int) (hd : 1 ≤ d) : 2 * (rndF m d 3 * d - m) ≤ d ∧ -d ≤ 2 * (rndF m d 3 * d - m) ∧ (2 * (rndF m d 3 * d - m) = d ∨ 2 * (rndF m d 3 * d - m) = -d → rndF m d 3 % 2 = 0) := by
  have hb := div_bd m d hd
  unfold rndF
  have e : (m / d + 1) * d = m / d * d + d := by rw [Int.add_mul, Int.one_mul]
  split
  · next h =>
    rw [e]
    refine ⟨by omega, by omega, fun h2 => by omega⟩
  · next h =>
    refine ⟨by omega, by omega, fun h2 => by omega⟩
end Go.Proofs.YtnjaedbekogeaaaDoor
