/-
  The reference's small functions on lists of spans, and span.Count, Weekday, one.
-/
import Derived.Test.YtfhhkbijcleedaaSpanA
import Derived.Laws.StructEq
import Derived.KernelRfl
namespace Go.Proofs.Ytfhhkbijcleedaa
open Go.RowKit

theorem neq_span (a b c d : Int) (w : World) : (binOp .neq 42 (.agg #[.int .i64 a, .int .i64 b]) (.agg #[.int .i64 c, .int .i64 d])).run Try.prog w = .ok (.bool (!(a == c && b == d))) w := by
  have hu : Try.prog.underlying 42 = some (.struct (Try.prog.fieldsOf 42)) := by kernel_rfl
  have hh : Try.prog.stoodInHeld 42 = false := by kernel_rfl
  simp only [binOp]
  by_cases h1 : a = c <;> by_cases h2 : b = d <;> simp [Op.equal, Op.maxDepth, run_equalIn_struct _ _ _ _ _ hu hh, Op.eqFields, go_sem, h1, h2]

def isIn (n : Int) (s : Sp) : Bool := decide (s.1 ≤ n) && decide (n < s.2)
def has (l : List Sp) (n : Int) : Bool := l.any (isIn n)
def deep : List Sp → Int → Int
  | [], _ => 0
  | s :: l, n => (if isIn n s then 1 else 0) + deep l n
def cnt : List Sp → Int
  | [] => 0
  | s :: l => (s.2 - s.1) + cnt l
theorem has_cons (s : Sp) (l : List Sp) (n : Int) : has (s :: l) n = (isIn n s || has l n) := rfl

set_option maxHeartbeats 400000 in
theorem refSpan_any (s : Sp) (w : World) : Calls Try.prog 31 #[.agg #[.int .i64 s.1, .int .i64 s.2]] w (Ret (.bool (wf s)) w) := by
  go_enter Try.func31, Try.ntmps31
  go_wp2_with fail
  all_goals go_ret
  all_goals refine Ret.mk ?_ (by (repeat (first | exact Below.refl _ _ | assumption | refine Below.drew ?_ | refine below_drewN ?_ _ | refine Below.setCell ?_ (by first | omega | (simp <;> omega)) _ | refine Below.alloc ?_ (by first | omega | (simp <;> omega)) _)))
  all_goals (simp [wf]; try omega)

theorem okFrom_all : ∀ (l : List Sp) (x : Int), okFrom x l = true → ∀ s ∈ l, wf s = true
  | [], _, _, s, hs => by cases hs
  | t :: l, x, h, s, hs => by
    simp only [okFrom, Bool.and_eq_true] at h
    rcases List.mem_cons.1 hs with rfl | hs
    · exact h.1.1
    · exact okFrom_all l _ h.2 s hs
theorem valid_all {l : List Sp} (h : valid l = true) : ∀ s ∈ l, 0 ≤ s.1 ∧ s.1 < s.2 ∧ s.2 ≤ 1000000000 := by
  intro s hs
  simp only [valid, Bool.and_eq_true] at h
  have := okFrom_all l _ h.2 s hs
  simp [wf] at this; omega
theorem valid_len {l : List Sp} (h : valid l = true) : l.length ≤ 1000 := by
  simp only [valid, Bool.and_eq_true, decide_eq_true_eq] at h; exact h.1

set_option maxHeartbeats 1600000 in
theorem refValid_any (v : Value) (l : List Sp) (w : World) (h : Spans w v l) : Calls Try.prog 12 #[v] w (Ret (.bool (valid l)) w) := by
  obtain ⟨ad, cap, rfl, hc⟩ := h.open
  have hlen := h.short
  have hints := h.ints
  clear h
  go_enter Try.func12, Try.ntmps12
  go_wp2_with fail
  go_loopw [3] (fun i wr => ∃ k : Nat, ∃ last : Int, k ≤ l.length ∧ i = .int .i64 k ∧ (k = 0 → last = -1) ∧ (∀ j, k = j + 1 → ∃ h : j < l.length, last = (l[j]).2) ∧ okFrom (-1) l = okFrom last (l.drop k) ∧ Below w.heap.size w wr)
    (fun i _ => l.length - (intOf i).toNat)
  case atStart => exact ⟨0, -1, by omega, rfl, fun _ => rfl, fun j hj => by omega, by simp, Below.refl _ _⟩
  case round =>
    obtain ⟨k, last, hk, rfl, hl0, hl1, hv, hb⟩ := hrel
    by_cases hkl : k < l.length
    · obtain ⟨a, rfl, hab, hc0, hc1⟩ := hc k hkl
      have hr0 := (hb.cell (p := a.add (k * 2)) (by rw [blk_add]; exact hab)).trans hc0
      have hr1 := (hb.cell (p := a.add (k * 2 + 1)) (by rw [blk_add]; exact hab)).trans hc1
      rw [add_succ] at hr1
      rw [drop_cons hkl] at hv
      have hnext : ∃ h : k < l.length, (l[k]).2 = (l[k]).2 := ⟨hkl, rfl⟩
      have hs0 : l[k] = ((l[k]).1, (l[k]).2) := rfl
      generalize hs : l[k] = s at hr0 hr1 hv
      have hw := fun w' => refSpan_any s w'
      cases hwf : wf s with
      | false =>
        simp only [hwf] at hw
        rw [okFrom, hwf, Bool.false_and, Bool.false_and] at hv
        go_wp2_with (go_at_call 31; refine (hw _).mono ?_; rintro e w2 ⟨rfl, hx⟩)
        go_quiet (fail)
        go_wp2_with fail
        go_ret
        exact Ret.mk (by simp [valid, hv]) (below_drewN (hb.trans (hx.mono hb.size)) nq)
      | true =>
        simp only [hwf] at hw
        rw [okFrom, hwf, Bool.true_and] at hv
        rcases k with _ | j
        · obtain rfl := hl0 rfl
          have e0 : a.add (0 * 2) = a := rfl
          rw [e0] at hr0 hr1
          have h0 : (-1 : Int) < s.1 := by simp [wf] at hwf; omega
          simp only [h0, decide_true, Bool.true_and] at hv
          go_wp2_with (go_at_call 31; refine (hw _).mono ?_; rintro e w2 ⟨rfl, hx⟩)
          go_quiet (fail)
          go_wp2_with fail
          go_roundw
          case rel => exact ⟨1, s.2, by omega, by go_num, fun h => by omega, fun j' hj' => (by obtain rfl : j' = 0 := (by omega); exact ⟨hkl, by rw [hs]⟩), hv, below_drewN (hb.trans (hx.mono hb.size)) nq⟩
          case measure => simp [intOf]; omega
        · obtain ⟨hj, hlast⟩ := hl1 j rfl
          obtain ⟨a', ha', _, _, hp1⟩ := hc j hj
          cases ha'
          have hq1 := (hb.cell (p := a.add (j * 2 + 1)) (by rw [blk_add]; exact hab)).trans hp1
          rw [add_succ, ← hlast] at hq1
          clear hlast hp1
          by_cases hlt : last < s.1
          · simp only [hlt, decide_true, Bool.true_and] at hv
            go_wp2_with (go_at_call 31; refine (hw _).mono ?_; rintro e w2 ⟨rfl, hx⟩; have hr2 := (hx.cell (p := a.add ((j + 1) * 2)) (by rw [blk_add]; have := hb.size; omega)).trans hr0; have hq2 := (hx.cell (p := { block := (a.add (j * 2)).block, off := (a.add (j * 2)).off + 1 }) (by simp only [blk_add]; have := hb.size; omega)).trans hq1)
            go_quiet (fail)
            go_wp2_with fail
            go_roundw
            case rel => exact ⟨j + 1 + 1, s.2, by omega, by go_num, fun h => by omega, fun j' hj' => (by obtain rfl : j' = j + 1 := (by omega); exact ⟨hkl, by rw [hs]⟩), hv, below_drewN (hb.trans (hx.mono hb.size)) nq⟩
            case measure => simp [intOf]; omega
          · simp only [hlt, decide_false, Bool.false_and] at hv
            go_wp2_with (go_at_call 31; refine (hw _).mono ?_; rintro e w2 ⟨rfl, hx⟩; have hr2 := (hx.cell (p := a.add ((j + 1) * 2)) (by rw [blk_add]; have := hb.size; omega)).trans hr0; have hq2 := (hx.cell (p := { block := (a.add (j * 2)).block, off := (a.add (j * 2)).off + 1 }) (by simp only [blk_add]; have := hb.size; omega)).trans hq1)
            go_quiet (fail)
            go_wp2_with fail
            go_ret
            exact Ret.mk (by simp [valid, hv]) (below_drewN (hb.trans (hx.mono hb.size)) nq)
    · go_wp2_with fail
      go_ret
      refine Ret.mk ?_ hb
      rw [show valid l = (decide (l.length ≤ 1000) && okFrom (-1) l) from rfl, hv, List.drop_eq_nil_of_le (by omega)]
      simp [okFrom]; omega
end Go.Proofs.Ytfhhkbijcleedaa
