/-
  Which expressions are well-formed: the program's Valid, the reference's Size and Valid, the law's left and few.
-/
import Derived.Test.YtbkcpcjdpfndpaaParTree
import Derived.Test.YtbkcpcjdpfndpaaParRates
import Derived.Test.YtbkcpcjdpfndpaaProg
namespace Go.Proofs.Ytbkcpcjdpfndpaa
open Go.RowKit Go.Shelf
set_option maxRecDepth 100000

theorem okE_mk (o n : Int) (l : List Xp) : okE (.mk o n l) = (nodeB o n l.length && okL l) := by simp only [okE]
theorem cntE_mk (o n : Int) (l : List Xp) : cntE (.mk o n l) = 1 + cntL l := by simp only [cntE]
theorem depE_mk (o n : Int) (l : List Xp) : depE (.mk o n l) = 1 + depL l := by simp only [depE]
theorem okL_snoc : ∀ (l : List Xp) (e : Xp), okL (l ++ [e]) = (okL l && okE e)
  | [], e => by simp [okL]
  | x :: l, e => by simp only [List.cons_append, okL, okL_snoc l e, Bool.and_assoc]
theorem cntL_snoc : ∀ (l : List Xp) (e : Xp), cntL (l ++ [e]) = cntL l + cntE e
  | [], e => by simp [cntL]
  | x :: l, e => by simp only [List.cons_append, cntL, cntL_snoc l e]; omega
theorem depL_snoc : ∀ (l : List Xp) (e : Xp), depL (l ++ [e]) = max (depL l) (depE e)
  | [], e => by simp [depL]
  | x :: l, e => by simp only [List.cons_append, depL, depL_snoc l e]; omega
theorem okL_mem : ∀ {l : List Xp}, okL l = true → ∀ e ∈ l, okE e = true
  | x :: l, h, e, he => by
    simp only [okL, Bool.and_eq_true] at h
    rcases List.mem_cons.1 he with rfl | he
    · exact h.1
    · exact okL_mem h.2 e he
theorem cntL_app : ∀ (a b : List Xp), cntL (a ++ b) = cntL a + cntL b
  | [], b => by simp [cntL]
  | x :: a, b => by simp only [List.cons_append, cntL, cntL_app a b]; omega
theorem depL_mem : ∀ {l : List Xp} (e : Xp), e ∈ l → depE e ≤ depL l
  | x :: l, e, he => by
    simp only [depL]
    rcases List.mem_cons.1 he with rfl | he
    · omega
    · have := depL_mem e he; omega
theorem cnt_pos (e : Xp) : 1 ≤ cntE e := by cases e; rw [cntE_mk]; omega
theorem dep_pos (e : Xp) : 1 ≤ depE e := by cases e; rw [depE_mk]; omega
/-- so far, with a kid more: at most what the whole has -/
theorem cnt_at {l : List Xp} {k : Nat} (hk : k < l.length) : cntL (l.take (k + 1)) = cntL (l.take k) + cntE l[k] ∧ cntL (l.take (k + 1)) ≤ cntL l := by
  refine ⟨by rw [List.take_succ_eq_append_getElem hk, cntL_snoc], ?_⟩
  have := cntL_app (l.take (k + 1)) (l.drop (k + 1))
  rw [List.take_append_drop] at this
  omega
theorem dep_at {l : List Xp} {k : Nat} (hk : k < l.length) : depL (l.take (k + 1)) = max (depL (l.take k)) (depE l[k]) ∧ depE l[k] ≤ depL l :=
  ⟨by rw [List.take_succ_eq_append_getElem hk, depL_snoc], depL_mem _ (List.getElem_mem hk)⟩
theorem ok_at {l : List Xp} {k : Nat} (hk : k < l.length) : okL (l.take (k + 1)) = (okL (l.take k) && okE l[k]) := by rw [List.take_succ_eq_append_getElem hk, okL_snoc]

/-! ### A node by itself -/
theorem xin_any (n a b : Int) (w : World) : Calls Try.prog 53 #[.int .i64 n, .int .i64 a, .int .i64 b] w (Same (.bool (decide (a ≤ n) && decide (n ≤ b))) w) := by
  by_cases h : a ≤ n
  · go_enter Try.func53, Try.ntmps53
    go_wp2_with fail
    go_ret
    exact Same.mk (boolV (by simp [h])) rfl
  · have h' : decide (a ≤ n) = false := by simpa using h
    go_enter Try.func53, Try.ntmps53
    go_wp2_with fail
    go_ret
    exact Same.mk (boolV (by simp)) rfl
end Go.Proofs.Ytbkcpcjdpfndpaa
