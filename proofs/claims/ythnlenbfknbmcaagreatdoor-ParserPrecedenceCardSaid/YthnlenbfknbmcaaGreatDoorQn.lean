/-
  Which expressions are well-formed: the program's Valid, the reference's Size and Valid, the law's left and few.
-/
import Derived.Test.YthnlenbfknbmcaaGreatDoorQi
import Derived.Test.YthnlenbfknbmcaaGreatDoorQg
import Derived.Test.YthnlenbfknbmcaaGreatDoorProg
import Derived.Test.YthnlenbfknbmcaaGreatDoorQd
namespace Go.Proofs.YthnlenbfknbmcaaGreatDoor
open Go.RowKit Go.Shelf
set_option maxRecDepth 100000

theorem okE_mk (o n : Int) (l : List Xp) : okE (.mk o n l) = (nodeB o n l.length && okL l) := by simp only [okE]
theorem cntE_mk (o n : Int) (l : List Xp) : cntE (.mk o n l) = 1 + cntL l := by simp only [cntE]
theorem depE_mk (o n : Int) (l : List Xp) : depE (.mk o n l) = 1 + depL l := by simp only [depE]
theorem okL_snoc : ∀ (l : List Xp) (e : Xp), okL (l ++ [e]) = (okL l && okE e)
  | [], e => by simp [okL]
  | x :: l, e => by simp only [List.cons_append, okL, okL_snoc l e, Bool.and_assoc]
theorem cntL_snoc : ∀ (l : List Xp) (e : Xp), cntL (l ++ [e]) = cntL l + cntE e
  | [], e => by simp [cntL]
  | x :: l, e => by simp only [List.cons_append, cntL, cntL_snoc l e]; omega
theorem depL_snoc : ∀ (l : List Xp) (e : Xp), depL (l ++ [e]) = max (depL l) (depE e)
  | [], e => by simp [depL]
  | x :: l, e => by simp only [List.cons_append, depL, depL_snoc l e]; omega
theorem okL_mem : ∀ {l : List Xp}, okL l = true → ∀ e ∈ l, okE e = true
  | x :: l, h, e, he => by
    simp only [okL, Bool.and_eq_true] at h
    rcases List.mem_cons.1 he with rfl | he
    · exact h.1
    · exact okL_mem h.2 e he
theorem cntL_app : ∀ (a b : List Xp), cntL (a ++ b) = cntL a + cntL b
  | [], b => by simp [cntL]
  | x :: a, b => by simp only [List.cons_append, cntL, cntL_app a b]; omega
theorem depL_mem : ∀ {l : List Xp} (e : Xp), e ∈ l → depE e ≤ depL l
  | x :: l, e, he => by
    simp only [depL]
    rcases List.mem_cons.1 he with rfl | he
    · omega
    · have := depL_mem e he; omega
theorem cnt_pos (e : Xp) : 1 ≤ cntE e := by cases e; rw [cntE_mk]; omega
theorem dep_pos (e : Xp) : 1 ≤ depE e := by cases e; rw [depE_mk]; omega
/-- so far, with a kid more: at most what the whole has -/
theorem cnt_at {l : List Xp} {k : Nat} (hk : k < l.length) : cntL (l.take (k + 1)) = cntL (l.take k) + cntE l[k] ∧ cntL (l.take (k + 1)) ≤ cntL l := by
  refine ⟨by rw [List.take_succ_eq_append_getElem hk, cntL_snoc], ?_⟩
  have := cntL_app (l.take (k + 1)) (l.drop (k + 1))
  rw [List.take_append_drop] at this
  omega
theorem dep_at {l : List Xp} {k : Nat} (hk : k < l.length) : depL (l.take (k + 1)) = max (depL (l.take k)) (depE l[k]) ∧ depE l[k] ≤ depL l :=
  ⟨by rw [List.take_succ_eq_append_getElem hk, depL_snoc], depL_mem _ (List.getElem_mem hk)⟩
theorem ok_at {l : List Xp} {k : Nat} (hk : k < l.length) : okL (l.take (k + 1)) = (okL (l.take k) && okE l[k]) := by rw [List.take_succ_eq_append_getElem hk, okL_snoc]

/-! ### A node by itself -/
theorem xin_any (n a b : Int) (w : World) : Calls Tryz.prog 75 #[.int .i64 n, .int .i64 a, .int .i64 b] w (Same (.bool (decide (a ≤ n) && decide (n ≤ b))) w) := by
  by_cases h : a ≤ n
  · go_enter Tryz.func75, Tryz.ntmps75
    go_wp2_with fail
    go_ret
    exact Same.mk (boolV (by simp [h])) rfl
  · have h' : decide (a ≤ n) = false := by simpa using h
    go_enter Tryz.func75, Tryz.ntmps75
    go_wp2_with fail
    go_ret
    exact Same.mk (boolV (by simp)) rfl
end Go.Proofs.YthnlenbfknbmcaaGreatDoor
namespace Go.Proofs.YthnlenbfknbmcaaGreatDoor
open Go.RowKit Go.Shelf
set_option maxRecDepth 100000

theorem pnode_1 (n : Int) (ad : Option Addr) (len cap : Nat) (w : World) : Calls Tryz.prog 30 #[.agg #[.int .i64 1, .int .i64 n, .slice ad len cap]] w (Ret (.bool (nodeB 1 n len)) w) := by
  by_cases h : len = 0
  · subst h
    by_cases h2 : (0 : Int) ≤ n
    · go_enter Tryz.func30, Tryz.ntmps30
      go_wp2_with fail
      go_ret
      exact Ret.mk (boolV (by simp [nodeB]; omega)) (by (repeat (first | exact Below.refl _ _ | assumption | refine Below.drew ?_ | refine below_drewN ?_ _ | refine Below.setCell ?_ (by first | omega | (simp <;> omega)) _ | refine Below.alloc ?_ (by first | omega | (simp <;> omega)) _)))
    · have h2' : decide ((0 : Int) ≤ n) = false := by simpa using h2
      go_enter Tryz.func30, Tryz.ntmps30
      go_wp2_with fail
      go_ret
      exact Ret.mk (boolV (by simp [nodeB]; omega)) (by (repeat (first | exact Below.refl _ _ | assumption | refine Below.drew ?_ | refine below_drewN ?_ _ | refine Below.setCell ?_ (by first | omega | (simp <;> omega)) _ | refine Below.alloc ?_ (by first | omega | (simp <;> omega)) _)))
  · have h' : ((len : Int) == 0) = false := by rw [beq_eq_false_iff_ne]; omega
    go_enter Tryz.func30, Tryz.ntmps30
    go_wp2_with fail
    go_ret
    exact Ret.mk (boolV (by simp [nodeB, h])) (by (repeat (first | exact Below.refl _ _ | assumption | refine Below.drew ?_ | refine below_drewN ?_ _ | refine Below.setCell ?_ (by first | omega | (simp <;> omega)) _ | refine Below.alloc ?_ (by first | omega | (simp <;> omega)) _)))
theorem pnode_2 (n : Int) (ad : Option Addr) (len cap : Nat) (w : World) : Calls Tryz.prog 30 #[.agg #[.int .i64 2, .int .i64 n, .slice ad len cap]] w (Ret (.bool (nodeB 2 n len)) w) := by
  by_cases h : len = 0
  · subst h
    by_cases h2 : (0 : Int) ≤ n
    · go_enter Tryz.func30, Tryz.ntmps30
      go_wp2_with fail
      go_ret
      exact Ret.mk (boolV (by simp [nodeB]; omega)) (by (repeat (first | exact Below.refl _ _ | assumption | refine Below.drew ?_ | refine below_drewN ?_ _ | refine Below.setCell ?_ (by first | omega | (simp <;> omega)) _ | refine Below.alloc ?_ (by first | omega | (simp <;> omega)) _)))
    · have h2' : decide ((0 : Int) ≤ n) = false := by simpa using h2
      go_enter Tryz.func30, Tryz.ntmps30
      go_wp2_with fail
      go_ret
      exact Ret.mk (boolV (by simp [nodeB]; omega)) (by (repeat (first | exact Below.refl _ _ | assumption | refine Below.drew ?_ | refine below_drewN ?_ _ | refine Below.setCell ?_ (by first | omega | (simp <;> omega)) _ | refine Below.alloc ?_ (by first | omega | (simp <;> omega)) _)))
  · have h' : ((len : Int) == 0) = false := by rw [beq_eq_false_iff_ne]; omega
    go_enter Tryz.func30, Tryz.ntmps30
    go_wp2_with fail
    go_ret
    exact Ret.mk (boolV (by simp [nodeB, h])) (by (repeat (first | exact Below.refl _ _ | assumption | refine Below.drew ?_ | refine below_drewN ?_ _ | refine Below.setCell ?_ (by first | omega | (simp <;> omega)) _ | refine Below.alloc ?_ (by first | omega | (simp <;> omega)) _)))
theorem pnode_3 (n : Int) (ad : Option Addr) (len cap : Nat) (w : World) : Calls Tryz.prog 30 #[.agg #[.int .i64 3, .int .i64 n, .slice ad len cap]] w (Ret (.bool (nodeB 3 n len)) w) := by
  by_cases h : len = 0
  · subst h
    by_cases h2 : (1 : Int) ≤ n
    · go_enter Tryz.func30, Tryz.ntmps30
      go_wp2_with fail
      go_ret
      exact Ret.mk (boolV (by simp [nodeB]; omega)) (by (repeat (first | exact Below.refl _ _ | assumption | refine Below.drew ?_ | refine below_drewN ?_ _ | refine Below.setCell ?_ (by first | omega | (simp <;> omega)) _ | refine Below.alloc ?_ (by first | omega | (simp <;> omega)) _)))
    · have h2' : decide ((1 : Int) ≤ n) = false := by simpa using h2
      go_enter Tryz.func30, Tryz.ntmps30
      go_wp2_with fail
      go_ret
      exact Ret.mk (boolV (by simp [nodeB]; omega)) (by (repeat (first | exact Below.refl _ _ | assumption | refine Below.drew ?_ | refine below_drewN ?_ _ | refine Below.setCell ?_ (by first | omega | (simp <;> omega)) _ | refine Below.alloc ?_ (by first | omega | (simp <;> omega)) _)))
  · have h' : ((len : Int) == 0) = false := by rw [beq_eq_false_iff_ne]; omega
    go_enter Tryz.func30, Tryz.ntmps30
    go_wp2_with fail
    go_ret
    exact Ret.mk (boolV (by simp [nodeB, h])) (by (repeat (first | exact Below.refl _ _ | assumption | refine Below.drew ?_ | refine below_drewN ?_ _ | refine Below.setCell ?_ (by first | omega | (simp <;> omega)) _ | refine Below.alloc ?_ (by first | omega | (simp <;> omega)) _)))
theorem pnode_15 (n : Int) (ad : Option Addr) (len cap : Nat) (w : World) : Calls Tryz.prog 30 #[.agg #[.int .i64 15, .int .i64 n, .slice ad len cap]] w (Ret (.bool (nodeB 15 n len)) w) := by
  by_cases h : len = 1
  · subst h
    by_cases h2 : (0 : Int) ≤ n
    · go_enter Tryz.func30, Tryz.ntmps30
      go_wp2_with fail
      go_ret
      exact Ret.mk (boolV (by simp [nodeB]; omega)) (by (repeat (first | exact Below.refl _ _ | assumption | refine Below.drew ?_ | refine below_drewN ?_ _ | refine Below.setCell ?_ (by first | omega | (simp <;> omega)) _ | refine Below.alloc ?_ (by first | omega | (simp <;> omega)) _)))
    · have h2' : decide ((0 : Int) ≤ n) = false := by simpa using h2
      go_enter Tryz.func30, Tryz.ntmps30
      go_wp2_with fail
      go_ret
      exact Ret.mk (boolV (by simp [nodeB]; omega)) (by (repeat (first | exact Below.refl _ _ | assumption | refine Below.drew ?_ | refine below_drewN ?_ _ | refine Below.setCell ?_ (by first | omega | (simp <;> omega)) _ | refine Below.alloc ?_ (by first | omega | (simp <;> omega)) _)))
  · have h' : ((len : Int) == 1) = false := by rw [beq_eq_false_iff_ne]; omega
    go_enter Tryz.func30, Tryz.ntmps30
    go_wp2_with fail
    go_ret
    exact Ret.mk (boolV (by simp [nodeB, h])) (by (repeat (first | exact Below.refl _ _ | assumption | refine Below.drew ?_ | refine below_drewN ?_ _ | refine Below.setCell ?_ (by first | omega | (simp <;> omega)) _ | refine Below.alloc ?_ (by first | omega | (simp <;> omega)) _)))
theorem pnode_10 (n : Int) (ad : Option Addr) (len cap : Nat) (w : World) : Calls Tryz.prog 30 #[.agg #[.int .i64 10, .int .i64 n, .slice ad len cap]] w (Ret (.bool (nodeB 10 n len)) w) := by
  by_cases h : len = 3
  · subst h
    by_cases h2 : (0 : Int) ≤ n
    · go_enter Tryz.func30, Tryz.ntmps30
      go_wp2_with fail
      go_ret
      exact Ret.mk (boolV (by simp [nodeB]; omega)) (by (repeat (first | exact Below.refl _ _ | assumption | refine Below.drew ?_ | refine below_drewN ?_ _ | refine Below.setCell ?_ (by first | omega | (simp <;> omega)) _ | refine Below.alloc ?_ (by first | omega | (simp <;> omega)) _)))
    · have h2' : decide ((0 : Int) ≤ n) = false := by simpa using h2
      go_enter Tryz.func30, Tryz.ntmps30
      go_wp2_with fail
      go_ret
      exact Ret.mk (boolV (by simp [nodeB]; omega)) (by (repeat (first | exact Below.refl _ _ | assumption | refine Below.drew ?_ | refine below_drewN ?_ _ | refine Below.setCell ?_ (by first | omega | (simp <;> omega)) _ | refine Below.alloc ?_ (by first | omega | (simp <;> omega)) _)))
  · have h' : ((len : Int) == 3) = false := by rw [beq_eq_false_iff_ne]; omega
    go_enter Tryz.func30, Tryz.ntmps30
    go_wp2_with fail
    go_ret
    exact Ret.mk (boolV (by simp [nodeB, h])) (by (repeat (first | exact Below.refl _ _ | assumption | refine Below.drew ?_ | refine below_drewN ?_ _ | refine Below.setCell ?_ (by first | omega | (simp <;> omega)) _ | refine Below.alloc ?_ (by first | omega | (simp <;> omega)) _)))
theorem pnode_4 (n : Int) (ad : Option Addr) (len cap : Nat) (w : World) : Calls Tryz.prog 30 #[.agg #[.int .i64 4, .int .i64 n, .slice ad len cap]] w (Ret (.bool (nodeB 4 n len)) w) := by
  by_cases h : len = 2
  · subst h
    by_cases h2 : (0 : Int) ≤ n
    · go_enter Tryz.func30, Tryz.ntmps30
      go_wp2_with fail
      go_ret
      exact Ret.mk (boolV (by simp [nodeB]; omega)) (by (repeat (first | exact Below.refl _ _ | assumption | refine Below.drew ?_ | refine below_drewN ?_ _ | refine Below.setCell ?_ (by first | omega | (simp <;> omega)) _ | refine Below.alloc ?_ (by first | omega | (simp <;> omega)) _)))
    · have h2' : decide ((0 : Int) ≤ n) = false := by simpa using h2
      go_enter Tryz.func30, Tryz.ntmps30
      go_wp2_with fail
      go_ret
      exact Ret.mk (boolV (by simp [nodeB]; omega)) (by (repeat (first | exact Below.refl _ _ | assumption | refine Below.drew ?_ | refine below_drewN ?_ _ | refine Below.setCell ?_ (by first | omega | (simp <;> omega)) _ | refine Below.alloc ?_ (by first | omega | (simp <;> omega)) _)))
  · have h' : ((len : Int) == 2) = false := by rw [beq_eq_false_iff_ne]; omega
    go_enter Tryz.func30, Tryz.ntmps30
    go_wp2_with fail
    go_ret
    exact Ret.mk (boolV (by simp [nodeB, h])) (by (repeat (first | exact Below.refl _ _ | assumption | refine Below.drew ?_ | refine below_drewN ?_ _ | refine Below.setCell ?_ (by first | omega | (simp <;> omega)) _ | refine Below.alloc ?_ (by first | omega | (simp <;> omega)) _)))
theorem pnode_5 (n : Int) (ad : Option Addr) (len cap : Nat) (w : World) : Calls Tryz.prog 30 #[.agg #[.int .i64 5, .int .i64 n, .slice ad len cap]] w (Ret (.bool (nodeB 5 n len)) w) := by
  by_cases h : len = 2
  · subst h
    by_cases h2 : (0 : Int) ≤ n
    · go_enter Tryz.func30, Tryz.ntmps30
      go_wp2_with fail
      go_ret
      exact Ret.mk (boolV (by simp [nodeB]; omega)) (by (repeat (first | exact Below.refl _ _ | assumption | refine Below.drew ?_ | refine below_drewN ?_ _ | refine Below.setCell ?_ (by first | omega | (simp <;> omega)) _ | refine Below.alloc ?_ (by first | omega | (simp <;> omega)) _)))
    · have h2' : decide ((0 : Int) ≤ n) = false := by simpa using h2
      go_enter Tryz.func30, Tryz.ntmps30
      go_wp2_with fail
      go_ret
      exact Ret.mk (boolV (by simp [nodeB]; omega)) (by (repeat (first | exact Below.refl _ _ | assumption | refine Below.drew ?_ | refine below_drewN ?_ _ | refine Below.setCell ?_ (by first | omega | (simp <;> omega)) _ | refine Below.alloc ?_ (by first | omega | (simp <;> omega)) _)))
  · have h' : ((len : Int) == 2) = false := by rw [beq_eq_false_iff_ne]; omega
    go_enter Tryz.func30, Tryz.ntmps30
    go_wp2_with fail
    go_ret
    exact Ret.mk (boolV (by simp [nodeB, h])) (by (repeat (first | exact Below.refl _ _ | assumption | refine Below.drew ?_ | refine below_drewN ?_ _ | refine Below.setCell ?_ (by first | omega | (simp <;> omega)) _ | refine Below.alloc ?_ (by first | omega | (simp <;> omega)) _)))
theorem pnode_6 (n : Int) (ad : Option Addr) (len cap : Nat) (w : World) : Calls Tryz.prog 30 #[.agg #[.int .i64 6, .int .i64 n, .slice ad len cap]] w (Ret (.bool (nodeB 6 n len)) w) := by
  by_cases h : len = 2
  · subst h
    by_cases h2 : (0 : Int) ≤ n
    · go_enter Tryz.func30, Tryz.ntmps30
      go_wp2_with fail
      go_ret
      exact Ret.mk (boolV (by simp [nodeB]; omega)) (by (repeat (first | exact Below.refl _ _ | assumption | refine Below.drew ?_ | refine below_drewN ?_ _ | refine Below.setCell ?_ (by first | omega | (simp <;> omega)) _ | refine Below.alloc ?_ (by first | omega | (simp <;> omega)) _)))
    · have h2' : decide ((0 : Int) ≤ n) = false := by simpa using h2
      go_enter Tryz.func30, Tryz.ntmps30
      go_wp2_with fail
      go_ret
      exact Ret.mk (boolV (by simp [nodeB]; omega)) (by (repeat (first | exact Below.refl _ _ | assumption | refine Below.drew ?_ | refine below_drewN ?_ _ | refine Below.setCell ?_ (by first | omega | (simp <;> omega)) _ | refine Below.alloc ?_ (by first | omega | (simp <;> omega)) _)))
  · have h' : ((len : Int) == 2) = false := by rw [beq_eq_false_iff_ne]; omega
    go_enter Tryz.func30, Tryz.ntmps30
    go_wp2_with fail
    go_ret
    exact Ret.mk (boolV (by simp [nodeB, h])) (by (repeat (first | exact Below.refl _ _ | assumption | refine Below.drew ?_ | refine below_drewN ?_ _ | refine Below.setCell ?_ (by first | omega | (simp <;> omega)) _ | refine Below.alloc ?_ (by first | omega | (simp <;> omega)) _)))
theorem pnode_7 (n : Int) (ad : Option Addr) (len cap : Nat) (w : World) : Calls Tryz.prog 30 #[.agg #[.int .i64 7, .int .i64 n, .slice ad len cap]] w (Ret (.bool (nodeB 7 n len)) w) := by
  by_cases h : len = 2
  · subst h
    by_cases h2 : (0 : Int) ≤ n
    · go_enter Tryz.func30, Tryz.ntmps30
      go_wp2_with fail
      go_ret
      exact Ret.mk (boolV (by simp [nodeB]; omega)) (by (repeat (first | exact Below.refl _ _ | assumption | refine Below.drew ?_ | refine below_drewN ?_ _ | refine Below.setCell ?_ (by first | omega | (simp <;> omega)) _ | refine Below.alloc ?_ (by first | omega | (simp <;> omega)) _)))
    · have h2' : decide ((0 : Int) ≤ n) = false := by simpa using h2
      go_enter Tryz.func30, Tryz.ntmps30
      go_wp2_with fail
      go_ret
      exact Ret.mk (boolV (by simp [nodeB]; omega)) (by (repeat (first | exact Below.refl _ _ | assumption | refine Below.drew ?_ | refine below_drewN ?_ _ | refine Below.setCell ?_ (by first | omega | (simp <;> omega)) _ | refine Below.alloc ?_ (by first | omega | (simp <;> omega)) _)))
  · have h' : ((len : Int) == 2) = false := by rw [beq_eq_false_iff_ne]; omega
    go_enter Tryz.func30, Tryz.ntmps30
    go_wp2_with fail
    go_ret
    exact Ret.mk (boolV (by simp [nodeB, h])) (by (repeat (first | exact Below.refl _ _ | assumption | refine Below.drew ?_ | refine below_drewN ?_ _ | refine Below.setCell ?_ (by first | omega | (simp <;> omega)) _ | refine Below.alloc ?_ (by first | omega | (simp <;> omega)) _)))
theorem pnode_8 (n : Int) (ad : Option Addr) (len cap : Nat) (w : World) : Calls Tryz.prog 30 #[.agg #[.int .i64 8, .int .i64 n, .slice ad len cap]] w (Ret (.bool (nodeB 8 n len)) w) := by
  by_cases h : len = 2
  · subst h
    by_cases h2 : (0 : Int) ≤ n
    · go_enter Tryz.func30, Tryz.ntmps30
      go_wp2_with fail
      go_ret
      exact Ret.mk (boolV (by simp [nodeB]; omega)) (by (repeat (first | exact Below.refl _ _ | assumption | refine Below.drew ?_ | refine below_drewN ?_ _ | refine Below.setCell ?_ (by first | omega | (simp <;> omega)) _ | refine Below.alloc ?_ (by first | omega | (simp <;> omega)) _)))
    · have h2' : decide ((0 : Int) ≤ n) = false := by simpa using h2
      go_enter Tryz.func30, Tryz.ntmps30
      go_wp2_with fail
      go_ret
      exact Ret.mk (boolV (by simp [nodeB]; omega)) (by (repeat (first | exact Below.refl _ _ | assumption | refine Below.drew ?_ | refine below_drewN ?_ _ | refine Below.setCell ?_ (by first | omega | (simp <;> omega)) _ | refine Below.alloc ?_ (by first | omega | (simp <;> omega)) _)))
  · have h' : ((len : Int) == 2) = false := by rw [beq_eq_false_iff_ne]; omega
    go_enter Tryz.func30, Tryz.ntmps30
    go_wp2_with fail
    go_ret
    exact Ret.mk (boolV (by simp [nodeB, h])) (by (repeat (first | exact Below.refl _ _ | assumption | refine Below.drew ?_ | refine below_drewN ?_ _ | refine Below.setCell ?_ (by first | omega | (simp <;> omega)) _ | refine Below.alloc ?_ (by first | omega | (simp <;> omega)) _)))
theorem pnode_9 (n : Int) (ad : Option Addr) (len cap : Nat) (w : World) : Calls Tryz.prog 30 #[.agg #[.int .i64 9, .int .i64 n, .slice ad len cap]] w (Ret (.bool (nodeB 9 n len)) w) := by
  by_cases h : len = 2
  · subst h
    by_cases h2 : (0 : Int) ≤ n
    · go_enter Tryz.func30, Tryz.ntmps30
      go_wp2_with fail
      go_ret
      exact Ret.mk (boolV (by simp [nodeB]; omega)) (by (repeat (first | exact Below.refl _ _ | assumption | refine Below.drew ?_ | refine below_drewN ?_ _ | refine Below.setCell ?_ (by first | omega | (simp <;> omega)) _ | refine Below.alloc ?_ (by first | omega | (simp <;> omega)) _)))
    · have h2' : decide ((0 : Int) ≤ n) = false := by simpa using h2
      go_enter Tryz.func30, Tryz.ntmps30
      go_wp2_with fail
      go_ret
      exact Ret.mk (boolV (by simp [nodeB]; omega)) (by (repeat (first | exact Below.refl _ _ | assumption | refine Below.drew ?_ | refine below_drewN ?_ _ | refine Below.setCell ?_ (by first | omega | (simp <;> omega)) _ | refine Below.alloc ?_ (by first | omega | (simp <;> omega)) _)))
  · have h' : ((len : Int) == 2) = false := by rw [beq_eq_false_iff_ne]; omega
    go_enter Tryz.func30, Tryz.ntmps30
    go_wp2_with fail
    go_ret
    exact Ret.mk (boolV (by simp [nodeB, h])) (by (repeat (first | exact Below.refl _ _ | assumption | refine Below.drew ?_ | refine below_drewN ?_ _ | refine Below.setCell ?_ (by first | omega | (simp <;> omega)) _ | refine Below.alloc ?_ (by first | omega | (simp <;> omega)) _)))
theorem pnode_11 (n : Int) (ad : Option Addr) (len cap : Nat) (w : World) : Calls Tryz.prog 30 #[.agg #[.int .i64 11, .int .i64 n, .slice ad len cap]] w (Ret (.bool (nodeB 11 n len)) w) := by
  by_cases h : len = 2
  · subst h
    by_cases h2 : (0 : Int) ≤ n
    · go_enter Tryz.func30, Tryz.ntmps30
      go_wp2_with fail
      go_ret
      exact Ret.mk (boolV (by simp [nodeB]; omega)) (by (repeat (first | exact Below.refl _ _ | assumption | refine Below.drew ?_ | refine below_drewN ?_ _ | refine Below.setCell ?_ (by first | omega | (simp <;> omega)) _ | refine Below.alloc ?_ (by first | omega | (simp <;> omega)) _)))
    · have h2' : decide ((0 : Int) ≤ n) = false := by simpa using h2
      go_enter Tryz.func30, Tryz.ntmps30
      go_wp2_with fail
      go_ret
      exact Ret.mk (boolV (by simp [nodeB]; omega)) (by (repeat (first | exact Below.refl _ _ | assumption | refine Below.drew ?_ | refine below_drewN ?_ _ | refine Below.setCell ?_ (by first | omega | (simp <;> omega)) _ | refine Below.alloc ?_ (by first | omega | (simp <;> omega)) _)))
  · have h' : ((len : Int) == 2) = false := by rw [beq_eq_false_iff_ne]; omega
    go_enter Tryz.func30, Tryz.ntmps30
    go_wp2_with fail
    go_ret
    exact Ret.mk (boolV (by simp [nodeB, h])) (by (repeat (first | exact Below.refl _ _ | assumption | refine Below.drew ?_ | refine below_drewN ?_ _ | refine Below.setCell ?_ (by first | omega | (simp <;> omega)) _ | refine Below.alloc ?_ (by first | omega | (simp <;> omega)) _)))
theorem pnode_12 (n : Int) (ad : Option Addr) (len cap : Nat) (w : World) : Calls Tryz.prog 30 #[.agg #[.int .i64 12, .int .i64 n, .slice ad len cap]] w (Ret (.bool (nodeB 12 n len)) w) := by
  by_cases h : len = 2
  · subst h
    by_cases h2 : (0 : Int) ≤ n
    · go_enter Tryz.func30, Tryz.ntmps30
      go_wp2_with fail
      go_ret
      exact Ret.mk (boolV (by simp [nodeB]; omega)) (by (repeat (first | exact Below.refl _ _ | assumption | refine Below.drew ?_ | refine below_drewN ?_ _ | refine Below.setCell ?_ (by first | omega | (simp <;> omega)) _ | refine Below.alloc ?_ (by first | omega | (simp <;> omega)) _)))
    · have h2' : decide ((0 : Int) ≤ n) = false := by simpa using h2
      go_enter Tryz.func30, Tryz.ntmps30
      go_wp2_with fail
      go_ret
      exact Ret.mk (boolV (by simp [nodeB]; omega)) (by (repeat (first | exact Below.refl _ _ | assumption | refine Below.drew ?_ | refine below_drewN ?_ _ | refine Below.setCell ?_ (by first | omega | (simp <;> omega)) _ | refine Below.alloc ?_ (by first | omega | (simp <;> omega)) _)))
  · have h' : ((len : Int) == 2) = false := by rw [beq_eq_false_iff_ne]; omega
    go_enter Tryz.func30, Tryz.ntmps30
    go_wp2_with fail
    go_ret
    exact Ret.mk (boolV (by simp [nodeB, h])) (by (repeat (first | exact Below.refl _ _ | assumption | refine Below.drew ?_ | refine below_drewN ?_ _ | refine Below.setCell ?_ (by first | omega | (simp <;> omega)) _ | refine Below.alloc ?_ (by first | omega | (simp <;> omega)) _)))
theorem pnode_13 (n : Int) (ad : Option Addr) (len cap : Nat) (w : World) : Calls Tryz.prog 30 #[.agg #[.int .i64 13, .int .i64 n, .slice ad len cap]] w (Ret (.bool (nodeB 13 n len)) w) := by
  by_cases h : len = 2
  · subst h
    by_cases h2 : (0 : Int) ≤ n
    · go_enter Tryz.func30, Tryz.ntmps30
      go_wp2_with fail
      go_ret
      exact Ret.mk (boolV (by simp [nodeB]; omega)) (by (repeat (first | exact Below.refl _ _ | assumption | refine Below.drew ?_ | refine below_drewN ?_ _ | refine Below.setCell ?_ (by first | omega | (simp <;> omega)) _ | refine Below.alloc ?_ (by first | omega | (simp <;> omega)) _)))
    · have h2' : decide ((0 : Int) ≤ n) = false := by simpa using h2
      go_enter Tryz.func30, Tryz.ntmps30
      go_wp2_with fail
      go_ret
      exact Ret.mk (boolV (by simp [nodeB]; omega)) (by (repeat (first | exact Below.refl _ _ | assumption | refine Below.drew ?_ | refine below_drewN ?_ _ | refine Below.setCell ?_ (by first | omega | (simp <;> omega)) _ | refine Below.alloc ?_ (by first | omega | (simp <;> omega)) _)))
  · have h' : ((len : Int) == 2) = false := by rw [beq_eq_false_iff_ne]; omega
    go_enter Tryz.func30, Tryz.ntmps30
    go_wp2_with fail
    go_ret
    exact Ret.mk (boolV (by simp [nodeB, h])) (by (repeat (first | exact Below.refl _ _ | assumption | refine Below.drew ?_ | refine below_drewN ?_ _ | refine Below.setCell ?_ (by first | omega | (simp <;> omega)) _ | refine Below.alloc ?_ (by first | omega | (simp <;> omega)) _)))
theorem pnode_14 (n : Int) (ad : Option Addr) (len cap : Nat) (w : World) : Calls Tryz.prog 30 #[.agg #[.int .i64 14, .int .i64 n, .slice ad len cap]] w (Ret (.bool (nodeB 14 n len)) w) := by
  by_cases h : len = 2
  · subst h
    by_cases h2 : (0 : Int) ≤ n
    · go_enter Tryz.func30, Tryz.ntmps30
      go_wp2_with fail
      go_ret
      exact Ret.mk (boolV (by simp [nodeB]; omega)) (by (repeat (first | exact Below.refl _ _ | assumption | refine Below.drew ?_ | refine below_drewN ?_ _ | refine Below.setCell ?_ (by first | omega | (simp <;> omega)) _ | refine Below.alloc ?_ (by first | omega | (simp <;> omega)) _)))
    · have h2' : decide ((0 : Int) ≤ n) = false := by simpa using h2
      go_enter Tryz.func30, Tryz.ntmps30
      go_wp2_with fail
      go_ret
      exact Ret.mk (boolV (by simp [nodeB]; omega)) (by (repeat (first | exact Below.refl _ _ | assumption | refine Below.drew ?_ | refine below_drewN ?_ _ | refine Below.setCell ?_ (by first | omega | (simp <;> omega)) _ | refine Below.alloc ?_ (by first | omega | (simp <;> omega)) _)))
  · have h' : ((len : Int) == 2) = false := by rw [beq_eq_false_iff_ne]; omega
    go_enter Tryz.func30, Tryz.ntmps30
    go_wp2_with fail
    go_ret
    exact Ret.mk (boolV (by simp [nodeB, h])) (by (repeat (first | exact Below.refl _ _ | assumption | refine Below.drew ?_ | refine below_drewN ?_ _ | refine Below.setCell ?_ (by first | omega | (simp <;> omega)) _ | refine Below.alloc ?_ (by first | omega | (simp <;> omega)) _)))
theorem pnode_other (o n : Int) (ad : Option Addr) (len cap : Nat) (w : World) (ho : ¬ (1 ≤ o ∧ o ≤ 15)) : Calls Tryz.prog 30 #[.agg #[.int .i64 o, .int .i64 n, .slice ad len cap]] w (Ret (.bool (nodeB o n len)) w) := by
  have h1 : (o == 1) = false := by rw [beq_eq_false_iff_ne]; omega
  have h2 : (o == 2) = false := by rw [beq_eq_false_iff_ne]; omega
  have h3 : (o == 3) = false := by rw [beq_eq_false_iff_ne]; omega
  have h4 : (o == 4) = false := by rw [beq_eq_false_iff_ne]; omega
  have h5 : (o == 5) = false := by rw [beq_eq_false_iff_ne]; omega
  have h6 : (o == 6) = false := by rw [beq_eq_false_iff_ne]; omega
  have h7 : (o == 7) = false := by rw [beq_eq_false_iff_ne]; omega
  have h8 : (o == 8) = false := by rw [beq_eq_false_iff_ne]; omega
  have h9 : (o == 9) = false := by rw [beq_eq_false_iff_ne]; omega
  have h10 : (o == 10) = false := by rw [beq_eq_false_iff_ne]; omega
  have h11 : (o == 11) = false := by rw [beq_eq_false_iff_ne]; omega
  have h12 : (o == 12) = false := by rw [beq_eq_false_iff_ne]; omega
  have h13 : (o == 13) = false := by rw [beq_eq_false_iff_ne]; omega
  have h14 : (o == 14) = false := by rw [beq_eq_false_iff_ne]; omega
  have h15 : (o == 15) = false := by rw [beq_eq_false_iff_ne]; omega
  have hN : nodeB o n len = false := by unfold nodeB; rw [if_neg (by omega), if_neg (by omega), if_neg (by omega), if_neg (by omega), if_neg (by omega)]; simp; omega
  rw [hN]
  clear hN ho
  go_enter Tryz.func30, Tryz.ntmps30
  go_wp2_with fail
  go_ret
  exact Ret.mk rfl (by (repeat (first | exact Below.refl _ _ | assumption | refine Below.drew ?_ | refine below_drewN ?_ _ | refine Below.setCell ?_ (by first | omega | (simp <;> omega)) _ | refine Below.alloc ?_ (by first | omega | (simp <;> omega)) _)))
theorem pnode_any (o n : Int) (ad : Option Addr) (len cap : Nat) (w : World) : Calls Tryz.prog 30 #[.agg #[.int .i64 o, .int .i64 n, .slice ad len cap]] w (Ret (.bool (nodeB o n len)) w) := by
  by_cases h : 1 ≤ o ∧ o ≤ 15
  · have : o = 1 ∨ o = 2 ∨ o = 3 ∨ o = 4 ∨ o = 5 ∨ o = 6 ∨ o = 7 ∨ o = 8 ∨ o = 9 ∨ o = 10 ∨ o = 11 ∨ o = 12 ∨ o = 13 ∨ o = 14 ∨ o = 15 := by omega
    rcases this with rfl | rfl | rfl | rfl | rfl | rfl | rfl | rfl | rfl | rfl | rfl | rfl | rfl | rfl | rfl
    · exact pnode_1 n ad len cap w
    · exact pnode_2 n ad len cap w
    · exact pnode_3 n ad len cap w
    · exact pnode_4 n ad len cap w
    · exact pnode_5 n ad len cap w
    · exact pnode_6 n ad len cap w
    · exact pnode_7 n ad len cap w
    · exact pnode_8 n ad len cap w
    · exact pnode_9 n ad len cap w
    · exact pnode_10 n ad len cap w
    · exact pnode_11 n ad len cap w
    · exact pnode_12 n ad len cap w
    · exact pnode_13 n ad len cap w
    · exact pnode_14 n ad len cap w
    · exact pnode_15 n ad len cap w
  · exact pnode_other o n ad len cap w h
theorem rnode_1 (n : Int) (ad : Option Addr) (len cap : Nat) (w : World) : Calls Tryz.prog 50 #[.agg #[.int .i64 1, .int .i64 n, .slice ad len cap]] w (Ret (.bool (nodeB 1 n len)) w) := by
  by_cases h : len = 0
  · subst h
    go_enter Tryz.func50, Tryz.ntmps50
    go_wp2_with (go_at_call 75; refine (xin_any _ _ _ _).mono ?_; rintro e w' ⟨rfl, rfl⟩)
    go_ret
    exact Ret.mk (boolV (by simp [nodeB])) (by (repeat (first | exact Below.refl _ _ | assumption | refine Below.drew ?_ | refine below_drewN ?_ _ | refine Below.setCell ?_ (by first | omega | (simp <;> omega)) _ | refine Below.alloc ?_ (by first | omega | (simp <;> omega)) _)))
  · have h' : ((len : Int) == 0) = false := by rw [beq_eq_false_iff_ne]; omega
    go_enter Tryz.func50, Tryz.ntmps50
    go_wp2_with fail
    go_ret
    exact Ret.mk (boolV (by simp [nodeB, h])) (by (repeat (first | exact Below.refl _ _ | assumption | refine Below.drew ?_ | refine below_drewN ?_ _ | refine Below.setCell ?_ (by first | omega | (simp <;> omega)) _ | refine Below.alloc ?_ (by first | omega | (simp <;> omega)) _)))
theorem rnode_2 (n : Int) (ad : Option Addr) (len cap : Nat) (w : World) : Calls Tryz.prog 50 #[.agg #[.int .i64 2, .int .i64 n, .slice ad len cap]] w (Ret (.bool (nodeB 2 n len)) w) := by
  by_cases h : len = 0
  · subst h
    go_enter Tryz.func50, Tryz.ntmps50
    go_wp2_with (go_at_call 75; refine (xin_any _ _ _ _).mono ?_; rintro e w' ⟨rfl, rfl⟩)
    go_ret
    exact Ret.mk (boolV (by simp [nodeB])) (by (repeat (first | exact Below.refl _ _ | assumption | refine Below.drew ?_ | refine below_drewN ?_ _ | refine Below.setCell ?_ (by first | omega | (simp <;> omega)) _ | refine Below.alloc ?_ (by first | omega | (simp <;> omega)) _)))
  · have h' : ((len : Int) == 0) = false := by rw [beq_eq_false_iff_ne]; omega
    go_enter Tryz.func50, Tryz.ntmps50
    go_wp2_with fail
    go_ret
    exact Ret.mk (boolV (by simp [nodeB, h])) (by (repeat (first | exact Below.refl _ _ | assumption | refine Below.drew ?_ | refine below_drewN ?_ _ | refine Below.setCell ?_ (by first | omega | (simp <;> omega)) _ | refine Below.alloc ?_ (by first | omega | (simp <;> omega)) _)))
theorem rnode_3 (n : Int) (ad : Option Addr) (len cap : Nat) (w : World) : Calls Tryz.prog 50 #[.agg #[.int .i64 3, .int .i64 n, .slice ad len cap]] w (Ret (.bool (nodeB 3 n len)) w) := by
  by_cases h : len = 0
  · subst h
    go_enter Tryz.func50, Tryz.ntmps50
    go_wp2_with (go_at_call 75; refine (xin_any _ _ _ _).mono ?_; rintro e w' ⟨rfl, rfl⟩)
    go_ret
    exact Ret.mk (boolV (by simp [nodeB])) (by (repeat (first | exact Below.refl _ _ | assumption | refine Below.drew ?_ | refine below_drewN ?_ _ | refine Below.setCell ?_ (by first | omega | (simp <;> omega)) _ | refine Below.alloc ?_ (by first | omega | (simp <;> omega)) _)))
  · have h' : ((len : Int) == 0) = false := by rw [beq_eq_false_iff_ne]; omega
    go_enter Tryz.func50, Tryz.ntmps50
    go_wp2_with fail
    go_ret
    exact Ret.mk (boolV (by simp [nodeB, h])) (by (repeat (first | exact Below.refl _ _ | assumption | refine Below.drew ?_ | refine below_drewN ?_ _ | refine Below.setCell ?_ (by first | omega | (simp <;> omega)) _ | refine Below.alloc ?_ (by first | omega | (simp <;> omega)) _)))
theorem rnode_15 (n : Int) (ad : Option Addr) (len cap : Nat) (w : World) : Calls Tryz.prog 50 #[.agg #[.int .i64 15, .int .i64 n, .slice ad len cap]] w (Ret (.bool (nodeB 15 n len)) w) := by
  by_cases h : len = 1
  · subst h
    go_enter Tryz.func50, Tryz.ntmps50
    go_wp2_with (go_at_call 75; refine (xin_any _ _ _ _).mono ?_; rintro e w' ⟨rfl, rfl⟩)
    go_ret
    exact Ret.mk (boolV (by simp [nodeB])) (by (repeat (first | exact Below.refl _ _ | assumption | refine Below.drew ?_ | refine below_drewN ?_ _ | refine Below.setCell ?_ (by first | omega | (simp <;> omega)) _ | refine Below.alloc ?_ (by first | omega | (simp <;> omega)) _)))
  · have h' : ((len : Int) == 1) = false := by rw [beq_eq_false_iff_ne]; omega
    go_enter Tryz.func50, Tryz.ntmps50
    go_wp2_with fail
    go_ret
    exact Ret.mk (boolV (by simp [nodeB, h])) (by (repeat (first | exact Below.refl _ _ | assumption | refine Below.drew ?_ | refine below_drewN ?_ _ | refine Below.setCell ?_ (by first | omega | (simp <;> omega)) _ | refine Below.alloc ?_ (by first | omega | (simp <;> omega)) _)))
theorem rnode_10 (n : Int) (ad : Option Addr) (len cap : Nat) (w : World) : Calls Tryz.prog 50 #[.agg #[.int .i64 10, .int .i64 n, .slice ad len cap]] w (Ret (.bool (nodeB 10 n len)) w) := by
  by_cases h : len = 3
  · subst h
    go_enter Tryz.func50, Tryz.ntmps50
    go_wp2_with (go_at_call 75; refine (xin_any _ _ _ _).mono ?_; rintro e w' ⟨rfl, rfl⟩)
    go_ret
    exact Ret.mk (boolV (by simp [nodeB])) (by (repeat (first | exact Below.refl _ _ | assumption | refine Below.drew ?_ | refine below_drewN ?_ _ | refine Below.setCell ?_ (by first | omega | (simp <;> omega)) _ | refine Below.alloc ?_ (by first | omega | (simp <;> omega)) _)))
  · have h' : ((len : Int) == 3) = false := by rw [beq_eq_false_iff_ne]; omega
    go_enter Tryz.func50, Tryz.ntmps50
    go_wp2_with fail
    go_ret
    exact Ret.mk (boolV (by simp [nodeB, h])) (by (repeat (first | exact Below.refl _ _ | assumption | refine Below.drew ?_ | refine below_drewN ?_ _ | refine Below.setCell ?_ (by first | omega | (simp <;> omega)) _ | refine Below.alloc ?_ (by first | omega | (simp <;> omega)) _)))
theorem rnode_any (o n : Int) (ad : Option Addr) (len cap : Nat) (w : World) : Calls Tryz.prog 50 #[.agg #[.int .i64 o, .int .i64 n, .slice ad len cap]] w (Ret (.bool (nodeB o n len)) w) := by
  by_cases h1 : o = 1
  · subst h1; exact rnode_1 n ad len cap w
  by_cases h2 : o = 2
  · subst h2; exact rnode_2 n ad len cap w
  by_cases h3 : o = 3
  · subst h3; exact rnode_3 n ad len cap w
  by_cases h15 : o = 15
  · subst h15; exact rnode_15 n ad len cap w
  by_cases h10 : o = 10
  · subst h10; exact rnode_10 n ad len cap w
  have g1 : (o == 1) = false := by rw [beq_eq_false_iff_ne]; exact h1
  have g2 : (o == 2) = false := by rw [beq_eq_false_iff_ne]; exact h2
  have g3 : (o == 3) = false := by rw [beq_eq_false_iff_ne]; exact h3
  have g15 : (o == 15) = false := by rw [beq_eq_false_iff_ne]; exact h15
  have g10 : (o == 10) = false := by rw [beq_eq_false_iff_ne]; exact h10
  have hN : nodeB o n len = (decide (4 ≤ o) && decide (o ≤ 14) && decide (len = 2) && decide (n = 0)) := by unfold nodeB; rw [if_neg h1, if_neg h2, if_neg h3, if_neg h15, if_neg h10]
  rw [hN]
  have hin : ∀ w, Calls Tryz.prog 75 #[.int .i64 o, .int .i64 4, .int .i64 14] w (Same (.bool (decide (4 ≤ o) && decide (o ≤ 14))) w) := fun w => xin_any o 4 14 w
  cases hb : (decide (4 ≤ o) && decide (o ≤ 14)) with
  | true =>
    simp only [hb] at hin
    clear hN h1 h2 h3 h15 h10 hb
    by_cases h : len = 2
    · subst h
      go_enter Tryz.func50, Tryz.ntmps50
      go_wp2_with (go_at_call 75; refine (hin _).mono ?_; rintro e w' ⟨rfl, rfl⟩)
      go_ret
      exact Ret.mk (boolV (by simp)) (by (repeat (first | exact Below.refl _ _ | assumption | refine Below.drew ?_ | refine below_drewN ?_ _ | refine Below.setCell ?_ (by first | omega | (simp <;> omega)) _ | refine Below.alloc ?_ (by first | omega | (simp <;> omega)) _)))
    · have h' : ((len : Int) == 2) = false := by rw [beq_eq_false_iff_ne]; omega
      go_enter Tryz.func50, Tryz.ntmps50
      go_wp2_with (go_at_call 75; refine (hin _).mono ?_; rintro e w' ⟨rfl, rfl⟩)
      go_ret
      exact Ret.mk (boolV (by simp [h])) (by (repeat (first | exact Below.refl _ _ | assumption | refine Below.drew ?_ | refine below_drewN ?_ _ | refine Below.setCell ?_ (by first | omega | (simp <;> omega)) _ | refine Below.alloc ?_ (by first | omega | (simp <;> omega)) _)))
  | false =>
    simp only [hb] at hin
    clear hN h1 h2 h3 h15 h10 hb
    go_enter Tryz.func50, Tryz.ntmps50
    go_wp2_with (go_at_call 75; refine (hin _).mono ?_; rintro e w' ⟨rfl, rfl⟩)
    go_ret
    exact Ret.mk (boolV (by simp)) (by (repeat (first | exact Below.refl _ _ | assumption | refine Below.drew ?_ | refine below_drewN ?_ _ | refine Below.setCell ?_ (by first | omega | (simp <;> omega)) _ | refine Below.alloc ?_ (by first | omega | (simp <;> omega)) _)))
end Go.Proofs.YthnlenbfknbmcaaGreatDoor
namespace Go.Proofs.YthnlenbfknbmcaaGreatDoor
open Go.RowKit Go.Shelf
set_option maxRecDepth 100000

def vldV (N V : Nat) : Value := .func (.func 29) #[] #[.pointer (some ⟨N, 0, none⟩), .pointer (some ⟨V, 0, none⟩)]
/-- well-formed from here on: behind n nodes, at depth d -/
def okAt (e : Xp) (n d : Nat) : Prop := okE e = true ∧ n + cntE e ≤ 200 ∧ d + depE e ≤ 31
def VEnd (N : Nat) (e : Xp) (n d : Nat) (w : World) (x : Ending) (w' : World) : Prop :=
  ∃ (b : Bool) (n' : Nat), x = .returned (.bool b) ∧ (b = true ↔ okAt e n d) ∧ (b = true → n' = n + cntE e) ∧ Kept (some N) w w' ∧ Own w' N [.int .i64 (n' : Nat)]
theorem Own.set1 {w : World} {B : Nat} {x : Value} (h : Own w B [x]) (v : Value) : Own (w.setCell ⟨B, 0, none⟩ v) B [v] := h.setAt v (by simp)
theorem tree_in {Q : Nat → Prop} {N : Nat} {w w' : World} {o n : Int} {kids : List Xp} {v : Value} (h : Tree Q w (.mk o n kids) v) (hk : Kept (some N) w w') (hq : Q N) : Tree Q w' (.mk o n kids) v := h.keep hk hq
set_option maxHeartbeats 3200000 in
theorem vld_any (Q : Nat → Prop) (N V : Nat) (hQ : Q N) (hNV : N ≠ V) : ∀ (e : Xp) (n d : Nat) (v : Value) (w : World), n ≤ 200 → d ≤ 31 → Tree Q w e v → Own w N [.int .i64 (n : Nat)] → Own w V [vldV N V] →
    Calls Tryz.prog 29 #[v, .int .i64 (d : Nat), .pointer (some ⟨N, 0, none⟩), .pointer (some ⟨V, 0, none⟩)] w (VEnd N e n d w) := by
  intro e
  induction e using Xp.ind with
  | h o nn kids ih =>
  intro n d v w hn hd ht hN hV
  obtain ⟨ad, cap, rfl, hlen, hks⟩ := ht.shape
  simp only [Xp.o, Xp.n, Xp.ks] at *
  have zN := hN.lt
  have zV := hV.lt
  have hw1 : IntKind.i64.wrap ((n : Int) + 1) = (n : Int) + 1 := IntWalk.i64_in _ (by omega)
  have hw2 : IntKind.i64.wrap ((d : Int) + 1) = (d : Int) + 1 := IntWalk.i64_in _ (by omega)
  have o1 := hN.alloc (.cells #[.int .i64 o, .int .i64 nn, .slice ad kids.length cap] 24)
  obtain ⟨a0, a1, -⟩ := hN.one
  have b0 : w.cell? ⟨V, 0, none⟩ = some (vldV N V) := hV.cell 0 _ rfl
  have hcnt : cntE (.mk o nn kids) = 1 + cntL kids := cntE_mk _ _ _
  have hdep : depE (.mk o nn kids) = 1 + depL kids := depE_mk _ _ _
  have hok : okE (.mk o nn kids) = (nodeB o nn kids.length && okL kids) := okE_mk _ _ _
  by_cases hA : n + 1 > 200
  · have hA' : decide ((n : Int) + 1 > 200) = true := by simp; omega
    have HF : Hid (¬ okAt (.mk o nn kids) n d) := Lib.hid (by rintro ⟨_, h, _⟩; omega)
    clear ih hks ht hcnt hdep hok hA
    go_enter Tryz.func29, Tryz.ntmps29
    go_wp2_with fail
    go_ret
    exact ⟨false, n + 1, rfl, by simp [HF.out], by simp, ((Kept.refl _ _).set (p := N) (b := ⟨N, 0, none⟩) (.inl rfl) _).alloc _, (hN.set1 _).alloc _⟩
  have hA' : decide ((n : Int) + 1 > 200) = false := by simp; omega
  have hA2 : decide (200 < (n : Int) + 1) = false := by simp; omega
  by_cases hB : d > 30
  · have hB' : decide ((d : Int) > 30) = true := by simp; omega
    have hB2 : decide (30 < d) = true := by simp; omega
    have HF : Hid (¬ okAt (.mk o nn kids) n d) := Lib.hid (by rintro ⟨_, _, h⟩; omega)
    clear ih hks ht hcnt hdep hok hA hB
    go_enter Tryz.func29, Tryz.ntmps29
    go_wp2_with fail
    go_ret
    exact ⟨false, n + 1, rfl, by simp [HF.out], by simp, ((Kept.refl _ _).set (p := N) (b := ⟨N, 0, none⟩) (.inl rfl) _).alloc _, (hN.set1 _).alloc _⟩
  have hB' : decide ((d : Int) > 30) = false := by simp; omega
  have hB2 : decide (30 < d) = false := by simp; omega
  have hnd := fun w => pnode_any o nn ad kids.length cap w
  cases hC : nodeB o nn kids.length with
  | false =>
    have HF : Hid (¬ okAt (.mk o nn kids) n d) := Lib.hid (by rintro ⟨h, _, _⟩; rw [hok, hC] at h; cases h)
    rw [hC] at hnd
    clear ih hks ht hcnt hdep hok hA hB hC
    go_enter Tryz.func29, Tryz.ntmps29
    go_wp2_with fail
    refine (hnd _).mono ?_
    rintro e w1 ⟨rfl, hb⟩
    go_wp2_with fail
    go_ret
    exact ⟨false, n + 1, rfl, by simp [HF.out], by simp, (((Kept.refl _ _).set (p := N) (b := ⟨N, 0, none⟩) (.inl rfl) _).alloc _).later hb, ((hN.set1 _).alloc _).below hb⟩
  | true =>
    rw [hC] at hnd
    have hIH : ∀ (k : Nat) (hk : k < kids.length) (n2 : Nat) (v2 : Value) (w2 : World), n2 ≤ 200 → Tree Q w2 kids[k] v2 → Own w2 N [.int .i64 (n2 : Nat)] → Own w2 V [vldV N V] →
        Calls Tryz.prog 29 #[v2, .int .i64 ((d : Int) + 1), .pointer (some ⟨N, 0, none⟩), .pointer (some ⟨V, 0, none⟩)] w2 (VEnd N kids[k] n2 (d + 1) w2) :=
      fun k hk n2 v2 w2 h1 h2 h3 h4 => ih kids[k] (List.getElem_mem hk) n2 (d + 1) v2 w2 h1 (by omega) h2 h3 h4
    clear ih
    have hC2 := hC
    go_enter Tryz.func29, Tryz.ntmps29
    go_wp2_with fail
    refine (hnd _).mono ?_
    rintro e w1 ⟨rfl, hb⟩
    have o2 := (Own.at (w.setCell ⟨N, 0, none⟩ (.int .i64 ((n : Int) + 1))) #[.int .i64 o, .int .i64 nn, .slice ad kids.length cap] 24 w.heap.size (by simp)).below hb
    have o3 := ((hN.set1 (.int .i64 ((n : Int) + 1))).alloc (.cells #[.int .i64 o, .int .i64 nn, .slice ad kids.length cap] 24)).below hb
    have o4 := ((hV.setCell (p := ⟨N, 0, none⟩) hNV (.int .i64 ((n : Int) + 1))).alloc (.cells #[.int .i64 o, .int .i64 nn, .slice ad kids.length cap] 24)).below hb
    have k1 := (((Kept.refl (some N) w).set (p := N) (b := ⟨N, 0, none⟩) (.inl rfl) (.int .i64 ((n : Int) + 1))).alloc (.cells #[.int .i64 o, .int .i64 nn, .slice ad kids.length cap] 24)).later hb
    obtain ⟨c0, c1, c2, -, -, -, zc⟩ := o2.three
    clear hnd hb hC a0 a1 b0 o1
    go_wp2_with fail
    clear c0 c1 c2
    go_loopw [25] (fun i wr => ∃ k : Nat, i = .int .i64 k ∧ k ≤ kids.length ∧ okL (kids.take k) = true ∧ n + 1 + cntL (kids.take k) ≤ 200 ∧ d + 1 + depL (kids.take k) ≤ 31 ∧ Own wr N [.int .i64 ((n + 1 + cntL (kids.take k) : Nat) : Int)] ∧ Own wr V [vldV N V] ∧ Kept (some N) w wr) (fun i _ => kids.length - (intOf i).toNat)
    case atStart => exact ⟨0, rfl, Nat.zero_le _, by simp [okL], by simp [cntL]; omega, by simp [depL]; omega, by simpa [cntL] using o3, o4, k1⟩
    case round =>
      obtain ⟨k, rfl, hkl, r1, r2, r3, q3, q4, q1⟩ := hrel
      by_cases hk : k < kids.length
      · obtain ⟨c1, c2⟩ := cnt_at hk
        obtain ⟨d1, d2⟩ := dep_at hk
        have e1 := ok_at hk
        have t1 := ht.keep q1 hQ
        obtain ⟨ad', cap', hv', -, ts⟩ := t1.shape
        have hadd : ad' = ad := by simp [Xp.o, Xp.n, Xp.ks] at hv'; exact hv'.1.symm
        subst hadd
        obtain ⟨a, ad2, cap2, rfl, m0, m1, m2, tk, hab⟩ := ts.reads k hk
        simp only [Xp.ks] at m0 m1 m2 tk
        have hb0 := q4.cell 0 _ rfl
        unfold vldV at hb0
        have zV2 := q4.lt
        have zN2 := q3.lt
        have hmem := List.getElem_mem hk
        have hcl : ((k : Int) < (kids.length : Int)) := by omega
        have hwk : IntKind.i64.wrap ((k : Int) + 1) = (k : Int) + 1 := IntWalk.i64_in _ (by omega)
        have hcall := hIH k hk (n + 1 + cntL (kids.take k)) _ (wr.alloc (.cells #[.int .i64 (kids[k]).o, .int .i64 (kids[k]).n, .slice ad2 (kids[k]).ks.length cap2] 24)) (by omega) (tk.alloc _) (q3.alloc _) (q4.alloc _)
        have HA : Hid (okAt kids[k] (n + 1 + cntL (kids.take k)) (d + 1) → okL (kids.take (k + 1)) = true ∧ n + 1 + cntL (kids.take (k + 1)) ≤ 200 ∧ d + 1 + depL (kids.take (k + 1)) ≤ 31) := Lib.hid (by
          rintro ⟨h1, h2, h3⟩
          exact ⟨by rw [e1, r1, h1]; rfl, by omega, by omega⟩)
        have HB : Hid (okAt (.mk o nn kids) n d → okAt kids[k] (n + 1 + cntL (kids.take k)) (d + 1)) := Lib.hid (by
          rintro ⟨h1, h2, h3⟩
          rw [hok, Bool.and_eq_true] at h1
          exact ⟨okL_mem h1.2 _ hmem, by omega, by omega⟩)
        have HC : Hid (n + 1 + cntL (kids.take k) + cntE kids[k] = n + 1 + cntL (kids.take (k + 1))) := Lib.hid (by omega)
        generalize kids[k] = x at *
        generalize cntL (kids.take k) = c at *
        clear c1 c2 d1 d2 e1 hmem r1 r2 r3 hv' t1 ts hcnt hdep hok
        go_wp2_with fail
        refine hcall.mono ?_
        rintro e w2 ⟨b, n', rfl, h1, h2, kk, oN⟩
        cases b with
        | true =>
          obtain ⟨g1, g2, g3⟩ := HA.out (h1.1 rfl)
          have hn' := h2 rfl
          clear h1 h2
          go_wp2_with fail
          rw [HC.out] at hn'
          subst hn'
          go_roundw
          case rel => exact ⟨k + 1, by go_num, by omega, g1, g2, g3, oN, kk.own (q4.alloc _) (by simp; omega), (q1.alloc _).trans kk⟩
          case measure => simp [intOf]; omega
        | false =>
          have HF : Hid (¬ okAt (.mk o nn kids) n d) := Lib.hid (fun h => by have := h1.2 (HB.out h); cases this)
          go_wp2_with fail
          go_ret
          exact ⟨false, n', rfl, by simp [HF.out], by simp, (q1.alloc _).trans kk, oN⟩
      · have hkE : k = kids.length := by omega
        subst hkE
        rw [List.take_length] at *
        have HT : Hid (okAt (.mk o nn kids) n d) := Lib.hid ⟨by rw [hok, r1, Bool.and_true]; exact hC2, by omega, by omega⟩
        have HC : Hid (n + 1 + cntL kids = n + cntE (.mk o nn kids)) := Lib.hid (by omega)
        clear hcnt hdep hok r1 r2 r3
        go_wp2_with fail
        go_ret
        exact ⟨true, _, rfl, by simp [HT.out], fun _ => HC.out, q1, q3⟩
set_option maxHeartbeats 800000 in
/-- the program's Valid -/
theorem pvalid_any {Q : Nat → Prop} (e : Xp) (v : Value) (w : World) (ht : Tree Q w e v) : Calls Tryz.prog 11 #[v] w (Ret (.bool (validF e)) w) := by
  have hmf : ∀ (fn : Fn) (first cap : Array Value) (w : World), (Instr.makeFunc fn first cap).run Tryz.prog w = .ok (.func fn first cap) w := fun _ _ _ _ => rfl
  obtain ⟨ad, cap, rfl, -, -⟩ := ht.shape
  go_enter Tryz.func11, Tryz.ntmps11
  go_wp2_with fail
  have hv := vld_any (fun k => w.heap.size ≤ k) (w.heap.size + 1) (w.heap.size + 1 + 1) (by simp) (by omega) e 0 1 _ (((w.alloc (.cells #[.int .i64 e.o, .int .i64 e.n, .slice ad e.ks.length cap] 24)).alloc (.cells #[.int .i64 0] 3)).alloc (.cells #[vldV (w.heap.size + 1) (w.heap.size + 1 + 1)] 70)) (by omega) (by omega)
    ((((ht.bars (R := fun k => w.heap.size ≤ k) fun u hu (h : w.heap.size ≤ u) => by omega).alloc _).alloc _).alloc _)
    ((Own.at (w.alloc _) #[.int .i64 0] _ (w.heap.size + 1) (by simp)).alloc _) (Own.at ((w.alloc _).alloc _) #[vldV (w.heap.size + 1) (w.heap.size + 1 + 1)] _ (w.heap.size + 1 + 1) (by simp))
  refine hv.mono ?_
  rintro x w1 ⟨b, n', rfl, hb, -, hk, -⟩
  go_wp2_with fail
  go_ret
  refine Ret.mk (congrArg Value.bool ?_) ?_
  · rw [Bool.eq_iff_iff, hb]
    unfold okAt validF
    simp only [Bool.and_eq_true, decide_eq_true_eq]
    exact ⟨fun ⟨h1, h2, h3⟩ => ⟨⟨h1, by omega⟩, by omega⟩, fun ⟨⟨h1, h2⟩, h3⟩ => ⟨h1, by omega, by omega⟩⟩
  · exact Below.trans (by (repeat (first | exact Below.refl _ _ | assumption | refine Below.drew ?_ | refine below_drewN ?_ _ | refine Below.setCell ?_ (by first | omega | (simp <;> omega)) _ | refine Below.alloc ?_ (by first | omega | (simp <;> omega)) _))) (hk.below (B := w.heap.size) (by omega) (by simp; omega))
end Go.Proofs.YthnlenbfknbmcaaGreatDoor
