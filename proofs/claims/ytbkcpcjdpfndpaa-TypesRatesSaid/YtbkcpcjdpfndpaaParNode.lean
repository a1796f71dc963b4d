/-
  A node by itself: the program's isNode, the reference's node.
-/
import Derived.Test.YtbkcpcjdpfndpaaParVal
namespace Go.Proofs.Ytbkcpcjdpfndpaa
open Go.RowKit Go.Shelf
set_option maxRecDepth 100000

theorem pnode_1 (n : Int) (ad : Option Addr) (len cap : Nat) (w : World) : Calls Try.prog 31 #[.agg #[.int .i64 1, .int .i64 n, .slice ad len cap]] w (Ret (.bool (nodeB 1 n len)) w) := by
  by_cases h : len = 0
  · subst h
    by_cases h2 : (0 : Int) ≤ n
    · go_enter Try.func31, Try.ntmps31
      go_wp2_with fail
      go_ret
      exact Ret.mk (boolV (by simp [nodeB]; omega)) (by (repeat (first | exact Below.refl _ _ | assumption | refine Below.drew ?_ | refine below_drewN ?_ _ | refine Below.setCell ?_ (by first | omega | (simp <;> omega)) _ | refine Below.alloc ?_ (by first | omega | (simp <;> omega)) _)))
    · have h2' : decide ((0 : Int) ≤ n) = false := by simpa using h2
      go_enter Try.func31, Try.ntmps31
      go_wp2_with fail
      go_ret
      exact Ret.mk (boolV (by simp [nodeB]; omega)) (by (repeat (first | exact Below.refl _ _ | assumption | refine Below.drew ?_ | refine below_drewN ?_ _ | refine Below.setCell ?_ (by first | omega | (simp <;> omega)) _ | refine Below.alloc ?_ (by first | omega | (simp <;> omega)) _)))
  · have h' : ((len : Int) == 0) = false := by rw [beq_eq_false_iff_ne]; omega
    go_enter Try.func31, Try.ntmps31
    go_wp2_with fail
    go_ret
    exact Ret.mk (boolV (by simp [nodeB, h])) (by (repeat (first | exact Below.refl _ _ | assumption | refine Below.drew ?_ | refine below_drewN ?_ _ | refine Below.setCell ?_ (by first | omega | (simp <;> omega)) _ | refine Below.alloc ?_ (by first | omega | (simp <;> omega)) _)))
theorem pnode_2 (n : Int) (ad : Option Addr) (len cap : Nat) (w : World) : Calls Try.prog 31 #[.agg #[.int .i64 2, .int .i64 n, .slice ad len cap]] w (Ret (.bool (nodeB 2 n len)) w) := by
  by_cases h : len = 0
  · subst h
    by_cases h2 : (0 : Int) ≤ n
    · go_enter Try.func31, Try.ntmps31
      go_wp2_with fail
      go_ret
      exact Ret.mk (boolV (by simp [nodeB]; omega)) (by (repeat (first | exact Below.refl _ _ | assumption | refine Below.drew ?_ | refine below_drewN ?_ _ | refine Below.setCell ?_ (by first | omega | (simp <;> omega)) _ | refine Below.alloc ?_ (by first | omega | (simp <;> omega)) _)))
    · have h2' : decide ((0 : Int) ≤ n) = false := by simpa using h2
      go_enter Try.func31, Try.ntmps31
      go_wp2_with fail
      go_ret
      exact Ret.mk (boolV (by simp [nodeB]; omega)) (by (repeat (first | exact Below.refl _ _ | assumption | refine Below.drew ?_ | refine below_drewN ?_ _ | refine Below.setCell ?_ (by first | omega | (simp <;> omega)) _ | refine Below.alloc ?_ (by first | omega | (simp <;> omega)) _)))
  · have h' : ((len : Int) == 0) = false := by rw [beq_eq_false_iff_ne]; omega
    go_enter Try.func31, Try.ntmps31
    go_wp2_with fail
    go_ret
    exact Ret.mk (boolV (by simp [nodeB, h])) (by (repeat (first | exact Below.refl _ _ | assumption | refine Below.drew ?_ | refine below_drewN ?_ _ | refine Below.setCell ?_ (by first | omega | (simp <;> omega)) _ | refine Below.alloc ?_ (by first | omega | (simp <;> omega)) _)))
theorem pnode_3 (n : Int) (ad : Option Addr) (len cap : Nat) (w : World) : Calls Try.prog 31 #[.agg #[.int .i64 3, .int .i64 n, .slice ad len cap]] w (Ret (.bool (nodeB 3 n len)) w) := by
  by_cases h : len = 0
  · subst h
    by_cases h2 : (1 : Int) ≤ n
    · go_enter Try.func31, Try.ntmps31
      go_wp2_with fail
      go_ret
      exact Ret.mk (boolV (by simp [nodeB]; omega)) (by (repeat (first | exact Below.refl _ _ | assumption | refine Below.drew ?_ | refine below_drewN ?_ _ | refine Below.setCell ?_ (by first | omega | (simp <;> omega)) _ | refine Below.alloc ?_ (by first | omega | (simp <;> omega)) _)))
    · have h2' : decide ((1 : Int) ≤ n) = false := by simpa using h2
      go_enter Try.func31, Try.ntmps31
      go_wp2_with fail
      go_ret
      exact Ret.mk (boolV (by simp [nodeB]; omega)) (by (repeat (first | exact Below.refl _ _ | assumption | refine Below.drew ?_ | refine below_drewN ?_ _ | refine Below.setCell ?_ (by first | omega | (simp <;> omega)) _ | refine Below.alloc ?_ (by first | omega | (simp <;> omega)) _)))
  · have h' : ((len : Int) == 0) = false := by rw [beq_eq_false_iff_ne]; omega
    go_enter Try.func31, Try.ntmps31
    go_wp2_with fail
    go_ret
    exact Ret.mk (boolV (by simp [nodeB, h])) (by (repeat (first | exact Below.refl _ _ | assumption | refine Below.drew ?_ | refine below_drewN ?_ _ | refine Below.setCell ?_ (by first | omega | (simp <;> omega)) _ | refine Below.alloc ?_ (by first | omega | (simp <;> omega)) _)))
theorem pnode_15 (n : Int) (ad : Option Addr) (len cap : Nat) (w : World) : Calls Try.prog 31 #[.agg #[.int .i64 15, .int .i64 n, .slice ad len cap]] w (Ret (.bool (nodeB 15 n len)) w) := by
  by_cases h : len = 1
  · subst h
    by_cases h2 : (0 : Int) ≤ n
    · go_enter Try.func31, Try.ntmps31
      go_wp2_with fail
      go_ret
      exact Ret.mk (boolV (by simp [nodeB]; omega)) (by (repeat (first | exact Below.refl _ _ | assumption | refine Below.drew ?_ | refine below_drewN ?_ _ | refine Below.setCell ?_ (by first | omega | (simp <;> omega)) _ | refine Below.alloc ?_ (by first | omega | (simp <;> omega)) _)))
    · have h2' : decide ((0 : Int) ≤ n) = false := by simpa using h2
      go_enter Try.func31, Try.ntmps31
      go_wp2_with fail
      go_ret
      exact Ret.mk (boolV (by simp [nodeB]; omega)) (by (repeat (first | exact Below.refl _ _ | assumption | refine Below.drew ?_ | refine below_drewN ?_ _ | refine Below.setCell ?_ (by first | omega | (simp <;> omega)) _ | refine Below.alloc ?_ (by first | omega | (simp <;> omega)) _)))
  · have h' : ((len : Int) == 1) = false := by rw [beq_eq_false_iff_ne]; omega
    go_enter Try.func31, Try.ntmps31
    go_wp2_with fail
    go_ret
    exact Ret.mk (boolV (by simp [nodeB, h])) (by (repeat (first | exact Below.refl _ _ | assumption | refine Below.drew ?_ | refine below_drewN ?_ _ | refine Below.setCell ?_ (by first | omega | (simp <;> omega)) _ | refine Below.alloc ?_ (by first | omega | (simp <;> omega)) _)))
theorem pnode_10 (n : Int) (ad : Option Addr) (len cap : Nat) (w : World) : Calls Try.prog 31 #[.agg #[.int .i64 10, .int .i64 n, .slice ad len cap]] w (Ret (.bool (nodeB 10 n len)) w) := by
  by_cases h : len = 3
  · subst h
    by_cases h2 : (0 : Int) ≤ n
    · go_enter Try.func31, Try.ntmps31
      go_wp2_with fail
      go_ret
      exact Ret.mk (boolV (by simp [nodeB]; omega)) (by (repeat (first | exact Below.refl _ _ | assumption | refine Below.drew ?_ | refine below_drewN ?_ _ | refine Below.setCell ?_ (by first | omega | (simp <;> omega)) _ | refine Below.alloc ?_ (by first | omega | (simp <;> omega)) _)))
    · have h2' : decide ((0 : Int) ≤ n) = false := by simpa using h2
      go_enter Try.func31, Try.ntmps31
      go_wp2_with fail
      go_ret
      exact Ret.mk (boolV (by simp [nodeB]; omega)) (by (repeat (first | exact Below.refl _ _ | assumption | refine Below.drew ?_ | refine below_drewN ?_ _ | refine Below.setCell ?_ (by first | omega | (simp <;> omega)) _ | refine Below.alloc ?_ (by first | omega | (simp <;> omega)) _)))
  · have h' : ((len : Int) == 3) = false := by rw [beq_eq_false_iff_ne]; omega
    go_enter Try.func31, Try.ntmps31
    go_wp2_with fail
    go_ret
    exact Ret.mk (boolV (by simp [nodeB, h])) (by (repeat (first | exact Below.refl _ _ | assumption | refine Below.drew ?_ | refine below_drewN ?_ _ | refine Below.setCell ?_ (by first | omega | (simp <;> omega)) _ | refine Below.alloc ?_ (by first | omega | (simp <;> omega)) _)))
theorem pnode_4 (n : Int) (ad : Option Addr) (len cap : Nat) (w : World) : Calls Try.prog 31 #[.agg #[.int .i64 4, .int .i64 n, .slice ad len cap]] w (Ret (.bool (nodeB 4 n len)) w) := by
  by_cases h : len = 2
  · subst h
    by_cases h2 : (0 : Int) ≤ n
    · go_enter Try.func31, Try.ntmps31
      go_wp2_with fail
      go_ret
      exact Ret.mk (boolV (by simp [nodeB]; omega)) (by (repeat (first | exact Below.refl _ _ | assumption | refine Below.drew ?_ | refine below_drewN ?_ _ | refine Below.setCell ?_ (by first | omega | (simp <;> omega)) _ | refine Below.alloc ?_ (by first | omega | (simp <;> omega)) _)))
    · have h2' : decide ((0 : Int) ≤ n) = false := by simpa using h2
      go_enter Try.func31, Try.ntmps31
      go_wp2_with fail
      go_ret
      exact Ret.mk (boolV (by simp [nodeB]; omega)) (by (repeat (first | exact Below.refl _ _ | assumption | refine Below.drew ?_ | refine below_drewN ?_ _ | refine Below.setCell ?_ (by first | omega | (simp <;> omega)) _ | refine Below.alloc ?_ (by first | omega | (simp <;> omega)) _)))
  · have h' : ((len : Int) == 2) = false := by rw [beq_eq_false_iff_ne]; omega
    go_enter Try.func31, Try.ntmps31
    go_wp2_with fail
    go_ret
    exact Ret.mk (boolV (by simp [nodeB, h])) (by (repeat (first | exact Below.refl _ _ | assumption | refine Below.drew ?_ | refine below_drewN ?_ _ | refine Below.setCell ?_ (by first | omega | (simp <;> omega)) _ | refine Below.alloc ?_ (by first | omega | (simp <;> omega)) _)))
theorem pnode_5 (n : Int) (ad : Option Addr) (len cap : Nat) (w : World) : Calls Try.prog 31 #[.agg #[.int .i64 5, .int .i64 n, .slice ad len cap]] w (Ret (.bool (nodeB 5 n len)) w) := by
  by_cases h : len = 2
  · subst h
    by_cases h2 : (0 : Int) ≤ n
    · go_enter Try.func31, Try.ntmps31
      go_wp2_with fail
      go_ret
      exact Ret.mk (boolV (by simp [nodeB]; omega)) (by (repeat (first | exact Below.refl _ _ | assumption | refine Below.drew ?_ | refine below_drewN ?_ _ | refine Below.setCell ?_ (by first | omega | (simp <;> omega)) _ | refine Below.alloc ?_ (by first | omega | (simp <;> omega)) _)))
    · have h2' : decide ((0 : Int) ≤ n) = false := by simpa using h2
      go_enter Try.func31, Try.ntmps31
      go_wp2_with fail
      go_ret
      exact Ret.mk (boolV (by simp [nodeB]; omega)) (by (repeat (first | exact Below.refl _ _ | assumption | refine Below.drew ?_ | refine below_drewN ?_ _ | refine Below.setCell ?_ (by first | omega | (simp <;> omega)) _ | refine Below.alloc ?_ (by first | omega | (simp <;> omega)) _)))
  · have h' : ((len : Int) == 2) = false := by rw [beq_eq_false_iff_ne]; omega
    go_enter Try.func31, Try.ntmps31
    go_wp2_with fail
    go_ret
    exact Ret.mk (boolV (by simp [nodeB, h])) (by (repeat (first | exact Below.refl _ _ | assumption | refine Below.drew ?_ | refine below_drewN ?_ _ | refine Below.setCell ?_ (by first | omega | (simp <;> omega)) _ | refine Below.alloc ?_ (by first | omega | (simp <;> omega)) _)))
theorem pnode_6 (n : Int) (ad : Option Addr) (len cap : Nat) (w : World) : Calls Try.prog 31 #[.agg #[.int .i64 6, .int .i64 n, .slice ad len cap]] w (Ret (.bool (nodeB 6 n len)) w) := by
  by_cases h : len = 2
  · subst h
    by_cases h2 : (0 : Int) ≤ n
    · go_enter Try.func31, Try.ntmps31
      go_wp2_with fail
      go_ret
      exact Ret.mk (boolV (by simp [nodeB]; omega)) (by (repeat (first | exact Below.refl _ _ | assumption | refine Below.drew ?_ | refine below_drewN ?_ _ | refine Below.setCell ?_ (by first | omega | (simp <;> omega)) _ | refine Below.alloc ?_ (by first | omega | (simp <;> omega)) _)))
    · have h2' : decide ((0 : Int) ≤ n) = false := by simpa using h2
      go_enter Try.func31, Try.ntmps31
      go_wp2_with fail
      go_ret
      exact Ret.mk (boolV (by simp [nodeB]; omega)) (by (repeat (first | exact Below.refl _ _ | assumption | refine Below.drew ?_ | refine below_drewN ?_ _ | refine Below.setCell ?_ (by first | omega | (simp <;> omega)) _ | refine Below.alloc ?_ (by first | omega | (simp <;> omega)) _)))
  · have h' : ((len : Int) == 2) = false := by rw [beq_eq_false_iff_ne]; omega
    go_enter Try.func31, Try.ntmps31
    go_wp2_with fail
    go_ret
    exact Ret.mk (boolV (by simp [nodeB, h])) (by (repeat (first | exact Below.refl _ _ | assumption | refine Below.drew ?_ | refine below_drewN ?_ _ | refine Below.setCell ?_ (by first | omega | (simp <;> omega)) _ | refine Below.alloc ?_ (by first | omega | (simp <;> omega)) _)))
theorem pnode_7 (n : Int) (ad : Option Addr) (len cap : Nat) (w : World) : Calls Try.prog 31 #[.agg #[.int .i64 7, .int .i64 n, .slice ad len cap]] w (Ret (.bool (nodeB 7 n len)) w) := by
  by_cases h : len = 2
  · subst h
    by_cases h2 : (0 : Int) ≤ n
    · go_enter Try.func31, Try.ntmps31
      go_wp2_with fail
      go_ret
      exact Ret.mk (boolV (by simp [nodeB]; omega)) (by (repeat (first | exact Below.refl _ _ | assumption | refine Below.drew ?_ | refine below_drewN ?_ _ | refine Below.setCell ?_ (by first | omega | (simp <;> omega)) _ | refine Below.alloc ?_ (by first | omega | (simp <;> omega)) _)))
    · have h2' : decide ((0 : Int) ≤ n) = false := by simpa using h2
      go_enter Try.func31, Try.ntmps31
      go_wp2_with fail
      go_ret
      exact Ret.mk (boolV (by simp [nodeB]; omega)) (by (repeat (first | exact Below.refl _ _ | assumption | refine Below.drew ?_ | refine below_drewN ?_ _ | refine Below.setCell ?_ (by first | omega | (simp <;> omega)) _ | refine Below.alloc ?_ (by first | omega | (simp <;> omega)) _)))
  · have h' : ((len : Int) == 2) = false := by rw [beq_eq_false_iff_ne]; omega
    go_enter Try.func31, Try.ntmps31
    go_wp2_with fail
    go_ret
    exact Ret.mk (boolV (by simp [nodeB, h])) (by (repeat (first | exact Below.refl _ _ | assumption | refine Below.drew ?_ | refine below_drewN ?_ _ | refine Below.setCell ?_ (by first | omega | (simp <;> omega)) _ | refine Below.alloc ?_ (by first | omega | (simp <;> omega)) _)))
theorem pnode_8 (n : Int) (ad : Option Addr) (len cap : Nat) (w : World) : Calls Try.prog 31 #[.agg #[.int .i64 8, .int .i64 n, .slice ad len cap]] w (Ret (.bool (nodeB 8 n len)) w) := by
  by_cases h : len = 2
  · subst h
    by_cases h2 : (0 : Int) ≤ n
    · go_enter Try.func31, Try.ntmps31
      go_wp2_with fail
      go_ret
      exact Ret.mk (boolV (by simp [nodeB]; omega)) (by (repeat (first | exact Below.refl _ _ | assumption | refine Below.drew ?_ | refine below_drewN ?_ _ | refine Below.setCell ?_ (by first | omega | (simp <;> omega)) _ | refine Below.alloc ?_ (by first | omega | (simp <;> omega)) _)))
    · have h2' : decide ((0 : Int) ≤ n) = false := by simpa using h2
      go_enter Try.func31, Try.ntmps31
      go_wp2_with fail
      go_ret
      exact Ret.mk (boolV (by simp [nodeB]; omega)) (by (repeat (first | exact Below.refl _ _ | assumption | refine Below.drew ?_ | refine below_drewN ?_ _ | refine Below.setCell ?_ (by first | omega | (simp <;> omega)) _ | refine Below.alloc ?_ (by first | omega | (simp <;> omega)) _)))
  · have h' : ((len : Int) == 2) = false := by rw [beq_eq_false_iff_ne]; omega
    go_enter Try.func31, Try.ntmps31
    go_wp2_with fail
    go_ret
    exact Ret.mk (boolV (by simp [nodeB, h])) (by (repeat (first | exact Below.refl _ _ | assumption | refine Below.drew ?_ | refine below_drewN ?_ _ | refine Below.setCell ?_ (by first | omega | (simp <;> omega)) _ | refine Below.alloc ?_ (by first | omega | (simp <;> omega)) _)))
theorem pnode_9 (n : Int) (ad : Option Addr) (len cap : Nat) (w : World) : Calls Try.prog 31 #[.agg #[.int .i64 9, .int .i64 n, .slice ad len cap]] w (Ret (.bool (nodeB 9 n len)) w) := by
  by_cases h : len = 2
  · subst h
    by_cases h2 : (0 : Int) ≤ n
    · go_enter Try.func31, Try.ntmps31
      go_wp2_with fail
      go_ret
      exact Ret.mk (boolV (by simp [nodeB]; omega)) (by (repeat (first | exact Below.refl _ _ | assumption | refine Below.drew ?_ | refine below_drewN ?_ _ | refine Below.setCell ?_ (by first | omega | (simp <;> omega)) _ | refine Below.alloc ?_ (by first | omega | (simp <;> omega)) _)))
    · have h2' : decide ((0 : Int) ≤ n) = false := by simpa using h2
      go_enter Try.func31, Try.ntmps31
      go_wp2_with fail
      go_ret
      exact Ret.mk (boolV (by simp [nodeB]; omega)) (by (repeat (first | exact Below.refl _ _ | assumption | refine Below.drew ?_ | refine below_drewN ?_ _ | refine Below.setCell ?_ (by first | omega | (simp <;> omega)) _ | refine Below.alloc ?_ (by first | omega | (simp <;> omega)) _)))
  · have h' : ((len : Int) == 2) = false := by rw [beq_eq_false_iff_ne]; omega
    go_enter Try.func31, Try.ntmps31
    go_wp2_with fail
    go_ret
    exact Ret.mk (boolV (by simp [nodeB, h])) (by (repeat (first | exact Below.refl _ _ | assumption | refine Below.drew ?_ | refine below_drewN ?_ _ | refine Below.setCell ?_ (by first | omega | (simp <;> omega)) _ | refine Below.alloc ?_ (by first | omega | (simp <;> omega)) _)))
theorem pnode_11 (n : Int) (ad : Option Addr) (len cap : Nat) (w : World) : Calls Try.prog 31 #[.agg #[.int .i64 11, .int .i64 n, .slice ad len cap]] w (Ret (.bool (nodeB 11 n len)) w) := by
  by_cases h : len = 2
  · subst h
    by_cases h2 : (0 : Int) ≤ n
    · go_enter Try.func31, Try.ntmps31
      go_wp2_with fail
      go_ret
      exact Ret.mk (boolV (by simp [nodeB]; omega)) (by (repeat (first | exact Below.refl _ _ | assumption | refine Below.drew ?_ | refine below_drewN ?_ _ | refine Below.setCell ?_ (by first | omega | (simp <;> omega)) _ | refine Below.alloc ?_ (by first | omega | (simp <;> omega)) _)))
    · have h2' : decide ((0 : Int) ≤ n) = false := by simpa using h2
      go_enter Try.func31, Try.ntmps31
      go_wp2_with fail
      go_ret
      exact Ret.mk (boolV (by simp [nodeB]; omega)) (by (repeat (first | exact Below.refl _ _ | assumption | refine Below.drew ?_ | refine below_drewN ?_ _ | refine Below.setCell ?_ (by first | omega | (simp <;> omega)) _ | refine Below.alloc ?_ (by first | omega | (simp <;> omega)) _)))
  · have h' : ((len : Int) == 2) = false := by rw [beq_eq_false_iff_ne]; omega
    go_enter Try.func31, Try.ntmps31
    go_wp2_with fail
    go_ret
    exact Ret.mk (boolV (by simp [nodeB, h])) (by (repeat (first | exact Below.refl _ _ | assumption | refine Below.drew ?_ | refine below_drewN ?_ _ | refine Below.setCell ?_ (by first | omega | (simp <;> omega)) _ | refine Below.alloc ?_ (by first | omega | (simp <;> omega)) _)))
theorem pnode_12 (n : Int) (ad : Option Addr) (len cap : Nat) (w : World) : Calls Try.prog 31 #[.agg #[.int .i64 12, .int .i64 n, .slice ad len cap]] w (Ret (.bool (nodeB 12 n len)) w) := by
  by_cases h : len = 2
  · subst h
    by_cases h2 : (0 : Int) ≤ n
    · go_enter Try.func31, Try.ntmps31
      go_wp2_with fail
      go_ret
      exact Ret.mk (boolV (by simp [nodeB]; omega)) (by (repeat (first | exact Below.refl _ _ | assumption | refine Below.drew ?_ | refine below_drewN ?_ _ | refine Below.setCell ?_ (by first | omega | (simp <;> omega)) _ | refine Below.alloc ?_ (by first | omega | (simp <;> omega)) _)))
    · have h2' : decide ((0 : Int) ≤ n) = false := by simpa using h2
      go_enter Try.func31, Try.ntmps31
      go_wp2_with fail
      go_ret
      exact Ret.mk (boolV (by simp [nodeB]; omega)) (by (repeat (first | exact Below.refl _ _ | assumption | refine Below.drew ?_ | refine below_drewN ?_ _ | refine Below.setCell ?_ (by first | omega | (simp <;> omega)) _ | refine Below.alloc ?_ (by first | omega | (simp <;> omega)) _)))
  · have h' : ((len : Int) == 2) = false := by rw [beq_eq_false_iff_ne]; omega
    go_enter Try.func31, Try.ntmps31
    go_wp2_with fail
    go_ret
    exact Ret.mk (boolV (by simp [nodeB, h])) (by (repeat (first | exact Below.refl _ _ | assumption | refine Below.drew ?_ | refine below_drewN ?_ _ | refine Below.setCell ?_ (by first | omega | (simp <;> omega)) _ | refine Below.alloc ?_ (by first | omega | (simp <;> omega)) _)))
theorem pnode_13 (n : Int) (ad : Option Addr) (len cap : Nat) (w : World) : Calls Try.prog 31 #[.agg #[.int .i64 13, .int .i64 n, .slice ad len cap]] w (Ret (.bool (nodeB 13 n len)) w) := by
  by_cases h : len = 2
  · subst h
    by_cases h2 : (0 : Int) ≤ n
    · go_enter Try.func31, Try.ntmps31
      go_wp2_with fail
      go_ret
      exact Ret.mk (boolV (by simp [nodeB]; omega)) (by (repeat (first | exact Below.refl _ _ | assumption | refine Below.drew ?_ | refine below_drewN ?_ _ | refine Below.setCell ?_ (by first | omega | (simp <;> omega)) _ | refine Below.alloc ?_ (by first | omega | (simp <;> omega)) _)))
    · have h2' : decide ((0 : Int) ≤ n) = false := by simpa using h2
      go_enter Try.func31, Try.ntmps31
      go_wp2_with fail
      go_ret
      exact Ret.mk (boolV (by simp [nodeB]; omega)) (by (repeat (first | exact Below.refl _ _ | assumption | refine Below.drew ?_ | refine below_drewN ?_ _ | refine Below.setCell ?_ (by first | omega | (simp <;> omega)) _ | refine Below.alloc ?_ (by first | omega | (simp <;> omega)) _)))
  · have h' : ((len : Int) == 2) = false := by rw [beq_eq_false_iff_ne]; omega
    go_enter Try.func31, Try.ntmps31
    go_wp2_with fail
    go_ret
    exact Ret.mk (boolV (by simp [nodeB, h])) (by (repeat (first | exact Below.refl _ _ | assumption | refine Below.drew ?_ | refine below_drewN ?_ _ | refine Below.setCell ?_ (by first | omega | (simp <;> omega)) _ | refine Below.alloc ?_ (by first | omega | (simp <;> omega)) _)))
theorem pnode_14 (n : Int) (ad : Option Addr) (len cap : Nat) (w : World) : Calls Try.prog 31 #[.agg #[.int .i64 14, .int .i64 n, .slice ad len cap]] w (Ret (.bool (nodeB 14 n len)) w) := by
  by_cases h : len = 2
  · subst h
    by_cases h2 : (0 : Int) ≤ n
    · go_enter Try.func31, Try.ntmps31
      go_wp2_with fail
      go_ret
      exact Ret.mk (boolV (by simp [nodeB]; omega)) (by (repeat (first | exact Below.refl _ _ | assumption | refine Below.drew ?_ | refine below_drewN ?_ _ | refine Below.setCell ?_ (by first | omega | (simp <;> omega)) _ | refine Below.alloc ?_ (by first | omega | (simp <;> omega)) _)))
    · have h2' : decide ((0 : Int) ≤ n) = false := by simpa using h2
      go_enter Try.func31, Try.ntmps31
      go_wp2_with fail
      go_ret
      exact Ret.mk (boolV (by simp [nodeB]; omega)) (by (repeat (first | exact Below.refl _ _ | assumption | refine Below.drew ?_ | refine below_drewN ?_ _ | refine Below.setCell ?_ (by first | omega | (simp <;> omega)) _ | refine Below.alloc ?_ (by first | omega | (simp <;> omega)) _)))
  · have h' : ((len : Int) == 2) = false := by rw [beq_eq_false_iff_ne]; omega
    go_enter Try.func31, Try.ntmps31
    go_wp2_with fail
    go_ret
    exact Ret.mk (boolV (by simp [nodeB, h])) (by (repeat (first | exact Below.refl _ _ | assumption | refine Below.drew ?_ | refine below_drewN ?_ _ | refine Below.setCell ?_ (by first | omega | (simp <;> omega)) _ | refine Below.alloc ?_ (by first | omega | (simp <;> omega)) _)))
theorem pnode_other (o n : Int) (ad : Option Addr) (len cap : Nat) (w : World) (ho : ¬ (1 ≤ o ∧ o ≤ 15)) : Calls Try.prog 31 #[.agg #[.int .i64 o, .int .i64 n, .slice ad len cap]] w (Ret (.bool (nodeB o n len)) w) := by
  have h1 : (o == 1) = false := by rw [beq_eq_false_iff_ne]; omega
  have h2 : (o == 2) = false := by rw [beq_eq_false_iff_ne]; omega
  have h3 : (o == 3) = false := by rw [beq_eq_false_iff_ne]; omega
  have h4 : (o == 4) = false := by rw [beq_eq_false_iff_ne]; omega
  have h5 : (o == 5) = false := by rw [beq_eq_false_iff_ne]; omega
  have h6 : (o == 6) = false := by rw [beq_eq_false_iff_ne]; omega
  have h7 : (o == 7) = false := by rw [beq_eq_false_iff_ne]; omega
  have h8 : (o == 8) = false := by rw [beq_eq_false_iff_ne]; omega
  have h9 : (o == 9) = false := by rw [beq_eq_false_iff_ne]; omega
  have h10 : (o == 10) = false := by rw [beq_eq_false_iff_ne]; omega
  have h11 : (o == 11) = false := by rw [beq_eq_false_iff_ne]; omega
  have h12 : (o == 12) = false := by rw [beq_eq_false_iff_ne]; omega
  have h13 : (o == 13) = false := by rw [beq_eq_false_iff_ne]; omega
  have h14 : (o == 14) = false := by rw [beq_eq_false_iff_ne]; omega
  have h15 : (o == 15) = false := by rw [beq_eq_false_iff_ne]; omega
  have hN : nodeB o n len = false := by unfold nodeB; rw [if_neg (by omega), if_neg (by omega), if_neg (by omega), if_neg (by omega), if_neg (by omega)]; simp; omega
  rw [hN]
  clear hN ho
  go_enter Try.func31, Try.ntmps31
  go_wp2_with fail
  go_ret
  exact Ret.mk rfl (by (repeat (first | exact Below.refl _ _ | assumption | refine Below.drew ?_ | refine below_drewN ?_ _ | refine Below.setCell ?_ (by first | omega | (simp <;> omega)) _ | refine Below.alloc ?_ (by first | omega | (simp <;> omega)) _)))
theorem pnode_any (o n : Int) (ad : Option Addr) (len cap : Nat) (w : World) : Calls Try.prog 31 #[.agg #[.int .i64 o, .int .i64 n, .slice ad len cap]] w (Ret (.bool (nodeB o n len)) w) := by
  by_cases h : 1 ≤ o ∧ o ≤ 15
  · have : o = 1 ∨ o = 2 ∨ o = 3 ∨ o = 4 ∨ o = 5 ∨ o = 6 ∨ o = 7 ∨ o = 8 ∨ o = 9 ∨ o = 10 ∨ o = 11 ∨ o = 12 ∨ o = 13 ∨ o = 14 ∨ o = 15 := by omega
    rcases this with rfl | rfl | rfl | rfl | rfl | rfl | rfl | rfl | rfl | rfl | rfl | rfl | rfl | rfl | rfl
    · exact pnode_1 n ad len cap w
    · exact pnode_2 n ad len cap w
    · exact pnode_3 n ad len cap w
    · exact pnode_4 n ad len cap w
    · exact pnode_5 n ad len cap w
    · exact pnode_6 n ad len cap w
    · exact pnode_7 n ad len cap w
    · exact pnode_8 n ad len cap w
    · exact pnode_9 n ad len cap w
    · exact pnode_10 n ad len cap w
    · exact pnode_11 n ad len cap w
    · exact pnode_12 n ad len cap w
    · exact pnode_13 n ad len cap w
    · exact pnode_14 n ad len cap w
    · exact pnode_15 n ad len cap w
  · exact pnode_other o n ad len cap w h
theorem rnode_1 (n : Int) (ad : Option Addr) (len cap : Nat) (w : World) : Calls Try.prog 39 #[.agg #[.int .i64 1, .int .i64 n, .slice ad len cap]] w (Ret (.bool (nodeB 1 n len)) w) := by
  by_cases h : len = 0
  · subst h
    go_enter Try.func39, Try.ntmps39
    go_wp2_with (go_at_call 53; refine (xin_any _ _ _ _).mono ?_; rintro e w' ⟨rfl, rfl⟩)
    go_ret
    exact Ret.mk (boolV (by simp [nodeB])) (by (repeat (first | exact Below.refl _ _ | assumption | refine Below.drew ?_ | refine below_drewN ?_ _ | refine Below.setCell ?_ (by first | omega | (simp <;> omega)) _ | refine Below.alloc ?_ (by first | omega | (simp <;> omega)) _)))
  · have h' : ((len : Int) == 0) = false := by rw [beq_eq_false_iff_ne]; omega
    go_enter Try.func39, Try.ntmps39
    go_wp2_with fail
    go_ret
    exact Ret.mk (boolV (by simp [nodeB, h])) (by (repeat (first | exact Below.refl _ _ | assumption | refine Below.drew ?_ | refine below_drewN ?_ _ | refine Below.setCell ?_ (by first | omega | (simp <;> omega)) _ | refine Below.alloc ?_ (by first | omega | (simp <;> omega)) _)))
theorem rnode_2 (n : Int) (ad : Option Addr) (len cap : Nat) (w : World) : Calls Try.prog 39 #[.agg #[.int .i64 2, .int .i64 n, .slice ad len cap]] w (Ret (.bool (nodeB 2 n len)) w) := by
  by_cases h : len = 0
  · subst h
    go_enter Try.func39, Try.ntmps39
    go_wp2_with (go_at_call 53; refine (xin_any _ _ _ _).mono ?_; rintro e w' ⟨rfl, rfl⟩)
    go_ret
    exact Ret.mk (boolV (by simp [nodeB])) (by (repeat (first | exact Below.refl _ _ | assumption | refine Below.drew ?_ | refine below_drewN ?_ _ | refine Below.setCell ?_ (by first | omega | (simp <;> omega)) _ | refine Below.alloc ?_ (by first | omega | (simp <;> omega)) _)))
  · have h' : ((len : Int) == 0) = false := by rw [beq_eq_false_iff_ne]; omega
    go_enter Try.func39, Try.ntmps39
    go_wp2_with fail
    go_ret
    exact Ret.mk (boolV (by simp [nodeB, h])) (by (repeat (first | exact Below.refl _ _ | assumption | refine Below.drew ?_ | refine below_drewN ?_ _ | refine Below.setCell ?_ (by first | omega | (simp <;> omega)) _ | refine Below.alloc ?_ (by first | omega | (simp <;> omega)) _)))
theorem rnode_3 (n : Int) (ad : Option Addr) (len cap : Nat) (w : World) : Calls Try.prog 39 #[.agg #[.int .i64 3, .int .i64 n, .slice ad len cap]] w (Ret (.bool (nodeB 3 n len)) w) := by
  by_cases h : len = 0
  · subst h
    go_enter Try.func39, Try.ntmps39
    go_wp2_with (go_at_call 53; refine (xin_any _ _ _ _).mono ?_; rintro e w' ⟨rfl, rfl⟩)
    go_ret
    exact Ret.mk (boolV (by simp [nodeB])) (by (repeat (first | exact Below.refl _ _ | assumption | refine Below.drew ?_ | refine below_drewN ?_ _ | refine Below.setCell ?_ (by first | omega | (simp <;> omega)) _ | refine Below.alloc ?_ (by first | omega | (simp <;> omega)) _)))
  · have h' : ((len : Int) == 0) = false := by rw [beq_eq_false_iff_ne]; omega
    go_enter Try.func39, Try.ntmps39
    go_wp2_with fail
    go_ret
    exact Ret.mk (boolV (by simp [nodeB, h])) (by (repeat (first | exact Below.refl _ _ | assumption | refine Below.drew ?_ | refine below_drewN ?_ _ | refine Below.setCell ?_ (by first | omega | (simp <;> omega)) _ | refine Below.alloc ?_ (by first | omega | (simp <;> omega)) _)))
theorem rnode_15 (n : Int) (ad : Option Addr) (len cap : Nat) (w : World) : Calls Try.prog 39 #[.agg #[.int .i64 15, .int .i64 n, .slice ad len cap]] w (Ret (.bool (nodeB 15 n len)) w) := by
  by_cases h : len = 1
  · subst h
    go_enter Try.func39, Try.ntmps39
    go_wp2_with (go_at_call 53; refine (xin_any _ _ _ _).mono ?_; rintro e w' ⟨rfl, rfl⟩)
    go_ret
    exact Ret.mk (boolV (by simp [nodeB])) (by (repeat (first | exact Below.refl _ _ | assumption | refine Below.drew ?_ | refine below_drewN ?_ _ | refine Below.setCell ?_ (by first | omega | (simp <;> omega)) _ | refine Below.alloc ?_ (by first | omega | (simp <;> omega)) _)))
  · have h' : ((len : Int) == 1) = false := by rw [beq_eq_false_iff_ne]; omega
    go_enter Try.func39, Try.ntmps39
    go_wp2_with fail
    go_ret
    exact Ret.mk (boolV (by simp [nodeB, h])) (by (repeat (first | exact Below.refl _ _ | assumption | refine Below.drew ?_ | refine below_drewN ?_ _ | refine Below.setCell ?_ (by first | omega | (simp <;> omega)) _ | refine Below.alloc ?_ (by first | omega | (simp <;> omega)) _)))
theorem rnode_10 (n : Int) (ad : Option Addr) (len cap : Nat) (w : World) : Calls Try.prog 39 #[.agg #[.int .i64 10, .int .i64 n, .slice ad len cap]] w (Ret (.bool (nodeB 10 n len)) w) := by
  by_cases h : len = 3
  · subst h
    go_enter Try.func39, Try.ntmps39
    go_wp2_with (go_at_call 53; refine (xin_any _ _ _ _).mono ?_; rintro e w' ⟨rfl, rfl⟩)
    go_ret
    exact Ret.mk (boolV (by simp [nodeB])) (by (repeat (first | exact Below.refl _ _ | assumption | refine Below.drew ?_ | refine below_drewN ?_ _ | refine Below.setCell ?_ (by first | omega | (simp <;> omega)) _ | refine Below.alloc ?_ (by first | omega | (simp <;> omega)) _)))
  · have h' : ((len : Int) == 3) = false := by rw [beq_eq_false_iff_ne]; omega
    go_enter Try.func39, Try.ntmps39
    go_wp2_with fail
    go_ret
    exact Ret.mk (boolV (by simp [nodeB, h])) (by (repeat (first | exact Below.refl _ _ | assumption | refine Below.drew ?_ | refine below_drewN ?_ _ | refine Below.setCell ?_ (by first | omega | (simp <;> omega)) _ | refine Below.alloc ?_ (by first | omega | (simp <;> omega)) _)))
theorem rnode_any (o n : Int) (ad : Option Addr) (len cap : Nat) (w : World) : Calls Try.prog 39 #[.agg #[.int .i64 o, .int .i64 n, .slice ad len cap]] w (Ret (.bool (nodeB o n len)) w) := by
  by_cases h1 : o = 1
  · subst h1; exact rnode_1 n ad len cap w
  by_cases h2 : o = 2
  · subst h2; exact rnode_2 n ad len cap w
  by_cases h3 : o = 3
  · subst h3; exact rnode_3 n ad len cap w
  by_cases h15 : o = 15
  · subst h15; exact rnode_15 n ad len cap w
  by_cases h10 : o = 10
  · subst h10; exact rnode_10 n ad len cap w
  have g1 : (o == 1) = false := by rw [beq_eq_false_iff_ne]; exact h1
  have g2 : (o == 2) = false := by rw [beq_eq_false_iff_ne]; exact h2
  have g3 : (o == 3) = false := by rw [beq_eq_false_iff_ne]; exact h3
  have g15 : (o == 15) = false := by rw [beq_eq_false_iff_ne]; exact h15
  have g10 : (o == 10) = false := by rw [beq_eq_false_iff_ne]; exact h10
  have hN : nodeB o n len = (decide (4 ≤ o) && decide (o ≤ 14) && decide (len = 2) && decide (n = 0)) := by unfold nodeB; rw [if_neg h1, if_neg h2, if_neg h3, if_neg h15, if_neg h10]
  rw [hN]
  have hin : ∀ w, Calls Try.prog 53 #[.int .i64 o, .int .i64 4, .int .i64 14] w (Same (.bool (decide (4 ≤ o) && decide (o ≤ 14))) w) := fun w => xin_any o 4 14 w
  cases hb : (decide (4 ≤ o) && decide (o ≤ 14)) with
  | true =>
    simp only [hb] at hin
    clear hN h1 h2 h3 h15 h10 hb
    by_cases h : len = 2
    · subst h
      go_enter Try.func39, Try.ntmps39
      go_wp2_with (go_at_call 53; refine (hin _).mono ?_; rintro e w' ⟨rfl, rfl⟩)
      go_ret
      exact Ret.mk (boolV (by simp)) (by (repeat (first | exact Below.refl _ _ | assumption | refine Below.drew ?_ | refine below_drewN ?_ _ | refine Below.setCell ?_ (by first | omega | (simp <;> omega)) _ | refine Below.alloc ?_ (by first | omega | (simp <;> omega)) _)))
    · have h' : ((len : Int) == 2) = false := by rw [beq_eq_false_iff_ne]; omega
      go_enter Try.func39, Try.ntmps39
      go_wp2_with (go_at_call 53; refine (hin _).mono ?_; rintro e w' ⟨rfl, rfl⟩)
      go_ret
      exact Ret.mk (boolV (by simp [h])) (by (repeat (first | exact Below.refl _ _ | assumption | refine Below.drew ?_ | refine below_drewN ?_ _ | refine Below.setCell ?_ (by first | omega | (simp <;> omega)) _ | refine Below.alloc ?_ (by first | omega | (simp <;> omega)) _)))
  | false =>
    simp only [hb] at hin
    clear hN h1 h2 h3 h15 h10 hb
    go_enter Try.func39, Try.ntmps39
    go_wp2_with (go_at_call 53; refine (hin _).mono ?_; rintro e w' ⟨rfl, rfl⟩)
    go_ret
    exact Ret.mk (boolV (by simp)) (by (repeat (first | exact Below.refl _ _ | assumption | refine Below.drew ?_ | refine below_drewN ?_ _ | refine Below.setCell ?_ (by first | omega | (simp <;> omega)) _ | refine Below.alloc ?_ (by first | omega | (simp <;> omega)) _)))
end Go.Proofs.Ytbkcpcjdpfndpaa
