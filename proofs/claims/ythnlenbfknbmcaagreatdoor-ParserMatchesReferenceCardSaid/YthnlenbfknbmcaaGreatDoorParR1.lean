/-
  The reference's parser, its small functions: variable.
-/
import Derived.Test.YthnlenbfknbmcaaGreatDoorQsh
namespace Go.Proofs.YthnlenbfknbmcaaGreatDoor
open Go.RowKit Go.Shelf
set_option maxRecDepth 100000

theorem rvariable_any (t : List UInt8) (w : World) : Calls Tryz.prog 94 #[.string ⟨t.toArray⟩] w (Ret (.int .i64 (varF t : Nat)) w) := by
  have hb : Below w.heap.size w w := Below.refl _ _
  by_cases h1 : t = [110, 105, 103, 104, 116, 115]
  · subst h1
    go_enter Tryz.func94, Tryz.ntmps94
    go_wp2_with fail
    go_ret
    exact Ret.mk (by simp [varF]) hb
  by_cases h2 : t = [112, 101, 114, 115, 111, 110, 115]
  · subst h2
    go_enter Tryz.func94, Tryz.ntmps94
    go_wp2_with fail
    go_ret
    exact Ret.mk (by simp [varF]) hb
  by_cases h3 : t = [110, 105, 103, 104, 116]
  · subst h3
    go_enter Tryz.func94, Tryz.ntmps94
    go_wp2_with fail
    go_ret
    exact Ret.mk (by simp [varF]) hb
  by_cases h4 : t = [119, 101, 101, 107, 100, 97, 121]
  · subst h4
    go_enter Tryz.func94, Tryz.ntmps94
    go_wp2_with fail
    go_ret
    exact Ret.mk (by simp [varF]) hb
  have hv : Hid (varF t = 0) := Lib.hid (by unfold varF; rw [if_neg h1, if_neg h2, if_neg h3, if_neg h4])
  have e1 : (t == [110, 105, 103, 104, 116, 115]) = false := by simpa using h1
  have e2 : (t == [112, 101, 114, 115, 111, 110, 115]) = false := by simpa using h2
  have e3 : (t == [110, 105, 103, 104, 116]) = false := by simpa using h3
  have e4 : (t == [119, 101, 101, 107, 100, 97, 121]) = false := by simpa using h4
  clear h1 h2 h3 h4
  go_enter Tryz.func94, Tryz.ntmps94
  go_wp2_with fail
  go_ret
  exact Ret.mk (by rw [hv.out]; rfl) hb
end Go.Proofs.YthnlenbfknbmcaaGreatDoor
