/-
  The walks of the ratio package: ways to round, Round and Part.
-/
import Derived.Test.YtnjaedbekogeaaaDoorRatioC
import Derived.Test.YtnjaedbekogeaaaDoorRatioMap
namespace Go.Proofs.YtnjaedbekogeaaaDoor
open Go.RowKit

def fnV (f : Nat) : Value := .agg #[.func (.func f) #[] #[]]
def ways : Array MapEntry := #[{ key := .int .i64 1, val := fnV 56, born := 0 }, { key := .int .i64 2, val := fnV 57, born := 1 }, { key := .int .i64 3, val := fnV 58, born := 2 }]

set_option maxHeartbeats 400000 in
theorem roundings_any (w : World) : Calls Tryd.prog 39 #[] w fun e w' => e = .returned (.map (some w.heap.size)) ∧ w' = w.alloc (.map ways 3) := by
  have hmm := @run_makeMap Tryd.prog
  have hi1 : ∀ (w0 : World) (v : Value), (Instr.mapUpdate 78 (.map (some w0.heap.size)) (.int .i64 1) v).run Tryd.prog (w0.alloc (.map #[] 0)) = .ok () (w0.alloc (.map #[{ key := .int .i64 1, val := v, born := 0 }] 1)) :=
    fun w0 v => run_insert_new Tryd.underlying78 Tryd.underlying3 w0 #[] 0 1 v rfl
  have hi2 : ∀ (w0 : World) (v v1 : Value), (Instr.mapUpdate 78 (.map (some w0.heap.size)) (.int .i64 2) v).run Tryd.prog (w0.alloc (.map #[{ key := .int .i64 1, val := v1, born := 0 }] 1)) = .ok () (w0.alloc (.map #[{ key := .int .i64 1, val := v1, born := 0 }, { key := .int .i64 2, val := v, born := 1 }] 2)) :=
    fun w0 v v1 => run_insert_new Tryd.underlying78 Tryd.underlying3 w0 #[{ key := .int .i64 1, val := v1, born := 0 }] 1 2 v rfl
  have hi3 : ∀ (w0 : World) (v v1 v2 : Value), (Instr.mapUpdate 78 (.map (some w0.heap.size)) (.int .i64 3) v).run Tryd.prog (w0.alloc (.map #[{ key := .int .i64 1, val := v1, born := 0 }, { key := .int .i64 2, val := v2, born := 1 }] 2)) = .ok () (w0.alloc (.map #[{ key := .int .i64 1, val := v1, born := 0 }, { key := .int .i64 2, val := v2, born := 1 }, { key := .int .i64 3, val := v, born := 2 }] 3)) :=
    fun w0 v v1 v2 => run_insert_new Tryd.underlying78 Tryd.underlying3 w0 #[{ key := .int .i64 1, val := v1, born := 0 }, { key := .int .i64 2, val := v2, born := 1 }] 2 3 v rfl
  go_enter Tryd.func39, Tryd.ntmps39
  go_wp2_with fail
  go_ret
  exact ⟨rfl, rfl⟩

set_option maxHeartbeats 400000 in
theorem down_any (n d : Int) (w : World) (h1 : -4000000000000000000 ≤ n) (h2 : n ≤ 4000000000000000000) (hd : 1 ≤ d) (hd2 : d ≤ 4000000000000000000) : Calls Tryd.prog 56 #[.int .i64 n, .int .i64 d] w (Same (.int .i64 (rndF n d 1)) w) := by
  have hl := tdiv_natAbs_le n d
  have HR := Lib.hid (rnd_down n d hd)
  by_cases hm : n.tmod d < 0
  · go_enter Tryd.func56, Tryd.ntmps56
    go_wp2_with fail
    go_ret
    exact Same.mk (by rw [HR.out, if_pos hm]; rfl) rfl
  · have hm' : decide (n.tmod d < 0) = false := by simpa using hm
    go_enter Tryd.func56, Tryd.ntmps56
    go_wp2_with fail
    go_ret
    exact Same.mk (by rw [HR.out, if_neg (by omega)]; rfl) rfl

end Go.Proofs.YtnjaedbekogeaaaDoor
