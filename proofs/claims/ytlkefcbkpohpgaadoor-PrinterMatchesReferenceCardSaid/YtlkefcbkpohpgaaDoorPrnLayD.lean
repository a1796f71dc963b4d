/-
  The rows' list of variables at the printer's own seat; a world that holds them, for the witness.
-/
import Derived.Test.YtlkefcbkpohpgaaDoorCards
import Derived.Test.YtlkefcbkpohpgaaDoorTie
import Derived.WalkKit
import Derived.ProofKit
import Derived.Deep.DeepHandedRow
import Derived.Deep.DeepLaidRun
import Derived.Stop.LaidErr
import Derived.Test.YtlkefcbkpohpgaaDoorPrnLay
namespace Go.Proofs.YtlkefcbkpohpgaaDoor
open Go.ChangeShapes Go.WideShapes Go.ChangeAt Go.RowKit

theorem ownD : ownKnob Tryd.prog.godebug = none := by kernel_rfl
theorem laidD : laidOutB Tryd.prog = true := by kernel_rfl
abbrev laidP : List (String × DataW Unit) := [("math/bits.deBruijn32tab", Rows.laid_math_bits_deBruijn32tab), ("math/bits.deBruijn64tab", Rows.laid_math_bits_deBruijn64tab), ("internal/strconv.uint64pow10", Rows.laid_internal_strconv_uint64pow10), ("innkeeper/printer.operators", Rows.laid_innkeeper_printer_operators), ("innkeeper/printer.variables", Rows.laid_innkeeper_printer_variables)]
theorem pl_of {W : World} (h : laidMet Tryd.prog laidP W) : PL W :=
  have h3 := laidMet.tail (laidMet.tail h)
  have h4 := laidMet.tail h3
  ⟨ptab_head h3, fun o h1 h2 => (ops_head h4 o h1 h2).1, fun o h1 h2 => (ops_head h4 o h1 h2).2, vars_head (laidMet.tail h4)⟩
/-- the numbers of a list as cells -/
def numC (q : IntKind) (l : List Nat) : Array Value := (l.map fun (n : Nat) => Value.int q (n : Int)).toArray
def opsC : Array Value := ((List.range 16).flatMap fun (o : Nat) => [Value.int .i64 (((if o = 0 then 0 else rankO (o : Int)) : Nat) : Int), Value.string ⟨(if o = 0 then [] else shpO o).toArray⟩]).toArray
def varsC : Array Value := ((List.range 5).map fun (n : Nat) => Value.string ⟨(if n = 0 then [] else varT (n : Int)).toArray⟩).toArray
noncomputable def prnWorld (os : Os) : World :=
  let w0 := World.holding Tryd.prog os ⟨#[], #[], []⟩
  { w0 with heap := ((((w0.heap.modify 1 fun
      | .cells _ t frozen => .cells opsC t frozen
      | o => o).modify 0 fun
      | .cells _ t frozen => .cells varsC t frozen
      | o => o).modify 3 fun
      | .cells _ t frozen => .cells (numC .u64 ((List.range 20).map fun n => 10 ^ n)) t frozen
      | o => o).modify 4 fun
      | .cells _ t frozen => .cells (numC .u8 [0, 1, 28, 2, 29, 14, 24, 3, 30, 22, 20, 15, 25, 17, 4, 8, 31, 27, 13, 23, 21, 19, 16, 7, 26, 12, 18, 6, 11, 5, 10, 9]) t frozen
      | o => o).modify 5 fun
      | .cells _ t frozen => .cells (numC .u8 [0, 1, 56, 2, 57, 49, 28, 3, 61, 58, 42, 50, 38, 29, 17, 4, 62, 47, 59, 36, 45, 43, 51, 22, 53, 39, 33, 30, 24, 18, 12, 5, 63, 55, 48, 27, 60, 41, 37, 16, 46, 35, 44, 21, 52, 32, 23, 11, 54, 26, 40, 15, 34, 20, 31, 10, 25, 14, 19, 9, 13, 8, 7, 6]) t frozen
      | o => o }
set_option maxRecDepth 100000 in
theorem prn_met (os : Os) (args : Array Value) : laidMet Tryd.prog laidP ((prnWorld os).forCall (fun _ _ => 0) ⟨#[], args, []⟩).memory :=
  laidMet_of_run3 8 (by kernel_rfl) (by kernel_rfl) (by kernel_rfl)
end Go.Proofs.YtlkefcbkpohpgaaDoor
