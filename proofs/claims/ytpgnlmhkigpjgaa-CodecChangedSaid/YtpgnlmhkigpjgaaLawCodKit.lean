/-
  Two that read the same are the same.
-/
import Derived.Test.YtpgnlmhkigpjgaaCodArg2
namespace Go.Proofs.Ytpgnlmhkigpjgaa
open Go.RowKit
set_option linter.unusedVariables false
theorem sameBytes_eq {w : World} {v u : Value} {a : List UInt8} (h : Bytes w v a) (k : Bytes w u a) : Calls Try.prog 12 #[v, u] w (Ret (.bool true) w) := by
  have := sameBytes_any v u a a w h k
  rwa [decide_eq_true rfl] at this
theorem sameInts_eq {w : World} {v u : Value} {a : List Int} (h : Ints w v a) (k : Ints w u a) : Calls Try.prog 17 #[v, u] w (Ret (.bool true) w) := by
  have := sameInts_any v u a a w h k
  rwa [decide_eq_true rfl] at this
theorem sameLists_eq {w : World} {v u : Value} {a : List (List Int)} (h : Lists w v a) (k : Lists w u a) : Calls Try.prog 20 #[v, u] w (Ret (.bool true) w) := by
  have := sameLists_any v u a a w h k
  rwa [decide_eq_true rfl] at this
end Go.Proofs.Ytpgnlmhkigpjgaa
