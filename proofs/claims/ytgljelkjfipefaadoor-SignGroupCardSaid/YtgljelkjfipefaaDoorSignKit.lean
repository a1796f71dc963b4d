/-
  What the laws of the signatures share: each function at right arguments, in any world that has grown since the call began.
-/
import Derived.Test.YtgljelkjfipefaaDoorSignHead
namespace Go.Proofs.YtgljelkjfipefaaDoor
open Go.RowKit Go.Shelf

def sgnI (s o : Int) (l : List Int) : Int := (sgnE s o l : Int)
def sgnS (s o : Int) (l : List Int) : Int := (o + sgnI s o l * s) % 1073741789
theorem sgnI_exp (s o : Int) (l : List Int) : expB (sgnI s o l) = true := expB_nat (sgnE_lt s o l)
theorem sgnS_exp (s o : Int) (l : List Int) : expB (sgnS s o l) = true := expB_mod _
theorem right_sig {s o : Int} (l : List Int) (h : secB s = true) (h2 : secB o = true) : verB (pwI 4 s) (sgnI s o l) (sgnS s o l) l = true := right l h h2

section
variable {w w1 : World}
theorem at_head (hT : Tab w) (hb : Below w.heap.size w w1) : Calls Tryd.prog 9 #[] w1 (Ret (.bool true) w1) := head_any w1 (hT.below hb)
theorem at_pub {x : Int} (h : secB x = true) : Calls Tryd.prog 15 #[.int .i64 x] w1 (Ret (.tuple #[.int .i64 (pwI 4 x), .int .i64 0]) w1) := by
  have := public_any x w1
  rw [pubF_ok h] at this
  exact this
theorem at_exp {a x : Int} (h : memB a = true) (h2 : expB x = true) : Calls Tryd.prog 13 #[.int .i64 a, .int .i64 x] w1 (Ret (.tuple #[.int .i64 (pwI a x), .int .i64 0]) w1) := by
  have := exp_any a x w1
  rw [expF_ok h h2] at this
  exact this
theorem at_mem {a : Int} (h : memB a = true) : Calls Tryd.prog 11 #[.int .i64 a] w1 (Ret (.bool true) w1) := by
  have := member_any a w1
  rw [h] at this
  exact this
theorem at_sign {s o : Int} {V : Value} {l : List Int} (hT : Tab w) (hb : Below w.heap.size w w1) (h : secB s = true) (h2 : secB o = true) (hV : Ints w V l) (hl : l.length ≤ 100000) :
    Calls Tryd.prog 17 #[.int .i64 s, .int .i64 o, V] w1 (Ret (.tuple #[.agg #[.int .i64 (sgnI s o l), .int .i64 (sgnS s o l)], .int .i64 0]) w1) := by
  have := sign_any s o V l w1 (hT.below hb) ⟨hV.1.below hb, hV.2⟩ hl
  rw [sgnF_ok l h h2] at this
  exact this
theorem memB_i64 {a : Int} (h : memB a = true) : I64 a := by
  have := memB_out h
  constructor <;> omega
theorem at_ver {a E S : Int} {V : Value} {l : List Int} (hT : Tab w) (hb : Below w.heap.size w w1) (h : memB a = true) (h2 : expB E = true) (h3 : expB S = true) (hV : Ints w V l) (hl : l.length ≤ 100000) :
    Calls Tryd.prog 19 #[.int .i64 a, .agg #[.int .i64 E, .int .i64 S], V] w1 (Ret (.tuple #[.bool (verB a E S l), .int .i64 0]) w1) := by
  have := verify_any a E S (memB_i64 h) V l w1 (hT.below hb) ⟨hV.1.below hb, hV.2⟩ hl
  rw [verF_ok l h h2 h3] at this
  exact this
end

/-- few gives one slice, in whatever world -/
theorem few_at (v : Value) (l : List Int) (w : World) (h : Ints w v l) (hf : Fat v) : ∃ V, Ints w V (l.take 20) ∧ ∀ w1, Below w.heap.size w w1 → Calls Tryd.prog 10 #[v] w1 (Same V w1) := by
  obtain ⟨ad, cap, hv⟩ := h.1.shape
  rw [List.length_map] at hv
  subst hv
  have e : (min (l.length : Int) 20).toNat = min l.length 20 := by omega
  have hcap := hf _ _ _ rfl
  refine ⟨.slice ad (min (l.length : Int) 20).toNat cap, ?_, fun w1 hb => ?_⟩
  · refine ⟨?_, fun x hx => h.2 x (List.mem_of_mem_take hx)⟩
    have h2 := row_upto h.1 (min l.length 20) (by omega)
    rw [e, List.map_take]
    have e2 : (l.map (Value.int .i64)).take (min l.length 20) = (l.map (Value.int .i64)).take 20 := by
      by_cases hl : l.length ≤ 20
      · rw [List.take_of_length_le (by simp; omega), List.take_of_length_le (by simp; omega)]
      · rw [show min l.length 20 = 20 by omega]
    rw [← e2]
    exact h2
  · clear e
    go_enter Tryd.func10, Tryd.ntmps10
    go_wp2_with fail
    go_ret
    exact Same.mk rfl rfl
theorem len_few (l : List Int) : (l.take 20).length ≤ 100000 := by rw [List.length_take]; omega

def U64 (n : Int) : Prop := 0 ≤ n ∧ n ≤ 18446744073709551615
theorem secret_at {n : Int} (h : U64 n) (w : World) : Calls Tryd.prog 21 #[.int .u64 n] w (Same (.int .i64 (secI n)) w) := secret_any n h.1 h.2 w
end Go.Proofs.YtgljelkjfipefaaDoor
