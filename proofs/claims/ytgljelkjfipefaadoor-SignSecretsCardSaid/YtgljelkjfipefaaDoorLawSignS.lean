/-
  SignSecrets: the walk.
-/
import Derived.Test.YtgljelkjfipefaaDoorSignKit
namespace Go.Proofs.YtgljelkjfipefaaDoor
open Go.RowKit Go.Shelf

theorem pub_iff (a b : Int) : (pwI 4 (secI a) == pwI 4 (secI b)) = (secI a == secI b) := by
  have ha := secI_b a
  have hb := secI_b b
  generalize secI a = x at *
  generalize secI b = y at *
  by_cases h : x = y
  · subst h; simp
  · have h1 : (x == y) = false := by simpa using h
    have h2 : (pwI 4 x == pwI 4 y) = false := by
      rw [beq_eq_false_iff_ne]
      intro e
      unfold pwI pw at e
      have := g_inj (a := x.toNat) (b := y.toNat) (by rw [sQ_eq]; omega) (by rw [sQ_eq]; omega) (Int.ofNat_inj.1 e)
      omega
    rw [h1, h2]

set_option maxRecDepth 100000 in
set_option maxHeartbeats 4000000 in
theorem walkSignSecrets (a b : Int) (ha : U64 a) (hb0 : U64 b) (w : World) (hT : Tab w) : Calls Tryd.prog 8 #[.int .u64 a, .int .u64 b] w (Ret (.bool true) w) := by
  have heq := pub_iff a b
  have hb := Below.refl w.heap.size w
  go_enter Tryd.func8, Tryd.ntmps8
  go_wp2_with (first
    | (go_at_call 15; refine (at_pub (secB_sec _)).mono ?_; rintro e w1 ⟨rfl, hx⟩; replace hb := bel_step hb hx; clear hx)
    | (go_at_call 21; refine (secret_at (by assumption) _).mono ?_; rintro e w1 ⟨rfl, rfl⟩)
    | (go_at_call 9; refine (at_head hT hb).mono ?_; rintro e w1 ⟨rfl, hx⟩; replace hb := bel_step hb hx; clear hx))
  go_ret
  exact Ret.mk rfl hb
end Go.Proofs.YtgljelkjfipefaaDoor
