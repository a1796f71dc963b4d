/-
  The walks of the reference of layer 1: abs, gcd, Valid, make0.
-/
import Derived.Test.YthnlenbfknbmcaaGreatDoorQh
namespace Go.Proofs.YthnlenbfknbmcaaGreatDoor
open Go.RowKit

set_option maxHeartbeats 400000 in
theorem r_abs (n : Int) (w : World) (h1 : -4000000000000000000 ≤ n) (h2 : n ≤ 4000000000000000000) : Calls Tryz.prog 58 #[.int .i64 n] w (Same (.int .i64 (n.natAbs : Int)) w) := by
  by_cases h : n < 0
  · go_enter Tryz.func58, Tryz.ntmps58
    go_wp2_with fail
    go_ret
    exact Same.mk (by show Value.int .i64 _ = Value.int .i64 _; congr 1; omega) rfl
  · have h' : decide (n < 0) = false := by simpa using h
    go_enter Tryz.func58, Tryz.ntmps58
    go_wp2_with fail
    go_ret
    exact Same.mk (by show Value.int .i64 _ = Value.int .i64 _; congr 1; omega) rfl

theorem gcd_step (a b : Int) (ha : 0 ≤ a) (hb : b ≠ 0) (hb0 : 0 ≤ b) : Int.gcd b (a % b) = Int.gcd a b ∧ 0 ≤ a % b ∧ a % b < b := by
  have h1 := Int.emod_nonneg a hb
  have h2 := Int.emod_lt_of_pos a (b := b) (by omega)
  refine ⟨?_, h1, h2⟩
  unfold Int.gcd
  obtain ⟨x, rfl⟩ := Int.eq_ofNat_of_zero_le ha
  obtain ⟨y, rfl⟩ := Int.eq_ofNat_of_zero_le hb0
  rw [show ((x : Int) % (y : Int)) = ((x % y : Nat) : Int) from rfl]
  simp only [Int.natAbs_natCast]
  rw [Nat.gcd_comm y, ← Nat.gcd_rec, Nat.gcd_comm]

set_option maxHeartbeats 400000 in
theorem r_gcd (a b : Int) (w : World) (h1 : 0 ≤ a) (h2 : a ≤ 4000000000000000000) (h3 : 0 ≤ b) (h4 : b ≤ 4000000000000000000) : Calls Tryz.prog 57 #[.int .i64 a, .int .i64 b] w (Same (.int .i64 (Int.gcd a b : Int)) w) := by
  go_enter Tryz.func57, Tryz.ntmps57
  go_wp2_with fail
  go_loop [0, 1, 5] (fun x y _ => ∃ u v : Int, 0 ≤ u ∧ u ≤ 4000000000000000000 ∧ 0 ≤ v ∧ v ≤ 4000000000000000000 ∧ x = .int .i64 u ∧ y = .int .i64 v ∧ Hid (Int.gcd u v = Int.gcd a b)) (fun _ y _ => (intOf y).toNat)
  case atStart => exact ⟨a, b, h1, h2, h3, h4, rfl, rfl, Lib.hid rfl⟩
  case round =>
    obtain ⟨u, v, g1, g2, g3, g4, rfl, rfl, HG⟩ := hrel
    by_cases hv : v = 0
    · subst hv
      go_wp2_with fail
      go_ret
      exact Same.mk (by rw [← HG.out]; show Value.int .i64 _ = Value.int .i64 _; congr 1; simp; omega) rfl
    · have hv' : (v != 0) = true := by simpa using hv
      obtain ⟨s1, s2, s3⟩ := gcd_step u v g1 hv g3
      have HS := Lib.hid s1
      clear s1
      go_wp2_with fail
      go_round
      case rel => exact ⟨v, u % v, by omega, by omega, by omega, by omega, rfl, rfl, Lib.hid (by rw [HS.out]; exact HG.out)⟩
      case measure => simp [intOf]; omega
end Go.Proofs.YthnlenbfknbmcaaGreatDoor
