/-
  Package sign: power, Member.
-/
import Derived.Test.YtgljelkjfipefaaDoorSignA
namespace Go.Proofs.YtgljelkjfipefaaDoor
open Go.RowKit

set_option maxHeartbeats 2000000 in
theorem power_any (a x : Nat) (ha : a < sP) (hx : x < 1073741824) (w : World) : Calls Tryd.prog 25 #[vN a, vN x] w (Ret (vN (pw a x)) w) := by
  have ⟨hL, hL30⟩ := bitLen_lt 30 x (by omega) (by omega)
  have hlen := fun w => len_any x (by omega) w
  have hcx : IntKind.u64.wrap (x : Int) = (x : Int) := by rw [IntKind.wrap_u64]; omega
  generalize hLe : Lib.bitLen x = L at *
  unfold vN at *
  go_enter Tryd.func25, Tryd.ntmps25
  go_wp2_with (go_at_call 36; refine (hlen _).mono ?_; rintro e w2 ⟨rfl, rfl⟩)
  have hb0 : Below w.heap.size w (w.alloc (.cells #[.int .i64 1] 3)) := (Below.refl _ w).alloc (Nat.le_refl _) _
  have ho0 : Own (w.alloc (.cells #[.int .i64 1] 3)) w.heap.size [vN (pw a (x / 2 ^ L))] := by
    rw [Nat.div_eq_of_lt hL, pw_zero]
    exact Own.new w #[.int .i64 1] 3
  go_loopw [7] (fun i wr => ∃ k : Nat, k ≤ L ∧ i = .int .i64 ((k : Int) - 1) ∧ Own wr w.heap.size [vN (pw a (x / 2 ^ k))] ∧ Below w.heap.size w wr)
    (fun i _ => (intOf i + 1).toNat)
  case atStart => exact ⟨L, by omega, by congr 1, ho0, hb0⟩
  case round =>
    clear ho0 hb0
    obtain ⟨k, hk, rfl, hor, hb⟩ := hrel
    cases k with
    | zero =>
      obtain ⟨c, f, z⟩ := hor.one
      rw [Nat.pow_zero, Nat.div_one] at c
      unfold vN at c
      go_wp2_with fail
      go_ret
      exact Ret.mk rfl hb
    | succ k =>
      obtain ⟨c, f, z⟩ := hor.one
      have hm := mult_any w.heap.size (pw a (x / 2 ^ (k + 1))) (pw a (x / 2 ^ (k + 1))) (pw_lt _ _) (pw_lt _ _) wr c f
      rw [pw_dbl] at hm
      have hbit := pw_bit x k
      have ek : ((k + 1 : Nat) : Int) - 1 = (k : Int) := by omega
      rw [ek]
      unfold vN at hm
      have hk0 : decide ((0 : Int) ≤ (k : Int)) = true := by simp
      have hq : ((x : Int) / 2 ^ k).tmod 2 = ((x / 2 ^ k % 2 : Nat) : Int) := by
        rw [Int.natCast_emod, Int.natCast_ediv, Int.natCast_pow, Int.tmod_eq_emod_of_nonneg (by rw [show (2 : Int) ^ k = ((2 ^ k : Nat) : Int) by rw [Int.natCast_pow]; rfl]; exact Int.natCast_nonneg (x / 2 ^ k))]; rfl
      have hb1 : Below w.heap.size w (wr.setCell ⟨w.heap.size, 0, none⟩ (.int .i64 (pw a (2 * (x / 2 ^ (k + 1))) : Nat))) := hb.trans (below_set _)
      by_cases hodd : x / 2 ^ k % 2 = 1
      · have ht : (((x : Int) / 2 ^ k).tmod 2 == 1) = true := by rw [hq, hodd]; rfl
        have ho1 : Own (wr.setCell ⟨w.heap.size, 0, none⟩ (.int .i64 (pw a (2 * (x / 2 ^ (k + 1))) : Nat))) w.heap.size [vN (pw a (2 * (x / 2 ^ (k + 1))))] := set_own hor
        have hm2 := mult_any w.heap.size (pw a (2 * (x / 2 ^ (k + 1)))) a (pw_lt _ _) ha _ ho1.one.1 ho1.one.2.1
        rw [pw_odd, show 2 * (x / 2 ^ (k + 1)) + 1 = x / 2 ^ k by omega] at hm2
        unfold vN at hm2
        clear hq hbit hodd
        go_wp2_with (first | (go_at_call 35; refine hm2.mono ?_; rintro e w2 ⟨rfl, rfl⟩) | (go_at_call 35; refine hm.mono ?_; rintro e w2 ⟨rfl, rfl⟩))
        go_roundw
        case rel => exact ⟨k, by omega, rfl, set_own ho1, hb1.trans (below_set _)⟩
        case measure => simp [intOf]
      · have ht : (((x : Int) / 2 ^ k).tmod 2 == 1) = false := by rw [hq, show x / 2 ^ k % 2 = 0 by omega]; rfl
        rw [show 2 * (x / 2 ^ (k + 1)) = x / 2 ^ k by omega] at hm hb1
        clear hq hbit hodd
        go_wp2_with (go_at_call 35; refine hm.mono ?_; rintro e w2 ⟨rfl, rfl⟩)
        go_roundw
        case rel => exact ⟨k, by omega, rfl, set_own hor, hb1⟩
        case measure => simp [intOf]

/-- an element, as a test on any int -/
def memB (a : Int) : Bool := decide (1 ≤ a ∧ a < 2147483579) && decide (pw a.toNat sQ = 1)

set_option maxHeartbeats 1000000 in
theorem member_any (a : Int) (w : World) : Calls Tryd.prog 11 #[.int .i64 a] w (Ret (.bool (memB a)) w) := by
  by_cases hA : 1 ≤ a
  · have hA' : decide (1 ≤ a) = true := by simpa using hA
    by_cases hB : a < 2147483579
    · have hB' : decide (a < 2147483579) = true := by simpa using hB
      have hp := power_any a.toNat sQ (by rw [sP_eq]; omega) (by rw [sQ_eq]; omega) w
      unfold vN at hp
      rw [show ((a.toNat : Nat) : Int) = a by omega, show ((sQ : Nat) : Int) = 1073741789 from rfl] at hp
      unfold memB
      rw [show decide (1 ≤ a ∧ a < 2147483579) = true by simp; omega, Bool.true_and]
      generalize pw a.toNat sQ = z at *
      go_enter Tryd.func11, Tryd.ntmps11
      go_wp2_with (go_at_call 25; refine hp.mono ?_; rintro e w2 ⟨rfl, hx⟩)
      go_ret
      exact Ret.mk (boolV (by simp; omega)) hx
    · have hB' : decide (a < 2147483579) = false := by simpa using hB
      have e : memB a = false := by unfold memB; rw [show decide (1 ≤ a ∧ a < 2147483579) = false by simp; omega, Bool.false_and]
      rw [e]
      clear e
      go_enter Tryd.func11, Tryd.ntmps11
      go_wp2_with fail
      go_ret
      exact Ret.mk rfl (Below.refl _ _)
  · have hA' : decide (1 ≤ a) = false := by simpa using hA
    have e : memB a = false := by unfold memB; rw [show decide (1 ≤ a ∧ a < 2147483579) = false by simp; omega, Bool.false_and]
    rw [e]
    clear e
    go_enter Tryd.func11, Tryd.ntmps11
    go_wp2_with fail
    go_ret
    exact Ret.mk rfl (Below.refl _ _)
end Go.Proofs.YtgljelkjfipefaaDoor
