/-
  SignGroup: the walk.
-/
import Derived.Test.YtgljelkjfipefaaDoorSignKit
namespace Go.Proofs.YtgljelkjfipefaaDoor
open Go.RowKit Go.Shelf

theorem pw_group (A x y : Int) (h : memB A = true) (hx : expB x = true) (hy : expB y = true) : pwI (pwI A x) y = pwI A (x * y % 1073741789) := by
  obtain ⟨h1, h2, h3⟩ := memB_out h
  unfold expB at hx hy
  rw [decide_eq_true_eq] at hx hy
  unfold pwI pw
  rw [Int.toNat_natCast, pow_pow_q _ _ _ h3]
  have e : (x * y % 1073741789).toNat = x.toNat * y.toNat % sQ := by
    have e1 : x * y = ((x.toNat * y.toNat : Nat) : Int) := by rw [Int.natCast_mul, show ((x.toNat : Nat) : Int) = x by omega, show ((y.toNat : Nat) : Int) = y by omega]
    rw [e1, sQ_eq]
    omega
  rw [e]
theorem pw_one (A : Int) : pwI A 0 = 1 := by unfold pwI; rw [show (0 : Int).toNat = 0 from rfl, pw_zero]; rfl

set_option maxRecDepth 100000 in
set_option maxHeartbeats 4000000 in
theorem walkSignGroup (a i k : Int) (w : World) (ha : U64 a) (hi : U64 i) (hk : U64 k) (hT : Tab w) : Calls Tryd.prog 4 #[.int .u64 a, .int .u64 i, .int .u64 k] w (Ret (.bool true) w) := by
  obtain ⟨hi0, hi1⟩ := hi
  obtain ⟨hk0, hk1⟩ := hk
  obtain ⟨x, hx0⟩ : ∃ x, x = i % 1073741789 := ⟨_, rfl⟩
  obtain ⟨y, hy0⟩ : ∃ y, y = k % 1073741789 := ⟨_, rfl⟩
  have hxe : expB x = true := by rw [hx0]; exact expB_mod i
  have hye : expB y = true := by rw [hy0]; exact expB_mod k
  have bx : 0 ≤ x ∧ x < 1073741789 := by omega
  have bY : 0 ≤ y ∧ y < 1073741789 := by omega
  have hxy : 0 ≤ x * y ∧ x * y ≤ 1073741789 * 1073741789 := ⟨Int.mul_nonneg bx.1 bY.1, Int.mul_le_mul (by omega) (by omega) (by omega) (by omega)⟩
  have hw1 : IntKind.i64.wrap (x * y) = x * y := by rw [IntKind.wrap_i64]; omega
  have hg := pw_group (pwI 4 (secI a)) x y (memG _) hxe hye
  have h1 := pw_one (pwI 4 (secI a))
  obtain ⟨A, hA⟩ : ∃ A, A = pwI 4 (secI a) := ⟨_, rfl⟩
  have mA : memB A = true := by rw [hA]; exact memG _
  have hpub : ∀ w1, Calls Tryd.prog 15 #[.int .i64 (secI a)] w1 (Ret (.tuple #[.int .i64 A, .int .i64 0]) w1) := fun w1 => by rw [hA]; exact at_pub (secB_sec _)
  rw [← hA] at hg h1
  obtain ⟨B, hB⟩ : ∃ B, B = pwI A x := ⟨_, rfl⟩
  have mB : memB B = true := by rw [hB]; exact memB_pow _ mA
  have e1 : ∀ w1, Calls Tryd.prog 13 #[.int .i64 A, .int .i64 x] w1 (Ret (.tuple #[.int .i64 B, .int .i64 0]) w1) := fun w1 => by rw [hB]; exact at_exp mA hxe
  rw [← hB] at hg
  obtain ⟨C, hC⟩ : ∃ C, C = pwI B y := ⟨_, rfl⟩
  have mC : memB C = true := by rw [hC]; exact memB_pow _ mB
  have e2 : ∀ w1, Calls Tryd.prog 13 #[.int .i64 B, .int .i64 y] w1 (Ret (.tuple #[.int .i64 C, .int .i64 0]) w1) := fun w1 => by rw [hC]; exact at_exp mB hye
  rw [← hC] at hg
  have e3 : ∀ w1, Calls Tryd.prog 13 #[.int .i64 A, .int .i64 (x * y % 1073741789)] w1 (Ret (.tuple #[.int .i64 C, .int .i64 0]) w1) := fun w1 => by rw [hg]; exact at_exp mA (expB_mod _)
  have e4 : ∀ w1, Calls Tryd.prog 13 #[.int .i64 A, .int .i64 0] w1 (Ret (.tuple #[.int .i64 1, .int .i64 0]) w1) := fun w1 => by rw [← h1]; exact at_exp mA (by decide)
  have n1 := fun w1 => at_mem (w1 := w1) mA
  have n2 := fun w1 => at_mem (w1 := w1) mB
  have n3 := fun w1 => at_mem (w1 := w1) mC
  clear hg h1 hA hB hC mA mB mC
  have hb := Below.refl w.heap.size w
  have hU : U64 a := ha
  clear ha
  go_enter Tryd.func4, Tryd.ntmps4
  go_wp2_with (first
    | (go_at_call 13; go_loud (rw [← hx0, ← hy0]); refine Hid.out ?_)
    | (go_at_call 15; refine (hpub _).mono ?_; rintro e w1 ⟨rfl, hx⟩; replace hb := bel_step hb hx; clear hx)
    | (go_at_call 21; refine (secret_at hU _).mono ?_; rintro e w1 ⟨rfl, rfl⟩)
    | (go_at_call 9; refine (at_head hT hb).mono ?_; rintro e w1 ⟨rfl, hx⟩; replace hb := bel_step hb hx; clear hx))
  clear hx0 hy0 hpub
  have k0 := Lib.hid hxe
  refine Lib.hid ?_
  go_wp2_with (first
    | (go_at_call 11; have k6 := k5; refine (n3 _).mono ?_; rintro e w1 ⟨rfl, hx⟩; replace hb := bel_step hb hx; clear hx)
    | (go_at_call 11; have k5 := k4; refine (n2 _).mono ?_; rintro e w1 ⟨rfl, hx⟩; replace hb := bel_step hb hx; clear hx)
    | (go_at_call 11; have k4 := k0; refine (n1 _).mono ?_; rintro e w1 ⟨rfl, hx⟩; replace hb := bel_step hb hx; clear hx)
    | (go_at_call 13; have k9 := k3; refine (e4 _).mono ?_; rintro e w1 ⟨rfl, hx⟩; replace hb := bel_step hb hx; clear hx)
    | (go_at_call 13; have k3 := k2; refine (e3 _).mono ?_; rintro e w1 ⟨rfl, hx⟩; replace hb := bel_step hb hx; clear hx)
    | (go_at_call 13; have k2 := k1; refine (e2 _).mono ?_; rintro e w1 ⟨rfl, hx⟩; replace hb := bel_step hb hx; clear hx)
    | (go_at_call 13; have k1 := k0; refine (e1 _).mono ?_; rintro e w1 ⟨rfl, hx⟩; replace hb := bel_step hb hx; clear hx))
  go_ret
  exact Ret.mk rfl hb
end Go.Proofs.YtgljelkjfipefaaDoor
