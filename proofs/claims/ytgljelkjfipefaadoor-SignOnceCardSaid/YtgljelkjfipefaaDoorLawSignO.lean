/-
  SignOnce: the walk.
-/
import Derived.Test.YtgljelkjfipefaaDoorSignKit
namespace Go.Proofs.YtgljelkjfipefaaDoor
open Go.RowKit Go.Shelf

/-- to the power of Q - 2, modulo Q -/
def pq (d : Int) : Int := ((d.toNat ^ (sQ - 2) % sQ : Nat) : Int)
theorem pq_b (d : Int) : 0 ≤ pq d ∧ pq d < 1073741789 := by
  have := Nat.mod_lt (d.toNat ^ (sQ - 2)) q_pos
  rw [sQ_eq] at this
  unfold pq
  rw [sQ_eq]
  omega
theorem refPow_q (d : Int) (h0 : 0 ≤ d) (h1 : d < 1073741789) (w : World) : Calls Tryd.prog 24 #[.int .i64 d, .int .i64 1073741787, .int .i64 1073741789] w (Same (.int .i64 (pq d)) w) := by
  have h := refPow_any sQ (by decide) (by decide) d.toNat (sQ - 2) (by rw [sQ_eq]; omega) (by decide) w
  unfold vN at h
  rw [show ((d.toNat : Nat) : Int) = d by omega, show ((sQ - 2 : Nat) : Int) = 1073741787 from rfl, show ((sQ : Nat) : Int) = 1073741789 from rfl] at h
  exact h
theorem shows (A o : Int) (hA : 1 ≤ A ∧ A < 1073741789) (ho : 1 ≤ o ∧ o < 1073741789) (E F : Nat) (hE : E < sQ) (hF : F < sQ) (hne : E ≠ F) :
    ((o + (E : Int) * A) % 1073741789 - (o + (F : Int) * A) % 1073741789) % 1073741789 * pq (((E : Int) - (F : Int)) % 1073741789) % 1073741789 = A := by
  have h := once_shows A.toNat o.toNat E F (by rw [sQ_eq]; omega) hE hF hne
  have e1 : ∀ X : Nat, (o + (X : Int) * A) % 1073741789 = (((o.toNat + X * A.toNat) % sQ : Nat) : Int) := fun X => by
    rw [Int.natCast_emod, Int.natCast_add, Int.natCast_mul, show ((o.toNat : Nat) : Int) = o by omega, show ((A.toNat : Nat) : Int) = A by omega, sQ_eq]
    rfl
  rw [e1, e1]
  generalize hx : (o.toNat + E * A.toNat) % sQ = x at *
  generalize hy : (o.toNat + F * A.toNat) % sQ = y at *
  have bx : x < sQ := by rw [← hx]; exact Nat.mod_lt _ q_pos
  have bY : y < sQ := by rw [← hy]; exact Nat.mod_lt _ q_pos
  have e2 : ∀ u v : Nat, v < sQ → ((u : Int) - (v : Int)) % 1073741789 = (((u + sQ - v) % sQ : Nat) : Int) := fun u v hv => by
    rw [sQ_eq] at hv ⊢
    omega
  rw [e2 _ _ bY, e2 _ _ hF]
  unfold pq
  rw [Int.toNat_natCast, ← Int.natCast_mul, show (1073741789 : Int) = ((sQ : Nat) : Int) from rfl, ← Int.natCast_emod, h]
  omega

set_option maxRecDepth 100000 in
set_option maxHeartbeats 4000000 in
theorem walkSignOnce (a b : Int) (v1 : Value) (l1 : List Int) (v2 : Value) (l2 : List Int) (w : World) (ha : U64 a) (hb0 : U64 b) (hT : Tab w) (h1 : Ints w v1 l1) (hf1 : Fat v1) (h2 : Ints w v2 l2) (hf2 : Fat v2) :
    Calls Tryd.prog 7 #[.int .u64 a, .int .u64 b, v1, v2] w (Ret (.bool true) w) := by
  obtain ⟨V1, hV1, hfew1⟩ := few_at v1 l1 w h1 hf1
  obtain ⟨V2, hV2, hfew2⟩ := few_at v2 l2 w h2 hf2
  obtain ⟨ad1, cap1, rfl⟩ := h1.1.shape
  obtain ⟨ad2, cap2, rfl⟩ := h2.1.shape
  simp only [List.length_map] at hfew1 hfew2 ⊢
  have sg1 : ∀ w1, Below w.heap.size w w1 → Calls Tryd.prog 17 #[.int .i64 (secI a), .int .i64 (secI b), V1] w1 _ := fun w1 hb => at_sign hT hb (secB_sec a) (secB_sec b) hV1 (len_few l1)
  have sg2 : ∀ w1, Below w.heap.size w w1 → Calls Tryd.prog 17 #[.int .i64 (secI a), .int .i64 (secI b), V2] w1 _ := fun w1 hb => at_sign hT hb (secB_sec a) (secB_sec b) hV2 (len_few l2)
  have bE1 := sgnE_lt (secI a) (secI b) (l1.take 20)
  have bE2 := sgnE_lt (secI a) (secI b) (l2.take 20)
  have bA := secI_b a
  have bo := secI_b b
  unfold sgnS sgnI at sg1 sg2
  generalize sgnE (secI a) (secI b) (l1.take 20) = E1 at *
  generalize sgnE (secI a) (secI b) (l2.take 20) = E2 at *
  have hsh := shows (secI a) (secI b) bA bo E1 E2 bE1 bE2
  have hsame : E1 = E2 → (secI b + (E1 : Int) * secI a) % 1073741789 = (secI b + (E2 : Int) * secI a) % 1073741789 := fun e => by rw [e]
  have bS1 : 0 ≤ (secI b + (E1 : Int) * secI a) % 1073741789 ∧ (secI b + (E1 : Int) * secI a) % 1073741789 < 1073741789 := by omega
  have bS2 : 0 ≤ (secI b + (E2 : Int) * secI a) % 1073741789 ∧ (secI b + (E2 : Int) * secI a) % 1073741789 < 1073741789 := by omega
  generalize (secI b + (E1 : Int) * secI a) % 1073741789 = S1 at *
  generalize (secI b + (E2 : Int) * secI a) % 1073741789 = S2 at *
  rw [sQ_eq] at bE1 bE2
  have heq := eql_sig
  clear h1 h2 hf1 hf2 hV1 hV2
  have hb := Below.refl w.heap.size w
  have k0 := Lib.hid ha
  by_cases hE : E1 = E2
  · obtain rfl := hsame hE
    subst hE
    clear hsh hsame
    go_enter Tryd.func7, Tryd.ntmps7
    go_wp2_with (first
      | (go_at_call 17; have k2 := k1; refine (sg2 _ (hb.alloc hb.size _)).mono ?_; rintro e wB ⟨rfl, hx⟩; have hbA := (Below.refl wA.heap.size wA).alloc (Nat.le_refl _) (.cells #[.int .i64 E1, .int .i64 S1] 23); replace hb := bel_step (hb.alloc hb.size _) hx; obtain ⟨c0, c1, f0, f1, z⟩ := ((Own.new wA #[.int .i64 E1, .int .i64 S1] 23).below hx).two; clear hx hbA)
      | (go_at_call 17; have k1 := k0; refine (sg1 _ hb).mono ?_; rintro e wA ⟨rfl, hx⟩; replace hb := bel_step hb hx; clear hx)
      | (go_at_call 21; refine (secret_at (by assumption) _).mono ?_; rintro e w1 ⟨rfl, rfl⟩)
      | (go_at_call 10; have k3 := k1; refine (hfew2 _ (hb.alloc hb.size _)).mono ?_; rintro e w1 ⟨rfl, rfl⟩)
      | (go_at_call 10; refine (hfew1 _ hb).mono ?_; rintro e w1 ⟨rfl, rfl⟩)
      | (go_at_call 9; refine (at_head hT hb).mono ?_; rintro e w1 ⟨rfl, hx⟩; replace hb := bel_step hb hx; clear hx))
    go_ret
    exact Ret.mk rfl (hb.alloc hb.size _)
  · have hne : ((E1 : Int) == (E2 : Int)) = false := by rw [beq_eq_false_iff_ne]; omega
    have hfin := hsh hE
    clear hsh hsame hE heq
    go_enter Tryd.func7, Tryd.ntmps7
    go_wp2_with (first
      | (go_at_call 17; have k2 := k1; refine (sg2 _ (hb.alloc hb.size _)).mono ?_; rintro e wB ⟨rfl, hx⟩; replace hb := bel_step (hb.alloc hb.size _) hx; obtain ⟨c0, c1, f0, f1, z⟩ := ((Own.new wA #[.int .i64 E1, .int .i64 S1] 23).below hx).two; clear hx)
      | (go_at_call 17; have k1 := k0; refine (sg1 _ hb).mono ?_; rintro e wA ⟨rfl, hx⟩; replace hb := bel_step hb hx; clear hx)
      | (go_at_call 21; refine (secret_at (by assumption) _).mono ?_; rintro e w1 ⟨rfl, rfl⟩)
      | (go_at_call 10; have k3 := k1; refine (hfew2 _ (hb.alloc hb.size _)).mono ?_; rintro e w1 ⟨rfl, rfl⟩)
      | (go_at_call 10; refine (hfew1 _ hb).mono ?_; rintro e w1 ⟨rfl, rfl⟩)
      | (go_at_call 9; refine (at_head hT hb).mono ?_; rintro e w1 ⟨rfl, hx⟩; replace hb := bel_step hb hx; clear hx))
    have hp := pq_b (((E1 : Int) - (E2 : Int)) % 1073741789)
    have hX : 0 ≤ (S1 - S2) % 1073741789 * pq (((E1 : Int) - (E2 : Int)) % 1073741789) ∧ (S1 - S2) % 1073741789 * pq (((E1 : Int) - (E2 : Int)) % 1073741789) ≤ 1073741789 * 1073741789 :=
      ⟨Int.mul_nonneg (by omega) hp.1, Int.mul_le_mul (by omega) (by omega) hp.1 (by omega)⟩
    have hw : IntKind.i64.wrap ((S1 - S2) % 1073741789 * pq (((E1 : Int) - (E2 : Int)) % 1073741789)) = (S1 - S2) % 1073741789 * pq (((E1 : Int) - (E2 : Int)) % 1073741789) := by rw [IntKind.wrap_i64]; omega
    refine wp_region_up (by kernel_rfl) (by kernel_rfl) ?_
    repeat (go_big_quiet_step (first | (go_at_call 24; exact Same.up (refPow_q _ (by omega) (by omega) _))))
    refine wpQuiet_nil ?_
    rintro w3 ⟨g, rfl⟩
    clear hp hX hw
    go_wp2_with (go_at_call 21; refine (secret_at (by assumption) _).mono ?_; rintro e w1 ⟨rfl, rfl⟩)
    go_ret
    exact Ret.mk rfl ((hb.alloc hb.size _).trans ((up_below _ g).mono (by have := hb.size; simp; omega)))
end Go.Proofs.YtgljelkjfipefaaDoor
