/-
  The reference: an integer is read.
-/
import Derived.Test.YtpgnlmhkigpjgaaCodGet
namespace Go.Proofs.Ytpgnlmhkigpjgaa
open Go.RowKit

theorem wrap_in (j p : Nat) (h : p * 128 ^ j < 18446744073709551616) : IntKind.u64.wrap ((p : Int) * 2 ^ (7 * j)) = ((p * 128 ^ j : Nat) : Int) := by
  have : (p : Int) * 2 ^ (7 * j) = ((p * 128 ^ j : Nat) : Int) := by rw [← pow7]; push_cast; rfl
  rw [this, IntKind.wrap_u64]
  omega
/-- what read returns -/
def readV (o : Option (Int × Nat)) : Value := match o with
  | some p => .tuple #[.int .i64 p.1, .int .i64 (p.2 : Int)]
  | none => .tuple #[.int .i64 0, .int .i64 0]
theorem fits9 {j p : Nat} (hp : p < 128) (hj : j ≤ 9) (h9 : j = 9 → p ≤ 1) : p * 128 ^ j < 18446744073709551616 := by
  by_cases e : j = 9
  · have := h9 e
    subst e
    have := Nat.mul_le_mul_right (128 ^ 9) this
    omega
  · have h1 := pow_ge (show j ≤ 8 by omega)
    have h2 := Nat.mul_le_mul (show p ≤ 127 by omega) h1
    omega
theorem rdU_nine {x : UInt8} (l : List UInt8) (h : 1 < x.toNat) : rdU 9 (x :: l) = none := by
  rw [rdU]
  split
  · rfl
  · next hn =>
    have hx := x.toNat_lt
    rw [if_neg (by omega), rdU_late (by omega)]
    rfl
set_option maxRecDepth 100000 in
set_option maxHeartbeats 4000000 in
theorem refRead_any (v : Value) (bs : List UInt8) (w : World) (h : Bytes w v bs) : Calls Try.prog 31 #[v] w (Same (readV (rdI bs)) w) := by
  have hlen := h.short
  obtain ⟨ad, cap, hv⟩ := h.shape
  have hcell := h.cells _ _ _ hv
  rw [List.length_map] at hv
  subst hv
  simp only [List.length_map] at hlen hcell
  go_enter Try.func31, Try.ntmps31
  go_wp2_with fail
  go_loopw [4, 5] (fun a s wr => wr = w ∧ ∃ (j u : Nat), a = .int .u64 (u : Int) ∧ s = .int .i64 (j : Int) ∧ u < 18446744073709551616 ∧ j ≤ 10 ∧ j ≤ bs.length ∧ At bs 0 j u)
    (fun _ s _ => 10 - (intOf s).toNat)
  case atStart => exact ⟨rfl, 0, 0, rfl, rfl, by omega, by omega, by omega, by decide, by simp⟩
  case round =>
    obtain ⟨rfl, j, u, rfl, rfl, hu64, hj, hjl, hat⟩ := hrel
    by_cases hkj : j < bs.length
    · have q0 : decide ((j : Int) < bs.length) = true := by simp; omega
      by_cases hj10 : j < 10
      · have q1 : decide ((j : Int) < 10) = true := by simp; omega
        obtain ⟨a, rfl, hab, hc⟩ := hcell j hkj
        have hdr : bs.drop (0 + j) = bs[j] :: bs.drop (0 + (j + 1)) := by rw [Nat.zero_add, Nat.zero_add]; exact drop_cons hkj
        rw [List.getElem_map, vB] at hc
        generalize bs[j] = x at hdr hc
        have hx256 := x.toNat_lt
        by_cases h9 : j = 9 ∧ 1 < x.toNat
        · obtain ⟨hj9, hx1⟩ := h9
          have hnone := at_bad hat (by rw [hdr, hj9]; exact rdU_nine _ hx1)
          rw [List.drop_zero] at hnone
          have q2 : decide (1 < (x.toNat : Int)) = true := by simp; omega
          have q3 : ((j : Int) == 9) = true := by simp; omega
          clear hj9 hx1 hat hdr
          go_wp2_with fail
          go_ret2
          rw [hnone]
          exact Same.mk rfl rfl
        · have hok : x.toNat % 128 * 128 ^ j < 18446744073709551616 := fits9 (by omega) (by omega) (by omega)
          have hw := wrap_in j _ hok
          have hor := or_in j _ u hok hat.1 hu64
          have hVlt := sum_lt hok hat.1 hu64
          obtain ⟨V, hV⟩ : ∃ V : Nat, V = u + x.toNat % 128 * 128 ^ j := ⟨_, rfl⟩
          obtain ⟨S, hS⟩ : ∃ S : Int, S = ((x.toNat % 128 * 128 ^ j : Nat) : Int) := ⟨_, rfl⟩
          rw [← hS] at hw hor
          rw [← hV] at hor hVlt
          have hpy : ((x.toNat % 128 : Nat) : Int) = (x.toNat : Int) % 128 := by omega
          rw [hpy] at hw
          clear hpy
          by_cases hy : x.toNat < 128
          · have hy1 : decide ((128 : Int) ≤ (x.toNat : Int)) = false := by simp; omega
            by_cases hz : x.toNat = 0 ∧ 0 < j
            · have z1 : decide (0 < j) = true := by simpa using hz.2
              have z2 : ((x.toNat : Int) == 0) = true := by simp; omega
              have hnone := at_bad hat (by rw [hdr]; exact rdU_zero _ hz.1 hz.2)
              rw [List.drop_zero] at hnone
              by_cases e9 : j = 9
              · have q3 : ((j : Int) == 9) = true := by simp; omega
                have q2 : decide (1 < (x.toNat : Int)) = false := by simp; omega
                clear e9 h9 hV hS hdr hok hat
                generalize x.toNat = y at *
                go_wp2_with fail
                go_ret2
                rw [hnone]
                exact Same.mk rfl rfl
              · have q3 : ((j : Int) == 9) = false := by simp; omega
                clear e9 h9 hV hS hdr hok hat
                generalize x.toNat = y at *
                go_wp2_with fail
                go_ret2
                rw [hnone]
                exact Same.mk rfl rfl
            · have hsome := at_last hat (by rw [hdr]; exact rdU_last _ hok hy hz) (show V = u + x.toNat * 128 ^ j by rw [hV, Nat.mod_eq_of_lt hy])
              rw [List.drop_zero] at hsome
              by_cases hodd : V % 2 = 1
              · have v1 : ((V : Int) % 2 == 1) = true := by simp; omega
                by_cases j0 : 0 < j
                · have z1 : decide (0 < j) = true := by simpa using j0
                  have z2 : ((x.toNat : Int) == 0) = false := by simp; omega
                  by_cases e9 : j = 9
                  · have q3 : ((j : Int) == 9) = true := by simp; omega
                    have q2 : decide (1 < (x.toNat : Int)) = false := by simp; omega
                    clear e9 h9 hV hS hdr hok hat
                    generalize x.toNat = y at *
                    go_wp2_with fail
                    go_ret2
                    rw [hsome]
                    refine Same.mk ?_ rfl
                    unfold readV unum
                    simp [hodd]
                  · have q3 : ((j : Int) == 9) = false := by simp; omega
                    clear e9 h9 hV hS hdr hok hat
                    generalize x.toNat = y at *
                    go_wp2_with fail
                    go_ret2
                    rw [hsome]
                    refine Same.mk ?_ rfl
                    unfold readV unum
                    simp [hodd]
                · have z1 : decide (0 < j) = false := by simpa using j0
                  have q3 : ((j : Int) == 9) = false := by simp; omega
                  clear h9 hV hS hdr hok hat
                  generalize x.toNat = y at *
                  go_wp2_with fail
                  go_ret2
                  rw [hsome]
                  refine Same.mk ?_ rfl
                  unfold readV unum
                  simp [hodd]
              · have v1 : ((V : Int) % 2 == 1) = false := by simp; omega
                by_cases j0 : 0 < j
                · have z1 : decide (0 < j) = true := by simpa using j0
                  have z2 : ((x.toNat : Int) == 0) = false := by simp; omega
                  by_cases e9 : j = 9
                  · have q3 : ((j : Int) == 9) = true := by simp; omega
                    have q2 : decide (1 < (x.toNat : Int)) = false := by simp; omega
                    clear e9 h9 hV hS hdr hok hat
                    generalize x.toNat = y at *
                    go_wp2_with fail
                    go_ret2
                    rw [hsome]
                    refine Same.mk ?_ rfl
                    unfold readV unum
                    simp [hodd]
                  · have q3 : ((j : Int) == 9) = false := by simp; omega
                    clear e9 h9 hV hS hdr hok hat
                    generalize x.toNat = y at *
                    go_wp2_with fail
                    go_ret2
                    rw [hsome]
                    refine Same.mk ?_ rfl
                    unfold readV unum
                    simp [hodd]
                · have z1 : decide (0 < j) = false := by simpa using j0
                  have q3 : ((j : Int) == 9) = false := by simp; omega
                  clear h9 hV hS hdr hok hat
                  generalize x.toNat = y at *
                  go_wp2_with fail
                  go_ret2
                  rw [hsome]
                  refine Same.mk ?_ rfl
                  unfold readV unum
                  simp [hodd]
          · have hy1 : decide ((128 : Int) ≤ (x.toNat : Int)) = true := by simp; omega
            have hmore := at_more hat (by omega) (by rw [hdr]; exact rdU_more _ hok hy) hV
            by_cases e9 : j = 9
            · have q3 : ((j : Int) == 9) = true := by simp; omega
              have q2 : decide (1 < (x.toNat : Int)) = false := by simp; omega
              clear e9 h9 hV hS hdr hok hat
              generalize x.toNat = y at *
              go_wp2_with fail
              go_roundw
              case rel => exact ⟨trivial, j + 1, V, rfl, by first | (congr 1; omega) | congr 1, hVlt, by omega, by omega, hmore⟩
              case measure => simp [intOf]; omega
            · have q3 : ((j : Int) == 9) = false := by simp; omega
              clear e9 h9 hV hS hdr hok hat
              generalize x.toNat = y at *
              go_wp2_with fail
              go_roundw
              case rel => exact ⟨trivial, j + 1, V, rfl, by first | (congr 1; omega) | congr 1, hVlt, by omega, by omega, hmore⟩
              case measure => simp [intOf]; omega
      · have q1 : decide ((j : Int) < 10) = false := by simp; omega
        have hnone := at_bad hat (rdU_late (by omega) _)
        rw [List.drop_zero] at hnone
        go_wp2_with fail
        go_ret2
        rw [hnone]
        exact Same.mk rfl rfl
    · have q0 : decide ((j : Int) < bs.length) = false := by simp; omega
      have hnone := at_bad hat (by rw [List.drop_of_length_le (by omega)]; rfl)
      rw [List.drop_zero] at hnone
      go_wp2_with fail
      go_ret2
      rw [hnone]
      exact Same.mk rfl rfl
end Go.Proofs.Ytpgnlmhkigpjgaa
