/-
  Two lists of the same rates.
-/
import Derived.Test.YtoioegkpmncicaaGreatDoorQs
namespace Go.Proofs.YtoioegkpmncicaaGreatDoor
open Go.RowKit Go.Shelf
set_option maxRecDepth 100000

set_option maxHeartbeats 6400000 in
theorem sameRates_any (rs : List Rt) (u v : Value) (w : World) (hu : RSl w u rs) (hv : RSl w v rs) : Calls Tryz.prog 19 #[u, v] w (Ret (.bool true) w) := by
  obtain ⟨ad, cap, cells, rfl, hl, hx⟩ := id hu
  obtain ⟨bd, bap, cells2, rfl, -, hy⟩ := id hv
  clear hx hy
  go_enter Tryz.func19, Tryz.ntmps19
  go_wp2_with fail
  go_loopw [5] (fun i wr => ∃ k : Nat, i = .int .i64 k ∧ k ≤ rs.length ∧ Below w.heap.size w wr) (fun i _ => rs.length - (intOf i).toNat)
  case atStart => exact ⟨0, rfl, Nat.zero_le _, Below.refl _ _⟩
  case round =>
    obtain ⟨k, rfl, hkl, q3⟩ := hrel
    by_cases hk : k < rs.length
    · obtain ⟨a, ad1, cap1, ad2, cap2, rfl, hab, hr, m0, m1, m2, m3, m4, m5, m6, m7, m8, m9, m10, m11, m12, m13, m14, m15⟩ := (hu.below q3).reads k hk
      obtain ⟨b, bd1, bap1, bd2, bap2, rfl, hbb, hs, n0, n1, n2, n3, n4, n5, n6, n7, n8, n9, n10, n11, n12, n13, n14, n15⟩ := (hv.below q3).reads k hk
      have hwk : IntKind.i64.wrap ((k : Int) + 1) = (k : Int) + 1 := IntWalk.i64_in _ (by omega)
      have hcall := fun w2 (h : Below wr.heap.size wr w2) => sameRate_any rs[k] _ _ w2 (RateV.go (Q := fun _ => False) (R := fun _ => False) h.size (fun i hi hq => ⟨h.block i hi, hq⟩) hr) (RateV.go (Q := fun _ => False) (R := fun _ => False) h.size (fun i hi hq => ⟨h.block i hi, hq⟩) hs)
      clear hr hs
      generalize rs[k] = x at *
      unfold rateC at hcall
      go_wp2_with fail
      go_region_with ((go_at_call 43; refine (hcall _ (Below.refl _ _).drew).mono ?_; rintro e w2 ⟨rfl, hbw⟩))
      all_goals (
        have q4 : Below w.heap.size w w2 := q3.drew.trans (hbw.mono q3.size)
        clear hcall m0 m1 m2 m3 m4 m5 m6 m7 m8 m9 m10 m11 m12 m13 m14 m15 n0 n1 n2 n3 n4 n5 n6 n7 n8 n9 n10 n11 n12 n13 n14 n15
        go_wp2_with fail
        go_roundw
        case rel => exact ⟨k + 1, by go_num, by omega, q4⟩
        case measure => simp [intOf]; omega)
    · go_wp2_with fail
      go_ret
      exact Ret.mk rfl q3
end Go.Proofs.YtoioegkpmncicaaGreatDoor
