/-
  The reference: Sum.
-/
import Derived.Test.YtgljelkjfipefaaDoorDigN
namespace Go.Proofs.YtgljelkjfipefaaDoor
open Go.RowKit

set_option maxHeartbeats 1000000 in
theorem refSum_any (v : Value) (bs : List UInt8) (w : World) (h : Bytes w v bs) : Calls Tryd.prog 34 #[v] w (Ret (vD (fnv fnv0 bs)) w) := by
  obtain ⟨ad, cap, rfl⟩ := h.shape
  have hcell := h.cells _ _ _ rfl
  have hlen := h.short
  simp only [List.length_map] at hcell hlen ⊢
  go_enter Tryd.func34, Tryd.ntmps34
  go_wp2_with fail
  go_loopw [3, 4] (fun d i wr => ∃ k : Nat, k ≤ bs.length ∧ i = .int .i64 k ∧ d = .int .u64 ((fnv fnv0 (bs.take k)).toNat : Int) ∧ Below w.heap.size w wr)
    (fun _ i _ => bs.length - (intOf i).toNat)
  case atStart => exact ⟨0, by omega, rfl, rfl, Below.refl _ _⟩
  case round =>
    obtain ⟨k, hk, rfl, rfl, hb⟩ := hrel
    by_cases hkl : k < bs.length
    · obtain ⟨a, rfl, hab, hc⟩ := hcell k (by simpa using hkl)
      have hr := (hb.cell (p := a.add k) (by rw [blk_add]; omega)).trans hc
      rw [List.getElem_map, vB] at hr
      go_wp2_with fail
      go_roundw
      case rel => exact ⟨k + 1, by omega, by go_num, by rw [stp_int, List.take_succ_eq_append_getElem hkl, fnv_app]; rfl, by (repeat (first | exact Below.refl _ _ | assumption | refine Below.drew ?_ | refine below_drewN ?_ _ | refine Below.setCell ?_ (by first | omega | (simp <;> omega)) _ | refine Below.alloc ?_ (by first | omega | (simp <;> omega)) _))⟩
      case measure => simp [intOf]; omega
    · go_wp2_with fail
      go_ret
      rw [List.take_of_length_le (by omega)]
      exact Ret.mk rfl (by (repeat (first | exact Below.refl _ _ | assumption | refine Below.drew ?_ | refine below_drewN ?_ _ | refine Below.setCell ?_ (by first | omega | (simp <;> omega)) _ | refine Below.alloc ?_ (by first | omega | (simp <;> omega)) _)))

end Go.Proofs.YtgljelkjfipefaaDoor
