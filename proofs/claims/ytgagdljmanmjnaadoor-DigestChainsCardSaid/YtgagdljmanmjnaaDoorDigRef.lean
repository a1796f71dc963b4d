/-
  The reference: Sum, Few, the text of an integer.
-/
import Derived.Test.YtgagdljmanmjnaaDoorDigC
namespace Go.Proofs.YtgagdljmanmjnaaDoor
open Go.RowKit

set_option maxHeartbeats 1000000 in
theorem refSum_any (v : Value) (bs : List UInt8) (w : World) (h : Bytes w v bs) : Calls Tryd.prog 12 #[v] w (Ret (vD (fnv fnv0 bs)) w) := by
  obtain ⟨ad, cap, rfl⟩ := h.shape
  have hcell := h.cells _ _ _ rfl
  have hlen := h.short
  simp only [List.length_map] at hcell hlen ⊢
  go_enter Tryd.func12, Tryd.ntmps12
  go_wp2_with fail
  go_loopw [3, 4] (fun d i wr => ∃ k : Nat, k ≤ bs.length ∧ i = .int .i64 k ∧ d = .int .u64 ((fnv fnv0 (bs.take k)).toNat : Int) ∧ Below w.heap.size w wr)
    (fun _ i _ => bs.length - (intOf i).toNat)
  case atStart => exact ⟨0, by omega, rfl, rfl, Below.refl _ _⟩
  case round =>
    obtain ⟨k, hk, rfl, rfl, hb⟩ := hrel
    by_cases hkl : k < bs.length
    · obtain ⟨a, rfl, hab, hc⟩ := hcell k (by simpa using hkl)
      have hr := (hb.cell (p := a.add k) (by rw [blk_add]; omega)).trans hc
      rw [List.getElem_map, vB] at hr
      go_wp2_with fail
      go_roundw
      case rel => exact ⟨k + 1, by omega, by go_num, by rw [stp_int, List.take_succ_eq_append_getElem hkl, fnv_app]; rfl, by (repeat (first | exact Below.refl _ _ | assumption | refine Below.drew ?_ | refine below_drewN ?_ _ | refine Below.setCell ?_ (by first | omega | (simp <;> omega)) _ | refine Below.alloc ?_ (by first | omega | (simp <;> omega)) _))⟩
      case measure => simp [intOf]; omega
    · go_wp2_with fail
      go_ret
      rw [List.take_of_length_le (by omega)]
      exact Ret.mk rfl (by (repeat (first | exact Below.refl _ _ | assumption | refine Below.drew ?_ | refine below_drewN ?_ _ | refine Below.setCell ?_ (by first | omega | (simp <;> omega)) _ | refine Below.alloc ?_ (by first | omega | (simp <;> omega)) _)))

def few (l : List (List Int)) : Bool := l.all (fun x => decide (x.length ≤ 40)) && decide (l.length ≤ 40)
theorem few_drop {l : List (List Int)} {k : Nat} (h : k < l.length) : (l.drop k).all (fun x => decide (x.length ≤ 40)) = (decide (l[k].length ≤ 40) && (l.drop (k + 1)).all (fun x => decide (x.length ≤ 40))) := by
  rw [drop_cons h, List.all_cons]

set_option maxHeartbeats 1000000 in
theorem few_any (v : Value) (l : List (List Int)) (w : World) (h : Lists w v l) : Calls Tryd.prog 10 #[v] w (Ret (.bool (few l)) w) := by
  obtain ⟨vs, hrow, hvl, heach⟩ := h
  obtain ⟨ad, cap, rfl⟩ := hrow.shape
  have hshort := hrow.short
  rw [hvl] at hshort ⊢
  rw [hvl] at hrow
  have hcell := hrow.cells _ _ _ rfl
  go_enter Tryd.func10, Tryd.ntmps10
  go_wp2_with fail
  go_loopw [3] (fun i wr => ∃ k : Nat, k ≤ l.length ∧ i = .int .i64 k ∧ few l = ((l.drop k).all (fun x => decide (x.length ≤ 40)) && decide (l.length ≤ 40)) ∧ Below w.heap.size w wr)
    (fun i _ => l.length - (intOf i).toNat)
  case atStart => exact ⟨0, by omega, rfl, rfl, Below.refl _ _⟩
  case round =>
    obtain ⟨k, hk, rfl, hf, hb⟩ := hrel
    by_cases hkl : k < l.length
    · have hkv : k < vs.length := by omega
      obtain ⟨q, rfl, hab, hc⟩ := hcell k hkv
      have hr := (hb.cell (p := q.add k) (by rw [blk_add]; exact hab)).trans hc
      have hin := heach k hkv hkl
      obtain ⟨ad2, cap2, hvk⟩ := hin.1.shape
      have hsk := hin.1.short
      rw [hvk] at hr
      simp only [List.length_map] at hr hsk
      rw [few_drop hkl] at hf
      by_cases h40 : l[k].length ≤ 40
      · go_wp2_with fail
        go_roundw
        case rel => exact ⟨k + 1, by omega, by go_num, by rw [hf]; simp [h40], by (repeat (first | exact Below.refl _ _ | assumption | refine Below.drew ?_ | refine below_drewN ?_ _ | refine Below.setCell ?_ (by first | omega | (simp <;> omega)) _ | refine Below.alloc ?_ (by first | omega | (simp <;> omega)) _))⟩
        case measure => simp [intOf]; omega
      · go_wp2_with fail
        go_ret
        exact Ret.mk (by rw [hf]; simp [h40]) (by (repeat (first | exact Below.refl _ _ | assumption | refine Below.drew ?_ | refine below_drewN ?_ _ | refine Below.setCell ?_ (by first | omega | (simp <;> omega)) _ | refine Below.alloc ?_ (by first | omega | (simp <;> omega)) _)))
    · go_wp2_with fail
      go_ret
      rw [List.drop_of_length_le (by omega)] at hf
      exact Ret.mk (by rw [hf]; simp; omega) (by (repeat (first | exact Below.refl _ _ | assumption | refine Below.drew ?_ | refine below_drewN ?_ _ | refine Below.setCell ?_ (by first | omega | (simp <;> omega)) _ | refine Below.alloc ?_ (by first | omega | (simp <;> omega)) _)))
end Go.Proofs.YtgagdljmanmjnaaDoor
