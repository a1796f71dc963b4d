/-
  The walk of ends: two loops that append, and the sorting.
-/
import Derived.Test.YtfhhkbijcleedaaSpanEnds
namespace Go.Proofs.Ytfhhkbijcleedaa
open Go.Shelf Go.RowKit Go.Lib Go.Sort

theorem Try.infoEnd : (Try.prog.info? 57).map (fun i => (i.zero, i.size, i.bytes)) = some (some (.agg #[.int .i64 0, .int .i64 0, .int .i64 0]), 3, 24) := by kernel_rfl

theorem own_row {w : World} {base : Nat} {e : TypeId} {size : Nat} {v : Value} {n : Nat} {xs : List Value} (h : w.ownsRow base e size v n xs) : ∀ r, v.ownBlock = some r → base ≤ r := by
  obtain ⟨_, ⟨rfl, _⟩ | ⟨g, cap, cur, rfl, hg, _⟩⟩ := h
  · intro r hr; cases hr
  · intro r hr; cases hr; exact hg

def raw (wh : Int) (l : List Sp) : List En := l.flatMap fun s => [(s.1, wh, 1), (s.2, wh, -1)]
theorem raw_step (wh : Int) (l : List Sp) (k : Nat) (h : k < l.length) : raw wh (l.take (k + 1)) = raw wh (l.take k) ++ [((l[k]).1, wh, 1), ((l[k]).2, wh, -1)] := by
  unfold raw; rw [List.take_add_one, List.getElem?_eq_getElem h, List.flatMap_append]; simp
theorem raw_length (wh : Int) (l : List Sp) : (raw wh l).length = 2 * l.length := by
  induction l with
  | nil => rfl
  | cons x l ih => simp [raw] at *; omega
def endsL (a b : List Sp) : List En := sortE (raw 0 a ++ raw 1 b)

set_option maxHeartbeats 4000000 in
theorem ends_any (va vb : Value) (a b : List Sp) (w : World) (ha : Spans w va a) (hb0 : Spans w vb b) (hab0 : a.length + b.length ≤ 3000) :
    Calls Try.prog 41 #[va, vb] w fun e w' => ∃ v', e = .returned v' ∧ w'.ownsRow w.heap.size 57 3 v' (2 * a.length + 2 * b.length) ((endsL a b).flatMap encE) ∧ Below w.heap.size w w' := by
  obtain ⟨ada, capa, rfl, hca⟩ := ha.open
  obtain ⟨adb, capb, rfl, hcb⟩ := hb0.open
  clear ha hb0
  obtain ⟨i0, hi, hz0, hz1, hz2⟩ := info_parts Try.infoEnd
  have hlr := raw_length 0 a
  have ix0 : ∀ w, (Instr.index 58 (.agg #[.slice ada a.length capa, .slice adb b.length capb]) (.int .i64 0)).run Try.prog w = .ok (.slice ada a.length capa) w := fun _ => by kernel_rfl
  have ix1 : ∀ w, (Instr.index 58 (.agg #[.slice ada a.length capa, .slice adb b.length capb]) (.int .i64 1)).run Try.prog w = .ok (.slice adb b.length capb) w := fun _ => by kernel_rfl
  go_enter Try.func41, Try.ntmps41
  go_wp2_with fail
  refine wp_loop_rounds 3 ?_
  rw [rounds_succ]
  go_wp2_with fail
  go_loopw [5, 19] (fun v i wr => ∃ k : Nat, k ≤ a.length ∧ i = .int .i64 k ∧ wr.ownsRow w.heap.size 57 3 v (0 + 2 * k) ((raw 0 (a.take k)).flatMap encE) ∧ Below w.heap.size w wr)
    (fun _ i _ => a.length - (intOf i).toNat)
  case atStart => exact ⟨0, by omega, rfl, World.ownsRow_nil _ _ _ _, Below.refl _ _⟩
  case round =>
    obtain ⟨k, hk, rfl, hown, hb⟩ := hrel
    have hbs := hb.size
    by_cases hkl : k < a.length
    · obtain ⟨ad, rfl, hab, hc0, hc1⟩ := hca k hkl
      have hr0 := (hb.cell (p := ad.add (k * 2)) (by rw [blk_add]; exact hab)).trans hc0
      have hr1 := (hb.cell (p := ad.add (k * 2 + 1)) (by rw [blk_add]; exact hab)).trans hc1
      rw [add_succ] at hr1
      have hstep := raw_step 0 a k hkl
      generalize a[k] = s at hr0 hr1 hstep
      go_wp2_with (at_builtin; refine wpList_append_own _ rfl _ _ 54 rfl w.heap.size 57 i0 (.agg #[.int .i64 0, .int .i64 0, .int .i64 0]) 3 24 Try.underlying54 hi hz0 hz1 hz2 rfl (by decide) _ _ _ rfl ((hown.alloc _).alloc _) ⟨wr.heap.size + 1, 0, none⟩ 2 2 [.int .i64 s.1, .int .i64 0, .int .i64 1, .int .i64 s.2, .int .i64 0, .int .i64 (-1)] rfl rfl (by intro j u hj; match j, hj with | 0, hj => (simp at hj; subst hj; simp [Addr.add]) | 1, hj => (simp at hj; subst hj; simp [Addr.add]) | 2, hj => (simp at hj; subst hj; simp [Addr.add]) | 3, hj => (simp at hj; subst hj; simp [Addr.add]) | 4, hj => (simp at hj; subst hj; simp [Addr.add]) | 5, hj => (simp at hj; subst hj; simp [Addr.add])) (by intro u hu; simp at hu; rcases hu with rfl | rfl | rfl | rfl | rfl | rfl <;> rfl) (by unfold maxLen; omega) (by omega) (by simp; omega) ?_; intro v' w1 hown' hgrow _)
      go_roundw
      case rel => exact ⟨k + 1, by omega, by go_num, by simpa [hstep, encE, Nat.mul_add, Nat.add_assoc] using hown', ((hb.alloc hbs _).alloc (by simp; omega) _).grown hgrow (by simp; omega) (own_row hown)⟩
      case measure => simp [intOf]; omega
    · have hk2 : k = a.length := by omega
      subst hk2
      rw [List.take_length] at hown
      go_wp2_with fail
      refine ?_
      have hownA := hown
      have hbA := hb
      clear hown hb
      rw [Nat.zero_add] at hownA
      rw [rounds_succ]
      go_wp2_with fail
      go_loopw [5, 19] (fun v i wr => ∃ k : Nat, k ≤ b.length ∧ i = .int .i64 k ∧ wr.ownsRow w.heap.size 57 3 v (2 * a.length + 2 * k) ((raw 0 a ++ raw 1 (b.take k)).flatMap encE) ∧ Below w.heap.size w wr)
        (fun _ i _ => b.length - (intOf i).toNat)
      case atStart => exact ⟨0, by omega, rfl, (by simpa [raw] using hownA), hbA⟩
      case round =>
        obtain ⟨k, hk, rfl, hown, hb⟩ := hrel
        have hbs := hb.size
        by_cases hkl : k < b.length
        · obtain ⟨ad, rfl, hab, hc0, hc1⟩ := hcb k hkl
          have hr0 := (hb.cell (p := ad.add (k * 2)) (by rw [blk_add]; exact hab)).trans hc0
          have hr1 := (hb.cell (p := ad.add (k * 2 + 1)) (by rw [blk_add]; exact hab)).trans hc1
          rw [add_succ] at hr1
          have hstep := raw_step 1 b k hkl
          generalize b[k] = s at hr0 hr1 hstep
          go_wp2_with (at_builtin; refine wpList_append_own _ rfl _ _ 54 rfl w.heap.size 57 i0 (.agg #[.int .i64 0, .int .i64 0, .int .i64 0]) 3 24 Try.underlying54 hi hz0 hz1 hz2 rfl (by decide) _ _ _ rfl ((hown.alloc _).alloc _) ⟨wr.heap.size + 1, 0, none⟩ 2 2 [.int .i64 s.1, .int .i64 1, .int .i64 1, .int .i64 s.2, .int .i64 1, .int .i64 (-1)] rfl rfl (by intro j u hj; match j, hj with | 0, hj => (simp at hj; subst hj; simp [Addr.add]) | 1, hj => (simp at hj; subst hj; simp [Addr.add]) | 2, hj => (simp at hj; subst hj; simp [Addr.add]) | 3, hj => (simp at hj; subst hj; simp [Addr.add]) | 4, hj => (simp at hj; subst hj; simp [Addr.add]) | 5, hj => (simp at hj; subst hj; simp [Addr.add])) (by intro u hu; simp at hu; rcases hu with rfl | rfl | rfl | rfl | rfl | rfl <;> rfl) (by unfold maxLen; omega) (by omega) (by simp; omega) ?_; intro v' w1 hown' hgrow _)
          go_roundw
          case rel => exact ⟨k + 1, by omega, by go_num, by simpa [hstep, encE, Nat.mul_add, Nat.add_assoc] using hown', ((hb.alloc hbs _).alloc (by simp; omega) _).grown hgrow (by simp; omega) (own_row hown)⟩
          case measure => simp [intOf]; omega
        · have hk2 : k = b.length := by omega
          subst hk2
          rw [List.take_length] at hown
          go_wp2_with fail
          rw [rounds_succ]
          have hE : (List.flatMap encE (raw 0 a ++ raw 1 b)).length = _ := len_flat _
          have hlen2 : (raw 0 a ++ raw 1 b).length = 2 * a.length + 2 * b.length := by rw [List.length_append, raw_length, raw_length]
          have hend := sort_any u5 (raw 0 a ++ raw 1 b) wr w.heap.size (by rw [hlen2]; exact hown) (by omega)
          rw [hlen2] at hend
          clear hown hownA hE hlr
          go_wp2_with (go_at_call 42; refine hend.mono ?_; rintro e w' ⟨rfl, hown2, hb2⟩)
          go_ret
          exact ⟨_, rfl, hown2, hb.trans hb2⟩
end Go.Proofs.Ytfhhkbijcleedaa
