/-
  The map of operators is made.
-/
import Derived.Test.YthnlenbfknbmcaaGreatDoorQi
namespace Go.Proofs.YthnlenbfknbmcaaGreatDoor
open Go.RowKit Go.Shelf
set_option maxRecDepth 100000

set_option maxHeartbeats 3200000 in
theorem operators_any (w : World) : Calls Tryz.prog 42 #[] w fun e w' => e = .returned (.map (some w.heap.size)) ∧ ∃ l, (∀ a t, findO l a t = findO opsO a t) ∧ w' = w.drew.alloc (mapO l) := by
  have hmm := @run_makeMap Tryz.prog
  go_enter Tryz.func42, Tryz.ntmps42
  go_wp2_with fail
  refine wp_region_any (by kernel_rfl) ?_
  change wpAny _ _ _ _ _ _ _ (World.drew _)
  refine wpAny_take (i := 1) (v := ?_) rfl (by kernel_rfl) (by kernel_rfl) (by kernel_rfl) (fun _ _ _ h => h) (Or.inl ⟨by rfl, ?_⟩) ?_
  rotate_left
  · intro w
    go_simp
    with_reducible rfl
  refine wpAny_take (i := 3) (v := ?_) rfl (by kernel_rfl) (by kernel_rfl) (by kernel_rfl) (fun _ _ _ h => h) (Or.inl ⟨by rfl, ?_⟩) ?_
  rotate_left
  · intro w
    go_simp
    with_reducible rfl
  refine wpAny_take (i := 5) (v := ?_) rfl (by kernel_rfl) (by kernel_rfl) (by kernel_rfl) (fun _ _ _ h => h) (Or.inl ⟨by rfl, ?_⟩) ?_
  rotate_left
  · intro w
    go_simp
    with_reducible rfl
  refine wpAny_take (i := 7) (v := ?_) rfl (by kernel_rfl) (by kernel_rfl) (by kernel_rfl) (fun _ _ _ h => h) (Or.inl ⟨by rfl, ?_⟩) ?_
  rotate_left
  · intro w
    go_simp
    with_reducible rfl
  refine wpAny_take (i := 9) (v := ?_) rfl (by kernel_rfl) (by kernel_rfl) (by kernel_rfl) (fun _ _ _ h => h) (Or.inl ⟨by rfl, ?_⟩) ?_
  rotate_left
  · intro w
    go_simp
    with_reducible rfl
  refine wpAny_take (i := 11) (v := ?_) rfl (by kernel_rfl) (by kernel_rfl) (by kernel_rfl) (fun _ _ _ h => h) (Or.inl ⟨by rfl, ?_⟩) ?_
  rotate_left
  · intro w
    go_simp
    with_reducible rfl
  refine wpAny_take (i := 13) (v := ?_) rfl (by kernel_rfl) (by kernel_rfl) (by kernel_rfl) (fun _ _ _ h => h) (Or.inl ⟨by rfl, ?_⟩) ?_
  rotate_left
  · intro w
    go_simp
    with_reducible rfl
  refine wpAny_take (i := 15) (v := ?_) rfl (by kernel_rfl) (by kernel_rfl) (by kernel_rfl) (fun _ _ _ h => h) (Or.inl ⟨by rfl, ?_⟩) ?_
  rotate_left
  · intro w
    go_simp
    with_reducible rfl
  refine wpAny_take (i := 17) (v := ?_) rfl (by kernel_rfl) (by kernel_rfl) (by kernel_rfl) (fun _ _ _ h => h) (Or.inl ⟨by rfl, ?_⟩) ?_
  rotate_left
  · intro w
    go_simp
    with_reducible rfl
  refine wpAny_take (i := 19) (v := ?_) rfl (by kernel_rfl) (by kernel_rfl) (by kernel_rfl) (fun _ _ _ h => h) (Or.inl ⟨by rfl, ?_⟩) ?_
  rotate_left
  · intro w
    go_simp
    with_reducible rfl
  refine wpAny_ready (rs := [0]) (by kernel_rfl) (by simp) ?_
  refine AllReady.cons rfl (fun K hK => ?_) AllReady.nil
  go_simp
  refine hK _ _ ?_
  clear hK K
  refine wpAny_ins0 (base := w.drew) (by kernel_rfl) (by kernel_rfl) rfl (by kernel_rfl) ?_ ?_
  · intro k hk l hn K h
    match k, hk with
    | 0, _ =>
      have hp : (Instr.mapUpdate 88 (.map (some w.heap.size)) (.agg #[.int .i64 0, .string ⟨#[111, 114]⟩]) (.int .i64 14)).run Tryz.prog (w.alloc (mapO l)).drew = .ok () (w.alloc (mapO (l ++ [⟨0, [111, 114], 14⟩]))).drew := put_opr w.drew l 0 [111, 114] 14 hn
      generalize mapO l = X at hp ⊢
      refine wpOp_step rfl (fun K' hK => ?_)
      go_simp
      exact hK _ _ h
    | 1, _ =>
      have hp : (Instr.mapUpdate 88 (.map (some w.heap.size)) (.agg #[.int .i64 1, .string ⟨#[97, 110, 100]⟩]) (.int .i64 13)).run Tryz.prog (w.alloc (mapO l)).drew = .ok () (w.alloc (mapO (l ++ [⟨1, [97, 110, 100], 13⟩]))).drew := put_opr w.drew l 1 [97, 110, 100] 13 hn
      generalize mapO l = X at hp ⊢
      refine wpOp_step rfl (fun K' hK => ?_)
      go_simp
      exact hK _ _ h
    | 2, _ =>
      have hp : (Instr.mapUpdate 88 (.map (some w.heap.size)) (.agg #[.int .i64 2, .string ⟨#[60]⟩]) (.int .i64 11)).run Tryz.prog (w.alloc (mapO l)).drew = .ok () (w.alloc (mapO (l ++ [⟨2, [60], 11⟩]))).drew := put_opr w.drew l 2 [60] 11 hn
      generalize mapO l = X at hp ⊢
      refine wpOp_step rfl (fun K' hK => ?_)
      go_simp
      exact hK _ _ h
    | 3, _ =>
      have hp : (Instr.mapUpdate 88 (.map (some w.heap.size)) (.agg #[.int .i64 2, .string ⟨#[61]⟩]) (.int .i64 12)).run Tryz.prog (w.alloc (mapO l)).drew = .ok () (w.alloc (mapO (l ++ [⟨2, [61], 12⟩]))).drew := put_opr w.drew l 2 [61] 12 hn
      generalize mapO l = X at hp ⊢
      refine wpOp_step rfl (fun K' hK => ?_)
      go_simp
      exact hK _ _ h
    | 4, _ =>
      have hp : (Instr.mapUpdate 88 (.map (some w.heap.size)) (.agg #[.int .i64 3, .string ⟨#[43]⟩]) (.int .i64 4)).run Tryz.prog (w.alloc (mapO l)).drew = .ok () (w.alloc (mapO (l ++ [⟨3, [43], 4⟩]))).drew := put_opr w.drew l 3 [43] 4 hn
      generalize mapO l = X at hp ⊢
      refine wpOp_step rfl (fun K' hK => ?_)
      go_simp
      exact hK _ _ h
    | 5, _ =>
      have hp : (Instr.mapUpdate 88 (.map (some w.heap.size)) (.agg #[.int .i64 3, .string ⟨#[45]⟩]) (.int .i64 5)).run Tryz.prog (w.alloc (mapO l)).drew = .ok () (w.alloc (mapO (l ++ [⟨3, [45], 5⟩]))).drew := put_opr w.drew l 3 [45] 5 hn
      generalize mapO l = X at hp ⊢
      refine wpOp_step rfl (fun K' hK => ?_)
      go_simp
      exact hK _ _ h
    | 6, _ =>
      have hp : (Instr.mapUpdate 88 (.map (some w.heap.size)) (.agg #[.int .i64 4, .string ⟨#[42]⟩]) (.int .i64 6)).run Tryz.prog (w.alloc (mapO l)).drew = .ok () (w.alloc (mapO (l ++ [⟨4, [42], 6⟩]))).drew := put_opr w.drew l 4 [42] 6 hn
      generalize mapO l = X at hp ⊢
      refine wpOp_step rfl (fun K' hK => ?_)
      go_simp
      exact hK _ _ h
    | 7, _ =>
      have hp : (Instr.mapUpdate 88 (.map (some w.heap.size)) (.agg #[.int .i64 4, .string ⟨#[47]⟩]) (.int .i64 7)).run Tryz.prog (w.alloc (mapO l)).drew = .ok () (w.alloc (mapO (l ++ [⟨4, [47], 7⟩]))).drew := put_opr w.drew l 4 [47] 7 hn
      generalize mapO l = X at hp ⊢
      refine wpOp_step rfl (fun K' hK => ?_)
      go_simp
      exact hK _ _ h
    | 8, _ =>
      have hp : (Instr.mapUpdate 88 (.map (some w.heap.size)) (.agg #[.int .i64 5, .string ⟨#[109, 105, 110]⟩]) (.int .i64 8)).run Tryz.prog (w.alloc (mapO l)).drew = .ok () (w.alloc (mapO (l ++ [⟨5, [109, 105, 110], 8⟩]))).drew := put_opr w.drew l 5 [109, 105, 110] 8 hn
      generalize mapO l = X at hp ⊢
      refine wpOp_step rfl (fun K' hK => ?_)
      go_simp
      exact hK _ _ h
    | 9, _ =>
      have hp : (Instr.mapUpdate 88 (.map (some w.heap.size)) (.agg #[.int .i64 5, .string ⟨#[109, 97, 120]⟩]) (.int .i64 9)).run Tryz.prog (w.alloc (mapO l)).drew = .ok () (w.alloc (mapO (l ++ [⟨5, [109, 97, 120], 9⟩]))).drew := put_opr w.drew l 5 [109, 97, 120] 9 hn
      generalize mapO l = X at hp ⊢
      refine wpOp_step rfl (fun K' hK => ?_)
      go_simp
      exact hK _ _ h
  · intro l hs hc
    refine wpAny_ready (rs := [21]) (by kernel_rfl) (by simp) ?_
    refine AllReady.cons rfl (fun K hK => ?_) AllReady.nil
    go_simp
    refine hK _ _ ?_
    clear hK K
    refine wpAny_ready (rs := [22]) (by kernel_rfl) (by simp) ?_
    refine AllReady.cons rfl (fun K hK => ?_) AllReady.nil
    go_simp
    refine hK _ _ ?_
    clear hK K
    refine wpAny_done (by kernel_rfl) ?_ _
    have HF := Lib.hid (find_same hs hc)
    generalize hX : mapO l = X
    go_wp2_with fail
    go_ret
    exact ⟨rfl, l, HF.out, by rw [hX]; rfl⟩
end Go.Proofs.YthnlenbfknbmcaaGreatDoor
