/-
  SignChallenges: the walk.
-/
import Derived.Test.YtgljelkjfipefaaDoorSignKit
import Derived.Test.YtgljelkjfipefaaDoorStep
import Derived.Deep.RegionHeld3
import Derived.Deep.DeepFit
namespace Go.Proofs.YtgljelkjfipefaaDoor
open Go.RowKit Go.Shelf

theorem tmod_b (x : Int) : -1073741789 < x.tmod 1073741789 ∧ x.tmod 1073741789 < 1073741789 := by
  rcases Int.le_total 0 x with h | h
  · rw [Int.tmod_eq_emod_of_nonneg h]; omega
  · have e : x.tmod 1073741789 = -((-x).tmod 1073741789) := by rw [Int.neg_tmod, Int.neg_neg]
    rw [e, Int.tmod_eq_emod_of_nonneg (by omega)]; omega

set_option maxRecDepth 100000 in
set_option maxHeartbeats 8000000 in
theorem walkSignChallenges (a b c : Int) (v1 : Value) (l1 : List Int) (v2 : Value) (l2 : List Int) (p q : Int) (w : World) (ha : U64 a) (hb0 : U64 b) (hc0 : U64 c) (hT : Tab w) (h1 : Ints w v1 l1) (hf1 : Fat v1) (h2 : Ints w v2 l2) (hf2 : Fat v2) :
    Calls Tryd.prog 6 #[.int .u64 a, .int .u64 b, .int .u64 c, v1, v2, .agg #[.int .i64 p, .int .i64 q]] w (Ret (.bool true) w) := by
  obtain ⟨V1, hV1, hfew1⟩ := few_at v1 l1 w h1 hf1
  obtain ⟨V2, hV2, hfew2⟩ := few_at v2 l2 w h2 hf2
  have hl1 := len_few l1
  have hl2 := len_few l2
  have hbw : Below w.heap.size w (w.alloc (.cells #[.int .i64 p, .int .i64 q] 23)) := (Below.refl _ w).alloc (Nat.le_refl _) _
  have hO := Own.new w #[.int .i64 p, .int .i64 q] 23
  obtain ⟨ad1, cap1, rfl⟩ := h1.1.shape
  obtain ⟨ad2, cap2, rfl⟩ := h2.1.shape
  simp only [List.length_map] at hfew1 hfew2 ⊢
  clear h1 h2 hf1 hf2
  go_enter Tryd.func6, Tryd.ntmps6
  go_wp2_with fail
  generalize w.alloc (.cells #[.int .i64 p, .int .i64 q] 23) = W at *
  have hTW : Tab W := hT.below hbw
  have hVW1 : Ints W V1 (l1.take 20) := ⟨hV1.1.below hbw, hV1.2⟩
  have hVW2 : Ints W V2 (l2.take 20) := ⟨hV2.1.below hbw, hV2.2⟩
  have hk : ∀ w1, Below W.heap.size W w1 → w1.cell? ⟨w.heap.size, 0, none⟩ = some (.int .i64 p) ∧ w1.cell? ⟨w.heap.size, 1, none⟩ = some (.int .i64 q) ∧ w.heap.size < w1.heap.size :=
    fun w1 hb => ⟨(hb.cell (p := ⟨w.heap.size, 0, none⟩) hO.two.2.2.2.2).trans hO.two.1, (hb.cell (p := ⟨w.heap.size, 1, none⟩) hO.two.2.2.2.2).trans hO.two.2.1, Nat.lt_of_lt_of_le hO.two.2.2.2.2 hb.size⟩
  have hfw1 : ∀ w1, Below W.heap.size W w1 → Calls Tryd.prog 10 #[.slice ad1 l1.length cap1] w1 (Same V1 w1) := fun w1 hb => hfew1 w1 (hbw.trans (hb.mono hbw.size))
  have hfw2 : ∀ w1, Below W.heap.size W w1 → Calls Tryd.prog 10 #[.slice ad2 l2.length cap2] w1 (Same V2 w1) := fun w1 hb => hfew2 w1 (hbw.trans (hb.mono hbw.size))
  have sg : ∀ w1, Below W.heap.size W w1 → Calls Tryd.prog 17 #[.int .i64 (secI a), .int .i64 (secI b), V1] w1 _ := fun w1 hb => at_sign hTW hb (secB_sec a) (secB_sec b) hVW1 hl1
  have bE : expB (sgnI (secI a) (secI b) (l1.take 20)) = true := sgnI_exp _ _ _
  have bS : expB (sgnS (secI a) (secI b) (l1.take 20)) = true := sgnS_exp _ _ _
  generalize sgnI (secI a) (secI b) (l1.take 20) = E at *
  generalize sgnS (secI a) (secI b) (l1.take 20) = S at *
  have rE : 0 ≤ E ∧ E < 1073741789 := by unfold expB at bE; rw [decide_eq_true_eq] at bE; exact bE
  have rS : 0 ≤ S ∧ S < 1073741789 := by unfold expB at bS; rw [decide_eq_true_eq] at bS; exact bS
  -- what is changed
  obtain ⟨p1, hp1⟩ : ∃ p1, p.tmod 1073741789 = p1 := ⟨_, rfl⟩
  obtain ⟨q1, hq1⟩ : ∃ q1, q.tmod 1073741789 = q1 := ⟨_, rfl⟩
  have rp1 : -1073741789 < p1 ∧ p1 < 1073741789 := by rw [← hp1]; exact tmod_b _
  have rq1 : -1073741789 < q1 ∧ q1 < 1073741789 := by rw [← hq1]; exact tmod_b _
  obtain ⟨p2, hp2⟩ : ∃ p2, (E + p1).tmod 1073741789 = p2 := ⟨_, rfl⟩
  obtain ⟨q2, hq2⟩ : ∃ q2, (S + q1).tmod 1073741789 = q2 := ⟨_, rfl⟩
  have rp2 : -1073741789 < p2 ∧ p2 < 1073741789 := by rw [← hp2]; exact tmod_b _
  have rq2 : -1073741789 < q2 ∧ q2 < 1073741789 := by rw [← hq2]; exact tmod_b _
  obtain ⟨E', hp3⟩ : ∃ E', (p2 + 1073741789) % 1073741789 = E' := ⟨_, rfl⟩
  obtain ⟨S', hq3⟩ : ∃ S', (q2 + 1073741789) % 1073741789 = S' := ⟨_, rfl⟩
  have rE' : 0 ≤ E' ∧ E' < 1073741789 := by omega
  have rS' : 0 ≤ S' ∧ S' < 1073741789 := by omega
  have bE' : expB E' = true := by unfold expB; rw [decide_eq_true_eq]; exact rE'
  have bS' : expB S' = true := by unfold expB; rw [decide_eq_true_eq]; exact rS'
  have mp : ∀ x, memB (pwI 4 x) = true := memG
  obtain ⟨P1, hP1⟩ : ∃ P1, P1 = pwI 4 (secI a) := ⟨_, rfl⟩
  obtain ⟨P2, hP2⟩ : ∃ P2, P2 = pwI 4 (secI c) := ⟨_, rfl⟩
  have pub1 : ∀ w1, Calls Tryd.prog 15 #[.int .i64 (secI a)] w1 (Ret (.tuple #[.int .i64 P1, .int .i64 0]) w1) := fun w1 => by rw [hP1]; exact at_pub (secB_sec _)
  have pub2 : ∀ w1, Calls Tryd.prog 15 #[.int .i64 (secI c)] w1 (Ret (.tuple #[.int .i64 P2, .int .i64 0]) w1) := fun w1 => by rw [hP2]; exact at_pub (secB_sec _)
  have m1 : memB P1 = true := by rw [hP1]; exact memG _
  have m2 : memB P2 = true := by rw [hP2]; exact memG _
  clear hP1 hP2 mp hV1 hV2 hfew1 hfew2 hO hT
  have hb := Below.refl W.heap.size W
  have k0 := Lib.hid ha
  go_wp2_with (first
    | (go_at_call 17; refine (sg _ hb).mono ?_; rintro e wA ⟨rfl, hx⟩; replace hb := bel_step hb hx; clear hx; obtain ⟨c0, c1, z⟩ := hk _ hb)
    | (go_at_call 15; have k2 := k1; refine (pub2 _).mono ?_; rintro e w1 ⟨rfl, hx⟩; replace hb := bel_step hb hx; clear hx)
    | (go_at_call 15; have k1 := k0; refine (pub1 _).mono ?_; rintro e w1 ⟨rfl, hx⟩; replace hb := bel_step hb hx; clear hx)
    | (go_at_call 21; refine (secret_at (by assumption) _).mono ?_; rintro e w1 ⟨rfl, rfl⟩)
    | (go_at_call 10; have k4 := k3; refine (hfw2 _ hb).mono ?_; rintro e w1 ⟨rfl, rfl⟩)
    | (go_at_call 10; have k3 := k0; refine (hfw1 _ hb).mono ?_; rintro e w1 ⟨rfl, rfl⟩)
    | (go_at_call 9; refine (at_head hTW hb).mono ?_; rintro e w1 ⟨rfl, hx⟩; replace hb := bel_step hb hx; clear hx))
  -- behind the changes
  have hbW := (hb.alloc hb.size (.cells #[.int .i64 E, .int .i64 S] 23)).alloc (by have := hb.size; simp; omega) (.cells #[.int .i64 E', .int .i64 S'] 23)
  have oA := ((Own.new wA #[.int .i64 E, .int .i64 S] 23).alloc (.cells #[.int .i64 E', .int .i64 S'] 23)).two
  have oB := (Own.at (wA.alloc (.cells #[.int .i64 E, .int .i64 S] 23)) #[.int .i64 E', .int .i64 S'] 23 (wA.heap.size + 1) (by simp)).two
  generalize (wA.alloc (.cells #[.int .i64 E, .int .i64 S] 23)).alloc (.cells #[.int .i64 E', .int .i64 S'] 23) = W2 at *
  generalize hn : wA.heap.size = n at *
  clear hn
  have hT2 : Tab W2 := hTW.below hbW
  have hi1 : Ints W2 V1 (l1.take 20) := ⟨hVW1.1.below hbW, hVW1.2⟩
  have hi2 : Ints W2 V2 (l2.take 20) := ⟨hVW2.1.below hbW, hVW2.2⟩
  have hk2 : ∀ w1, Below W2.heap.size W2 w1 → (Below W2.heap.size W2 w1 ∧ w1.cell? ⟨n, 0, none⟩ = some (.int .i64 E) ∧ w1.cell? ⟨n, 1, none⟩ = some (.int .i64 S) ∧ w1.cell? ⟨n + 1, 0, none⟩ = some (.int .i64 E') ∧ w1.cell? ⟨n + 1, 1, none⟩ = some (.int .i64 S')) :=
    fun w1 hb => ⟨hb, (hb.cell (p := ⟨n, 0, none⟩) oA.2.2.2.2).trans oA.1, (hb.cell (p := ⟨n, 1, none⟩) oA.2.2.2.2).trans oA.2.1, (hb.cell (p := ⟨n + 1, 0, none⟩) oB.2.2.2.2).trans oB.1, (hb.cell (p := ⟨n + 1, 1, none⟩) oB.2.2.2.2).trans oB.2.1⟩
  have hfin : ∀ w1, Below W2.heap.size W2 w1 → Below w.heap.size w w1 := fun w1 h => hbw.trans ((hbW.trans (h.mono hbW.size)).mono hbw.size)
  obtain ⟨B1, hB1⟩ : ∃ B, B = back P1 E' S' := ⟨_, rfl⟩
  obtain ⟨C1, hC1⟩ : ∃ C, C = chal ((back P1 E' S' : Int) :: P1 :: l1.take 20) := ⟨_, rfl⟩
  have ver1 : ∀ w1, Below W2.heap.size W2 w1 → Calls Tryd.prog 19 #[.int .i64 P1, .agg #[.int .i64 E', .int .i64 S'], V1] w1 (Ret (.tuple #[.bool ((C1 : Int) == E'), .int .i64 0]) w1) := fun w1 hb => by
    have h := at_ver hT2 hb m1 bE' bS' hi1 hl1
    unfold verB at h
    rw [← hC1, ← beq_dec] at h
    exact h
  have bk1 : ∀ w1, Calls Tryd.prog 23 #[.int .i64 P1, .agg #[.int .i64 E', .int .i64 S']] w1 (Ret (.int .i64 B1) w1) := fun w1 => by
    rw [hB1]
    exact refBack_any P1 E' S' (by have := memB_out m1; omega) (by have := memB_out m1; omega) rE' rS' w1
  have bi1 : I64 (B1 : Int) := by have := back_lt P1 E' S'; rw [← hB1, sP_eq] at this; constructor <;> omega
  rw [← hB1] at hC1
  have ch1 : ∀ w1 v, Ints w1 v ((B1 : Int) :: P1 :: l1.take 20) → Calls Tryd.prog 22 #[v] w1 (Ret (.int .i64 C1) w1) := fun w1 v hi => by
    rw [hC1]
    exact refChal_any v _ w1 hi (by simp only [List.length_cons]; omega)
  clear hB1 hC1
  obtain ⟨B2, hB2⟩ : ∃ B, B = back P1 E S := ⟨_, rfl⟩
  obtain ⟨C2, hC2⟩ : ∃ C, C = chal ((back P1 E S : Int) :: P1 :: l2.take 20) := ⟨_, rfl⟩
  have ver2 : ∀ w1, Below W2.heap.size W2 w1 → Calls Tryd.prog 19 #[.int .i64 P1, .agg #[.int .i64 E, .int .i64 S], V2] w1 (Ret (.tuple #[.bool ((C2 : Int) == E), .int .i64 0]) w1) := fun w1 hb => by
    have h := at_ver hT2 hb m1 bE bS hi2 hl2
    unfold verB at h
    rw [← hC2, ← beq_dec] at h
    exact h
  have bk2 : ∀ w1, Calls Tryd.prog 23 #[.int .i64 P1, .agg #[.int .i64 E, .int .i64 S]] w1 (Ret (.int .i64 B2) w1) := fun w1 => by
    rw [hB2]
    exact refBack_any P1 E S (by have := memB_out m1; omega) (by have := memB_out m1; omega) rE rS w1
  have bi2 : I64 (B2 : Int) := by have := back_lt P1 E S; rw [← hB2, sP_eq] at this; constructor <;> omega
  rw [← hB2] at hC2
  have ch2 : ∀ w1 v, Ints w1 v ((B2 : Int) :: P1 :: l2.take 20) → Calls Tryd.prog 22 #[v] w1 (Ret (.int .i64 C2) w1) := fun w1 v hi => by
    rw [hC2]
    exact refChal_any v _ w1 hi (by simp only [List.length_cons]; omega)
  clear hB2 hC2
  obtain ⟨B3, hB3⟩ : ∃ B, B = back P2 E S := ⟨_, rfl⟩
  obtain ⟨C3, hC3⟩ : ∃ C, C = chal ((back P2 E S : Int) :: P2 :: l1.take 20) := ⟨_, rfl⟩
  have ver3 : ∀ w1, Below W2.heap.size W2 w1 → Calls Tryd.prog 19 #[.int .i64 P2, .agg #[.int .i64 E, .int .i64 S], V1] w1 (Ret (.tuple #[.bool ((C3 : Int) == E), .int .i64 0]) w1) := fun w1 hb => by
    have h := at_ver hT2 hb m2 bE bS hi1 hl1
    unfold verB at h
    rw [← hC3, ← beq_dec] at h
    exact h
  have bk3 : ∀ w1, Calls Tryd.prog 23 #[.int .i64 P2, .agg #[.int .i64 E, .int .i64 S]] w1 (Ret (.int .i64 B3) w1) := fun w1 => by
    rw [hB3]
    exact refBack_any P2 E S (by have := memB_out m2; omega) (by have := memB_out m2; omega) rE rS w1
  have bi3 : I64 (B3 : Int) := by have := back_lt P2 E S; rw [← hB3, sP_eq] at this; constructor <;> omega
  rw [← hB3] at hC3
  have ch3 : ∀ w1 v, Ints w1 v ((B3 : Int) :: P2 :: l1.take 20) → Calls Tryd.prog 22 #[v] w1 (Ret (.int .i64 C3) w1) := fun w1 v hi => by
    rw [hC3]
    exact refChal_any v _ w1 hi (by simp only [List.length_cons]; omega)
  clear hB3 hC3
  have i1 := memB_i64 m1
  have i2 := memB_i64 m2
  clear hbW oA oB hTW hVW1 hVW2 hk hfw1 hfw2 sg pub1 pub2 hp1 hq1 hp2 hq2 hp3 hq3 hT2 m1 m2 c0 c1 z hb
  obtain ⟨hb, c0, c1, d0, d1⟩ := hk2 _ (Below.refl _ _)
  have k5 := Lib.hid ha
  go_wp2_with (first
    | (go_at_call 19; have k8 := k7; refine (ver3 _ hb).mono ?_; rintro e w1 ⟨rfl, hx⟩; replace hb := bel_step hb hx; clear hx c0 c1 d0 d1; obtain ⟨_, c0, c1, d0, d1⟩ := hk2 _ hb)
    | (go_at_call 19; have k7 := k6; refine (ver2 _ hb).mono ?_; rintro e w1 ⟨rfl, hx⟩; replace hb := bel_step hb hx; clear hx c0 c1 d0 d1; obtain ⟨_, c0, c1, d0, d1⟩ := hk2 _ hb)
    | (go_at_call 19; have k6 := k5; refine (ver1 _ hb).mono ?_; rintro e w1 ⟨rfl, hx⟩; replace hb := bel_step hb hx; clear hx c0 c1 d0 d1; obtain ⟨_, c0, c1, d0, d1⟩ := hk2 _ hb))
  clear ver1 ver2 ver3
  have row1 := hi1.1
  have ln1 : ((l1.take 20).map (Value.int .i64)).length ≤ 20 := by rw [List.length_map, List.length_take]; omega
  have all1 : ∀ x ∈ (B1 : Int) :: P1 :: l1.take 20, I64 x := by
    intro x hx
    rcases List.mem_cons.1 hx with rfl | hx
    · exact bi1
    · rcases List.mem_cons.1 hx with rfl | hx
      · exact i1
      · exact hi1.2 x hx
  have own1 : ∀ wS v' w', OwnRow w' wS 3 v' ([Value.int .i64 (B1 : Int), .int .i64 P1] ++ (l1.take 20).map (Value.int .i64)) → Ints w' v' ((B1 : Int) :: P1 :: l1.take 20) := fun wS v' w' h => ints_of_own (base := wS) h (by have := ln1; rw [List.length_map] at this; simp only [List.length_cons]; omega) all1
  go_region_held3 (fun w' => Below W2.heap.size W2 w' ∧ w'.cell? ⟨n, 0, none⟩ = some (.int .i64 E) ∧ w'.cell? ⟨n, 1, none⟩ = some (.int .i64 S) ∧ w'.cell? ⟨n + 1, 0, none⟩ = some (.int .i64 E') ∧ w'.cell? ⟨n + 1, 1, none⟩ = some (.int .i64 S'))
    (exact hk2 _ (by first | assumption | exact Below.drew (by assumption) | exact Below.alloc (And.left (by assumption)) (And.left (by assumption) : Below W2.heap.size W2 _).size _))
    (first | (go_at_call 23; refine (bk1 _).mono ?_; rintro e wS1 ⟨rfl, hxS⟩; have hS1 := bel_step (W := W2) (And.left (by assumption)) hxS) | (refine step_row _ rfl _ _ 24 rfl wS1.heap.size 3 (.int .i64 0) 8 Tryd.underlying24 Tryd.infoInt rfl (by decide) _ [.int .i64 B1, .int .i64 P1] rfl (OwnRow.new wS1 wS1.heap.size (Nat.le_refl _) 3 [.int .i64 B1, .int .i64 P1] (by simp)) _ ((l1.take 20).map (Value.int .i64)) rfl (row1.below (And.left (by assumption))) int_one (by simp only [List.length_cons, List.length_nil]; omega) (by simp) ?_; intro v' w' hown hxA; have hA1 : Below W2.heap.size W2 w' := Below.trans (And.left (by assumption)) (hxA.mono hS1.size); replace hown := own1 _ _ _ hown) | (go_at_call 22; refine (ch1 _ _ (by assumption)).mono ?_; rintro e wE1 ⟨rfl, hxE⟩; have hE1 := bel_step (W := W2) (And.left (by assumption)) hxE))
  clear c0 c1 d0 d1
  obtain ⟨_, c0, c1, d0, d1⟩ := hk2 _ hE1
  go_wp2_with fail
  have row2 := hi2.1
  have ln2 : ((l2.take 20).map (Value.int .i64)).length ≤ 20 := by rw [List.length_map, List.length_take]; omega
  have all2 : ∀ x ∈ (B2 : Int) :: P1 :: l2.take 20, I64 x := by
    intro x hx
    rcases List.mem_cons.1 hx with rfl | hx
    · exact bi2
    · rcases List.mem_cons.1 hx with rfl | hx
      · exact i1
      · exact hi2.2 x hx
  have own2 : ∀ wS v' w', OwnRow w' wS 3 v' ([Value.int .i64 (B2 : Int), .int .i64 P1] ++ (l2.take 20).map (Value.int .i64)) → Ints w' v' ((B2 : Int) :: P1 :: l2.take 20) := fun wS v' w' h => ints_of_own (base := wS) h (by have := ln2; rw [List.length_map] at this; simp only [List.length_cons]; omega) all2
  go_region_held3 (fun w' => Below W2.heap.size W2 w' ∧ w'.cell? ⟨n, 0, none⟩ = some (.int .i64 E) ∧ w'.cell? ⟨n, 1, none⟩ = some (.int .i64 S) ∧ w'.cell? ⟨n + 1, 0, none⟩ = some (.int .i64 E') ∧ w'.cell? ⟨n + 1, 1, none⟩ = some (.int .i64 S'))
    (exact hk2 _ (by first | assumption | exact Below.drew (by assumption) | exact Below.alloc (And.left (by assumption)) (And.left (by assumption) : Below W2.heap.size W2 _).size _))
    (first | (go_at_call 23; refine (bk2 _).mono ?_; rintro e wS2 ⟨rfl, hxS⟩; have hS2 := bel_step (W := W2) (And.left (by assumption)) hxS) | (refine step_row _ rfl _ _ 24 rfl wS2.heap.size 3 (.int .i64 0) 8 Tryd.underlying24 Tryd.infoInt rfl (by decide) _ [.int .i64 B2, .int .i64 P1] rfl (OwnRow.new wS2 wS2.heap.size (Nat.le_refl _) 3 [.int .i64 B2, .int .i64 P1] (by simp)) _ ((l2.take 20).map (Value.int .i64)) rfl (row2.below (And.left (by assumption))) int_one (by simp only [List.length_cons, List.length_nil]; omega) (by simp) ?_; intro v' w' hown hxA; have hA2 : Below W2.heap.size W2 w' := Below.trans (And.left (by assumption)) (hxA.mono hS2.size); replace hown := own2 _ _ _ hown) | (go_at_call 22; refine (ch2 _ _ (by assumption)).mono ?_; rintro e wE2 ⟨rfl, hxE⟩; have hE2 := bel_step (W := W2) (And.left (by assumption)) hxE))
  clear c0 c1 d0 d1
  obtain ⟨_, c0, c1, d0, d1⟩ := hk2 _ hE2
  go_wp2_with fail
  have row3 := hi1.1
  have ln3 : ((l1.take 20).map (Value.int .i64)).length ≤ 20 := by rw [List.length_map, List.length_take]; omega
  have all3 : ∀ x ∈ (B3 : Int) :: P2 :: l1.take 20, I64 x := by
    intro x hx
    rcases List.mem_cons.1 hx with rfl | hx
    · exact bi3
    · rcases List.mem_cons.1 hx with rfl | hx
      · exact i2
      · exact hi1.2 x hx
  have own3 : ∀ wS v' w', OwnRow w' wS 3 v' ([Value.int .i64 (B3 : Int), .int .i64 P2] ++ (l1.take 20).map (Value.int .i64)) → Ints w' v' ((B3 : Int) :: P2 :: l1.take 20) := fun wS v' w' h => ints_of_own (base := wS) h (by have := ln3; rw [List.length_map] at this; simp only [List.length_cons]; omega) all3
  go_region_held3 (fun w' => Below W2.heap.size W2 w' ∧ w'.cell? ⟨n, 0, none⟩ = some (.int .i64 E) ∧ w'.cell? ⟨n, 1, none⟩ = some (.int .i64 S) ∧ w'.cell? ⟨n + 1, 0, none⟩ = some (.int .i64 E') ∧ w'.cell? ⟨n + 1, 1, none⟩ = some (.int .i64 S'))
    (exact hk2 _ (by first | assumption | exact Below.drew (by assumption) | exact Below.alloc (And.left (by assumption)) (And.left (by assumption) : Below W2.heap.size W2 _).size _))
    (first | (go_at_call 23; refine (bk3 _).mono ?_; rintro e wS3 ⟨rfl, hxS⟩; have hS3 := bel_step (W := W2) (And.left (by assumption)) hxS) | (refine step_row _ rfl _ _ 24 rfl wS3.heap.size 3 (.int .i64 0) 8 Tryd.underlying24 Tryd.infoInt rfl (by decide) _ [.int .i64 B3, .int .i64 P2] rfl (OwnRow.new wS3 wS3.heap.size (Nat.le_refl _) 3 [.int .i64 B3, .int .i64 P2] (by simp)) _ ((l1.take 20).map (Value.int .i64)) rfl (row3.below (And.left (by assumption))) int_one (by simp only [List.length_cons, List.length_nil]; omega) (by simp) ?_; intro v' w' hown hxA; have hA3 : Below W2.heap.size W2 w' := Below.trans (And.left (by assumption)) (hxA.mono hS3.size); replace hown := own3 _ _ _ hown) | (go_at_call 22; refine (ch3 _ _ (by assumption)).mono ?_; rintro e wE3 ⟨rfl, hxE⟩; have hE3 := bel_step (W := W2) (And.left (by assumption)) hxE))
  clear c0 c1 d0 d1
  obtain ⟨_, c0, c1, d0, d1⟩ := hk2 _ hE3
  go_wp2_with fail
  go_ret
  exact Ret.mk rfl (hfin _ hE3)
end Go.Proofs.YtgljelkjfipefaaDoor