/-
  The reference: Sign and Verify.
-/
import Derived.Test.YtgljelkjfipefaaDoorSignS
import Derived.Deep.RegionHeld3
import Derived.Deep.DeepFit
namespace Go.Proofs.YtgljelkjfipefaaDoor
open Go.RowKit Go.Shelf

theorem bel_step {W w w' : World} (h : Below W.heap.size W w) (hx : Below w.heap.size w w') : Below W.heap.size W w' := h.trans (hx.mono h.size)

set_option maxHeartbeats 2000000 in
theorem refSign_any (sec once : Int) (v : Value) (l : List Int) (w : World) (h : Ints w v l) (hlen : l.length ≤ 100000) : Calls Tryd.prog 18 #[.int .i64 sec, .int .i64 once, v] w (Ret (sgnV (sgnF sec once l)) w) := by
  have h1 := fun w => refSec_any sec w
  have h2 := fun w => refSec_any once w
  unfold sgnF sgnV
  cases hA : secB sec with
  | false =>
    rw [hA] at h1
    clear hA
    obtain ⟨ad, cap, rfl⟩ := h.1.shape
    clear h
    simp only [Bool.false_and, Bool.false_eq_true, if_false]
    cases hX : secB once <;> rw [hX] at h2 <;> clear hX <;>
    · go_enter Tryd.func18, Tryd.ntmps18
      go_wp2_with (first | (go_at_call 29; have mk2 := mk1; refine (h2 _).mono ?_; rintro e w2 ⟨rfl, rfl⟩) | (go_at_call 29; refine (h1 _).mono ?_; rintro e w2 ⟨rfl, rfl⟩; have mk1 := Lib.hid (Nat.le_refl w.heap.size)))
      refine bodyPost_ret (v := .tuple #[.agg #[.int .i64 0, .int .i64 0], .int .i64 1]) (by simp [results, Tryd.results18, go_sem]) rfl (Ret.mk rfl (by (repeat (first | exact Below.refl _ _ | assumption | refine Below.drew ?_ | refine below_drewN ?_ _ | refine Below.setCell ?_ (by first | omega | (simp <;> omega)) _ | refine Below.alloc ?_ (by first | omega | (simp <;> omega)) _))))
  | true =>
    rw [hA] at h1
    cases hX : secB once with
    | false =>
      rw [hX] at h2
      clear hA hX
      obtain ⟨ad, cap, rfl⟩ := h.1.shape
      clear h
      simp only [Bool.and_false, Bool.false_eq_true, if_false]
      go_enter Tryd.func18, Tryd.ntmps18
      go_wp2_with (first | (go_at_call 29; have mk2 := mk1; refine (h2 _).mono ?_; rintro e w2 ⟨rfl, rfl⟩) | (go_at_call 29; refine (h1 _).mono ?_; rintro e w2 ⟨rfl, rfl⟩; have mk1 := Lib.hid (Nat.le_refl w.heap.size)))
      refine bodyPost_ret (v := .tuple #[.agg #[.int .i64 0, .int .i64 0], .int .i64 1]) (by simp [results, Tryd.results18, go_sem]) rfl (Ret.mk rfl (by (repeat (first | exact Below.refl _ _ | assumption | refine Below.drew ?_ | refine below_drewN ?_ _ | refine Below.setCell ?_ (by first | omega | (simp <;> omega)) _ | refine Below.alloc ?_ (by first | omega | (simp <;> omega)) _))))
    | true =>
      rw [hX] at h2
      have bs : 1 ≤ sec ∧ sec < 1073741789 := by unfold secB at hA; simpa using hA
      have bo : 1 ≤ once ∧ once < 1073741789 := by unfold secB at hX; simpa using hX
      have hb0 : Below w.heap.size w (w.alloc (.cells #[.int .i64 0, .int .i64 0] 23)) := (Below.refl _ w).alloc (Nat.le_refl _) _
      have hO := Own.new w #[.int .i64 0, .int .i64 0] 23
      have haf := after_any (pwI 4 once) (pwI 4 sec) (pw_i64 _ _) (pw_i64 _ _) v l _ ⟨h.1.below hb0, h.2⟩ hlen
      have hE : sgnE sec once l < sQ := chal_lt _
      have hch : ∀ w1 v1, Ints w1 v1 (pwI 4 once :: pwI 4 sec :: l) → Calls Tryd.prog 22 #[v1] w1 (Ret (.int .i64 (sgnE sec once l)) w1) :=
        fun w1 v1 hi => refChal_any v1 _ w1 hi (by simp; omega)
      rw [sQ_eq] at hE
      obtain ⟨ad, cap, rfl⟩ := h.1.shape
      simp only [List.length_map] at haf ⊢
      generalize sgnE sec once l = E at *
      have hES : 0 ≤ (E : Int) * sec ∧ (E : Int) * sec ≤ 1073741789 * 1073741789 :=
        ⟨Int.mul_nonneg (by omega) (by omega), Int.mul_le_mul (by omega) (by omega) (by omega) (by omega)⟩
      have hw1 : IntKind.i64.wrap ((E : Int) * sec) = (E : Int) * sec := by rw [IntKind.wrap_i64]; omega
      have hw2 : IntKind.i64.wrap (once + (E : Int) * sec) = once + (E : Int) * sec := by rw [IntKind.wrap_i64]; omega
      have h0 : 0 ≤ once + (E : Int) * sec := by omega
      clear hA hX h
      simp only [Bool.and_true, if_true]
      go_enter Tryd.func18, Tryd.ntmps18
      go_wp2_with (first
        | (go_at_call 22; refine (hch _ _ hi4).mono ?_; rintro e w5 ⟨rfl, hx5⟩; have hx45 := hx4.trans (hx5.mono hx4.size); have hb5 := hb0.trans (hx45.mono hb0.size); obtain ⟨c0, c1, f0, f1, z⟩ := (hO.below hx45).two; clear hx4 hx5 hx45 hi4)
        | (go_at_call 31; refine haf.mono ?_; rintro e w4 ⟨v4, rfl, hi4, hx4⟩)
        | (go_at_call 24; refine (refPow_int _ _ (by omega) (by omega) (by omega) (by omega) _).mono ?_; rintro e w3 ⟨rfl, rfl⟩)
        | (go_at_call 29; have mk2 := mk1; refine (h2 _).mono ?_; rintro e w2 ⟨rfl, rfl⟩) | (go_at_call 29; refine (h1 _).mono ?_; rintro e w2 ⟨rfl, rfl⟩; have mk1 := Lib.hid (Nat.le_refl w.heap.size)))
      refine bodyPost_ret (v := .tuple #[.agg #[.int .i64 E, .int .i64 ((once + (E : Int) * sec) % 1073741789)], .int .i64 0]) (by simp [results, Tryd.results18, go_sem, c0, c1]) rfl (Ret.mk rfl (by (repeat (first | exact Below.refl _ _ | assumption | refine Below.drew ?_ | refine below_drewN ?_ _ | refine Below.setCell ?_ (by first | omega | (simp <;> omega)) _ | refine Below.alloc ?_ (by first | omega | (simp <;> omega)) _))))

theorem beq_dec (a b : Int) : (a == b) = decide (a = b) := by by_cases h : a = b <;> simp [h]
set_option maxHeartbeats 2000000 in
theorem refVerify_any (a E S : Int) (ha : I64 a) (v : Value) (l : List Int) (w : World) (h : Ints w v l) (hlen : l.length ≤ 100000) : Calls Tryd.prog 20 #[.int .i64 a, .agg #[.int .i64 E, .int .i64 S], v] w (Ret (verV (verF a E S l)) w) := by
  have hb0 : Below w.heap.size w (w.alloc (.cells #[.int .i64 E, .int .i64 S] 23)) := (Below.refl _ w).alloc (Nat.le_refl _) _
  have hO := Own.new w #[.int .i64 E, .int .i64 S] 23
  have hm := fun w => refMember_any a w
  have h1 := fun w => refExpo_any E w
  have h2 := fun w => refExpo_any S w
  unfold verF verV
  by_cases hall : (memB a && expB E && expB S) = true
  · rw [if_pos hall]
    simp only [Bool.and_eq_true] at hall
    obtain ⟨⟨hA, hE⟩, hS⟩ := hall
    rw [hA] at hm
    rw [hE] at h1
    rw [hS] at h2
    have bE : 0 ≤ E ∧ E < 1073741789 := by unfold expB at hE; simpa using hE
    have bS : 0 ≤ S ∧ S < 1073741789 := by unfold expB at hS; simpa using hS
    have ba : 1 ≤ a ∧ a < 2147483579 := by unfold memB at hA; simp at hA; omega
    have hbk : ∀ w, Calls Tryd.prog 23 #[.int .i64 a, .agg #[.int .i64 E, .int .i64 S]] w (Ret (.int .i64 (back a E S)) w) := fun w => refBack_any a E S (by omega) (by omega) bE bS w
    have haf : ∀ w1, Below w.heap.size w w1 → Calls Tryd.prog 31 #[.int .i64 (back a E S), .int .i64 a, v] w1 _ := fun w1 hb => after_any (back a E S : Int) a (by have := back_lt a E S; rw [sP_eq] at this; constructor <;> omega) ha v l w1 ⟨h.1.below hb, h.2⟩ hlen
    have hch : ∀ w1 v1, Ints w1 v1 ((back a E S : Int) :: a :: l) → Calls Tryd.prog 22 #[v1] w1 (Ret (.int .i64 (chal ((back a E S : Int) :: a :: l))) w1) :=
      fun w1 v1 hi => refChal_any v1 _ w1 hi (by simp; omega)
    obtain ⟨ad, cap, rfl⟩ := h.1.shape
    simp only [List.length_map] at haf ⊢
    unfold verB
    obtain ⟨C, hC⟩ : ∃ C, C = chal ((back a E S : Int) :: a :: l) := ⟨_, rfl⟩
    rw [← hC] at hch ⊢
    generalize back a E S = B at *
    clear hA hE hS h hC
    go_enter Tryd.func20, Tryd.ntmps20
    obtain ⟨c0, c1, f0, f1, z⟩ := hO.two
    go_wp2_with (first
      | (go_at_call 27; have mk2 := mk1; refine (h2 _).mono ?_; rintro e w3 ⟨rfl, rfl⟩)
      | (go_at_call 27; refine (h1 _).mono ?_; rintro e w3 ⟨rfl, rfl⟩; have mk1 := Lib.hid (Nat.le_refl w.heap.size))
      | (go_at_call 12; refine (hm _).mono ?_; rintro e w2 ⟨rfl, rfl⟩))
    generalize w.alloc (.cells #[.int .i64 E, .int .i64 S] 23) = W at *
    have hk : ∀ w', Below W.heap.size W w' → (Below W.heap.size W w' ∧ w'.cell? ⟨w.heap.size, 0, none⟩ = some (.int .i64 E) ∧ w'.cell? ⟨w.heap.size, 1, none⟩ = some (.int .i64 S)) :=
      fun w' hb => ⟨hb, (hb.cell (p := ⟨w.heap.size, 0, none⟩) z).trans c0, (hb.cell (p := ⟨w.heap.size, 1, none⟩) z).trans c1⟩
    have haf2 := fun w1 (hb : Below W.heap.size W w1) => haf w1 (hb0.trans (hb.mono hb0.size))
    clear hm h1 h2 hO haf
    go_region_held3 (fun w' => Below W.heap.size W w' ∧ w'.cell? ⟨w.heap.size, 0, none⟩ = some (.int .i64 E) ∧ w'.cell? ⟨w.heap.size, 1, none⟩ = some (.int .i64 S))
      (exact hk _ (by first | exact Below.refl _ _ | assumption | exact Below.drew (by assumption) | exact Below.drew (Below.refl _ _)))
      (first | (go_at_call 23; refine (hbk _).mono ?_; rintro e wS ⟨rfl, hxS⟩; have hS1 := bel_step (W := W) (And.left (by assumption)) hxS) | (go_at_call 31; refine (haf2 _ (And.left (by assumption))).mono ?_; rintro e wB ⟨vB, rfl, hiB, hxB⟩; have hB1 := bel_step (W := W) (And.left (by assumption)) hxB) | (go_at_call 22; refine (hch _ _ (by assumption)).mono ?_; rintro e wE ⟨rfl, hxE⟩; have hE1 := bel_step (W := W) (And.left (by assumption)) hxE))
    go_wp2_with fail
    go_ret2
    exact Ret.mk (show Value.tuple #[.bool ((C : Int) == E), .int .i64 0] = _ by rw [beq_dec]) (hb0.trans (hE1.mono hb0.size))
  · rw [if_neg hall]
    obtain ⟨ad, cap, rfl⟩ := h.1.shape
    clear h
    have hb0' := hb0
    obtain ⟨c0, c1, f0, f1, z⟩ := hO.two
    clear hO
    cases hA : memB a <;> cases hE : expB E <;> cases hS : expB S <;> rw [hA] at hm <;> rw [hE] at h1 <;> rw [hS] at h2 <;> first
    | exact absurd (by rw [hA, hE, hS]; rfl) hall
    | (clear hall hA hE hS
       go_enter Tryd.func20, Tryd.ntmps20
       go_wp2_with (first
         | (go_at_call 27; have mk2 := mk1; refine (h2 _).mono ?_; rintro e w3 ⟨rfl, rfl⟩)
         | (go_at_call 27; refine (h1 _).mono ?_; rintro e w3 ⟨rfl, rfl⟩; have mk1 := Lib.hid (Nat.le_refl w.heap.size))
         | (go_at_call 12; refine (hm _).mono ?_; rintro e w2 ⟨rfl, rfl⟩))
       go_ret2
       exact Ret.mk rfl hb0')
end Go.Proofs.YtgljelkjfipefaaDoor
