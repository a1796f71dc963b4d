/-
  Package sign: Verify.
-/
import Derived.Test.YtgljelkjfipefaaDoorSignD
import Derived.Deep.RegionHeld3
import Derived.Deep.DeepFit
namespace Go.Proofs.YtgljelkjfipefaaDoor
open Go.RowKit Go.Shelf

theorem beq_flip (a b : Int) : (a == b) = decide (b = a) := by
  by_cases h : b = a
  · subst h; simp
  · have h2 : ¬ a = b := fun e => h e.symm
    simp [h, h2]
theorem back_lt (a E S : Int) : back a E S < sP := Nat.mod_lt _ (by decide)

set_option maxHeartbeats 2000000 in
theorem verify_any (a E S : Int) (ha : I64 a) (v : Value) (l : List Int) (w : World) (hT : Tab w) (h : Ints w v l) (hlen : l.length ≤ 100000) : Calls Tryd.prog 19 #[.int .i64 a, .agg #[.int .i64 E, .int .i64 S], v] w (Ret (verV (verF a E S l)) w) := by
  have hm := fun w => member_any a w
  have h1 := fun w => isExp_any E w
  have h2 := fun w => isExp_any S w
  rw [show decide (0 ≤ E ∧ E < 1073741789) = expB E from rfl] at h1
  rw [show decide (0 ≤ S ∧ S < 1073741789) = expB S from rfl] at h2
  unfold verF verV
  have hT1 : Tab w := hT
  have hI : Ints w v l := h
  obtain ⟨ad, cap, rfl⟩ := h.1.shape
  simp only [List.length_map] at hI ⊢
  clear h
  have hb0 : Below w.heap.size w (w.alloc (.cells #[.int .i64 E, .int .i64 S] 23)) := (Below.refl _ w).alloc (Nat.le_refl _) _
  have hO := Own.new w #[.int .i64 E, .int .i64 S] 23
  cases hA : memB a with
  | false =>
    rw [hA] at hm
    clear hA hI
    simp only [Bool.false_and, Bool.false_eq_true, if_false]
    go_enter Tryd.func19, Tryd.ntmps19
    go_wp2_with (go_at_call 11; refine (hm _).mono ?_; rintro e w2 ⟨rfl, hx2⟩)
    go_ret2
    exact Ret.mk rfl (hb0.trans (hx2.mono hb0.size))
  | true =>
    rw [hA] at hm
    cases hE : expB E with
    | false =>
      rw [hE] at h1
      clear hA hE hI
      simp only [Bool.and_false, Bool.false_and, Bool.false_eq_true, if_false]
      go_enter Tryd.func19, Tryd.ntmps19
      go_wp2_with (first
        | (go_at_call 26; refine (h1 _).mono ?_; rintro e w3 ⟨rfl, rfl⟩)
        | (go_at_call 11; refine (hm _).mono ?_; rintro e w2 ⟨rfl, hx2⟩; obtain ⟨c0, c1, f0, f1, z⟩ := (hO.below hx2).two))
      go_ret2
      exact Ret.mk rfl (hb0.trans (hx2.mono hb0.size))
    | true =>
      rw [hE] at h1
      cases hS : expB S with
      | false =>
        rw [hS] at h2
        clear hA hE hS hI
        simp only [Bool.and_false, Bool.false_eq_true, if_false]
        go_enter Tryd.func19, Tryd.ntmps19
        go_wp2_with (first
          | (go_at_call 26; have mk2 := mk1; refine (h2 _).mono ?_; rintro e w3 ⟨rfl, rfl⟩)
          | (go_at_call 26; refine (h1 _).mono ?_; rintro e w3 ⟨rfl, rfl⟩; have mk1 := Lib.hid (Nat.le_refl w.heap.size))
          | (go_at_call 11; refine (hm _).mono ?_; rintro e w2 ⟨rfl, hx2⟩; obtain ⟨c0, c1, f0, f1, z⟩ := (hO.below hx2).two))
        go_ret2
        exact Ret.mk rfl (hb0.trans (hx2.mono hb0.size))
      | true =>
        rw [hS] at h2
        have bE : 0 ≤ E ∧ E < 1073741789 := by unfold expB at hE; simpa using hE
        have bS : 0 ≤ S ∧ S < 1073741789 := by unfold expB at hS; simpa using hS
        have ba : 1 ≤ a ∧ a < 2147483579 := by unfold memB at hA; simp at hA; omega
        have hbk : pwI 4 S * pwI a (-E % 1073741789) % 2147483579 = (back a E S : Int) := by
          unfold back pwI
          rw [Int.natCast_emod, Int.natCast_mul, sQ_eq, sP_eq, show (-E % 1073741789).toNat = (1073741789 - E.toNat) % 1073741789 by omega]
          rfl
        have hch : ∀ w1, Below w.heap.size w w1 → Calls Tryd.prog 30 #[.int .i64 (back a E S), .int .i64 a, .slice ad l.length cap] w1 (Ret (vN (chal ((back a E S : Int) :: a :: l))) w1) :=
          fun w1 hb => chal_any _ _ (by have := back_lt a E S; rw [sP_eq] at this; constructor <;> omega) ha _ l w1 (hT.below hb) ⟨hI.1.below hb, hI.2⟩ hlen
        unfold verB
        unfold vN at hch
        generalize chal ((back a E S : Int) :: a :: l) = C at *
        generalize back a E S = B at *
        have hw1 : IntKind.i64.wrap (1073741789 - E) = 1073741789 - E := by rw [IntKind.wrap_i64]; omega
        have heq := eql_sig
        clear hA hE hS hI
        simp only [Bool.and_true, if_true]
        go_enter Tryd.func19, Tryd.ntmps19
        go_wp2_with (first
          | (go_at_call 26; have mk2 := mk1; refine (h2 _).mono ?_; rintro e w3 ⟨rfl, rfl⟩)
          | (go_at_call 26; refine (h1 _).mono ?_; rintro e w3 ⟨rfl, rfl⟩; have mk1 := Lib.hid (Nat.le_refl w.heap.size))
          | (go_at_call 11; refine (hm _).mono ?_; rintro e w2 ⟨rfl, hx2⟩; obtain ⟨c0, c1, f0, f1, z⟩ := (hO.below hx2).two))
        have hb2 := hb0.trans (hx2.mono hb0.size)
        clear hm h1 h2 hb0 hO hx2
        refine wp_region_up (by kernel_rfl) (by kernel_rfl) ?_
        repeat (go_big_quiet_step (first | (go_at_call 32; exact Same.up (prod_int _ _ (by exact pwI_lo _ _) (by exact pwI_hi _ _) (by exact pwI_lo _ _) (by exact pwI_hi _ _) _)) | (go_at_call 25; exact Ret.up (power_int _ _ (by omega) (by omega) (by omega) (by omega) _))))
        refine wpQuiet_nil ?_
        rintro w3 ⟨g, rfl⟩
        rw [hbk]
        have hx3 := up_below w2 g
        have hb3 := hb2.trans (hx3.mono hb2.size)
        have c0' := (hx3.cell (p := ⟨w.heap.size, 0, none⟩) z).trans c0
        have c1' := (hx3.cell (p := ⟨w.heap.size, 1, none⟩) z).trans c1
        have z' : w.heap.size < (up w2 g).heap.size := Nat.lt_of_lt_of_le z hx3.size
        generalize up w2 g = w3 at *
        clear c0 c1 f0 f1 z hx3 hb2 hbk
        go_wp2_with fail
        refine wp_region_up (by kernel_rfl) (by kernel_rfl) ?_
        repeat (go_big_quiet_step (first | (go_at_call 30; exact Ret.up (hch _ (hb3.trans ((up_below w3 _).mono hb3.size))))))
        refine wpQuiet_nil ?_
        rintro w4 ⟨g, rfl⟩
        go_wp2_with fail
        go_ret2
        exact Ret.mk (show Value.tuple #[.bool (E == (C : Int)), .int .i64 0] = _ by rw [beq_flip]) (hb3.trans ((up_below w3 g).mono hb3.size))
end Go.Proofs.YtgljelkjfipefaaDoor
