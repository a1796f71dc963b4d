/-
  Elements, what was signed is right, in the functions' own terms; the examples of the chapter.
-/
import Derived.Test.YtgljelkjfipefaaDoorSignF
namespace Go.Proofs.YtgljelkjfipefaaDoor
open Go.RowKit Go.Shelf

theorem memB_out {a : Int} (h : memB a = true) : 1 ≤ a ∧ a < 2147483579 ∧ a.toNat ^ sQ % sP = 1 := by
  unfold memB at h
  rw [Bool.and_eq_true, decide_eq_true_eq, decide_eq_true_eq] at h
  exact ⟨h.1.1, h.1.2, h.2⟩
theorem memB_of {n : Nat} (h : Mem n) : memB (n : Int) = true := by
  obtain ⟨h1, h2, h3⟩ := h
  rw [sP_eq] at h2
  unfold memB
  rw [Bool.and_eq_true, decide_eq_true_eq, decide_eq_true_eq]
  exact ⟨⟨by omega, by omega⟩, by rw [Int.toNat_natCast]; exact h3⟩
theorem memB_pow {a : Int} (x : Int) (h : memB a = true) : memB (pwI a x) = true := memB_of (mem_pow x.toNat (memB_out h).2.2)
theorem mem4 : memB 4 = true := memB_of (n := 4) ⟨by decide, by decide, g_order⟩
theorem mem9 : memB 9 = true := memB_of (n := 9) ⟨by decide, by decide, order9⟩
theorem mem2 : memB 2 = false := by
  cases h : memB 2 with
  | false => rfl
  | true =>
    have h2 := (memB_out h).2.2
    rw [show (2 : Int).toNat = 2 from rfl] at h2
    exact absurd h2 order2
theorem mem0 : memB 0 = false := by unfold memB; rw [show decide ((1 : Int) ≤ 0 ∧ (0 : Int) < 2147483579) = false by decide, Bool.false_and]
theorem memG (x : Int) : memB (pwI 4 x) = true := memB_pow x mem4

theorem expB_nat {n : Nat} (h : n < sQ) : expB (n : Int) = true := by rw [sQ_eq] at h; unfold expB; rw [decide_eq_true_eq]; omega
theorem expB_mod (x : Int) : expB (x % 1073741789) = true := by unfold expB; rw [decide_eq_true_eq]; omega
theorem secB_sec (n : Int) : secB (secI n) = true := by have := secI_b n; unfold secB; rw [decide_eq_true_eq]; exact this

theorem expF_ok {a x : Int} (h : memB a = true) (h2 : expB x = true) : expF a x = (pwI a x, 0) := by unfold expF; rw [h, h2]; rfl
theorem pubF_ok {x : Int} (h : secB x = true) : pubF x = (pwI 4 x, 0) := by unfold pubF; rw [h]; rfl
theorem sgnF_ok {s o : Int} (l : List Int) (h : secB s = true) (h2 : secB o = true) : sgnF s o l = ((sgnE s o l : Int), (o + (sgnE s o l : Int) * s) % 1073741789, 0) := by unfold sgnF; rw [h, h2]; rfl
theorem verF_ok {a E S : Int} (l : List Int) (h : memB a = true) (h2 : expB E = true) (h3 : expB S = true) : verF a E S l = (verB a E S l, 0) := by unfold verF; rw [h, h2, h3]; rfl

theorem sgnE_lt (s o : Int) (l : List Int) : sgnE s o l < sQ := chal_lt _
theorem secB_out {x : Int} (h : secB x = true) : 1 ≤ x ∧ x < 1073741789 := by unfold secB at h; rw [decide_eq_true_eq] at h; exact h
theorem s_nat {s o : Int} (E : Nat) (h : secB s = true) (h2 : secB o = true) : (o + (E : Int) * s) % 1073741789 = (((o.toNat + E * s.toNat) % sQ : Nat) : Int) := by
  have h := secB_out h
  have h2 := secB_out h2
  rw [Int.natCast_emod, Int.natCast_add, Int.natCast_mul, show ((o.toNat : Nat) : Int) = o by omega, show ((s.toNat : Nat) : Int) = s by omega, sQ_eq]
  rfl
/-- what was signed is right -/
theorem right {s o : Int} (l : List Int) (h : secB s = true) (h2 : secB o = true) : verB (pwI 4 s) (sgnE s o l) ((o + (sgnE s o l : Int) * s) % 1073741789) l = true := by
  have hb : back (pwI 4 s) (sgnE s o l) ((o + (sgnE s o l : Int) * s) % 1073741789) = pw 4 o.toNat := by
    rw [s_nat _ h h2]
    unfold back pwI pw
    rw [Int.toNat_natCast, Int.toNat_natCast, Int.toNat_natCast]
    exact sign_back s.toNat o.toNat (sgnE s o l) (sgnE_lt s o l)
  unfold verB
  rw [decide_eq_true_eq, hb]
  rfl

theorem pw3 : pwI 4 3 = 64 := by decide
theorem pw5 : pwI 4 5 = 1024 := by decide

theorem ints_new (w : World) (xs : List Int) (hl : xs.length ≤ 1000) (h : ∀ x ∈ xs, I64 x) : Ints (w.alloc (.cells (xs.map (Value.int .i64)).toArray 3)) (.slice (some ⟨w.heap.size, 0, none⟩) xs.length xs.length) xs := by
  have := OwnRow.new w w.heap.size (Nat.le_refl _) 3 (xs.map (Value.int .i64)) (by simpa using hl)
  rw [List.length_map] at this
  exact ints_of_own this (by omega) h
theorem ints12 (w : World) : Ints (w.alloc (.cells #[.int .i64 1, .int .i64 2] 3)) (.slice (some ⟨w.heap.size, 0, none⟩) 2 2) [1, 2] :=
  ints_new w [1, 2] (by simp) (by intro x hx; simp at hx; rcases hx with rfl | rfl <;> exact ⟨by omega, by omega⟩)

set_option maxRecDepth 100000 in
set_option maxHeartbeats 4000000 in
theorem head_any (w : World) (hT : Tab w) : Calls Tryd.prog 9 #[] w (Ret (.bool true) w) := by
  have hExp := fun w => exp_any 4 3 w
  rw [expF_ok mem4 (by decide), pw3] at hExp
  have hPub := fun w => public_any 5 w
  rw [pubF_ok (by decide), pw5] at hPub
  have hPub0 := fun w => public_any 0 w
  rw [show pubF 0 = (0, 1) from rfl] at hPub0
  obtain ⟨E, hE⟩ : ∃ E, E = sgnE 5 7 [1, 2] := ⟨_, rfl⟩
  obtain ⟨S, hS⟩ : ∃ S, S = ((7 : Int) + (sgnE 5 7 [1, 2] : Int) * 5) % 1073741789 := ⟨_, rfl⟩
  have hSgn : ∀ w1 v, Below w.heap.size w w1 → Ints w1 v [1, 2] → Calls Tryd.prog 17 #[.int .i64 5, .int .i64 7, v] w1 (Ret (.tuple #[.agg #[.int .i64 E, .int .i64 S], .int .i64 0]) w1) := fun w1 v hb hi => by
    have := sign_any 5 7 v [1, 2] w1 (hT.below hb) hi (by simp)
    rw [sgnF_ok _ (by decide) (by decide), ← hE, hE, ← hS, ← hE] at this
    exact this
  have hVer : ∀ w1 v, Below w.heap.size w w1 → Ints w1 v [1, 2] → Calls Tryd.prog 19 #[.int .i64 1024, .agg #[.int .i64 E, .int .i64 S], v] w1 (Ret (.tuple #[.bool true, .int .i64 0]) w1) := fun w1 v hb hi => by
    have := verify_any 1024 E S ⟨by omega, by omega⟩ v [1, 2] w1 (hT.below hb) hi (by simp)
    have hr := right (s := 5) (o := 7) [1, 2] (by decide) (by decide)
    have hm := memG 5
    rw [← hE, hE, ← hS, ← hE, pw5] at hr
    rw [pw5] at hm
    rw [verF_ok _ hm (by rw [hE]; exact expB_nat (sgnE_lt _ _ _)) (by rw [hS]; exact expB_mod _), hr] at this
    exact this
  simp only [twoV] at hExp hPub hPub0
  have hM := fun a w => member_any a w
  clear hE hS
  have hb := Below.refl w.heap.size w
  go_enter Tryd.func9, Tryd.ntmps9
  go_wp2_with (first
    | (go_at_call 17; refine (hSgn _ _ ((hx1.trans (hx2.mono hx1.size)).alloc (hx1.trans (hx2.mono hx1.size)).size _) (ints12 w2)).mono ?_; rintro e w3 ⟨rfl, hx3⟩; refine Hid.out ?_)
    | (go_at_call 15; refine (hPub _).mono ?_; rintro e w2 ⟨rfl, hx2⟩)
    | (go_at_call 13; refine (hExp _).mono ?_; rintro e w1 ⟨rfl, hx1⟩))
  have hb3 : Below w.heap.size w w3 := ((hx1.trans (hx2.mono hx1.size)).alloc (hx1.trans (hx2.mono hx1.size)).size _).trans (hx3.mono (by have := (hx1.trans (hx2.mono hx1.size)).size; simp; omega))
  clear hSgn hx1 hx2 hx3 hExp hPub
  have i12 : Ints ((w3.alloc (.cells #[.int .i64 E, .int .i64 S] 23)).alloc (.cells #[.int .i64 1, .int .i64 2] 3)) (.slice (some ⟨w3.heap.size + 1, 0, none⟩) 2 2) [1, 2] := by
    have h := ints12 (w3.alloc (.cells #[.int .i64 E, .int .i64 S] 23))
    rw [show (w3.alloc (.cells #[.int .i64 E, .int .i64 S] 23)).heap.size = w3.heap.size + 1 by simp] at h
    exact h
  have hb4 : Below w.heap.size w ((w3.alloc (.cells #[.int .i64 E, .int .i64 S] 23)).alloc (.cells #[.int .i64 1, .int .i64 2] 3)) := (hb3.alloc hb3.size _).alloc (by have := hb3.size; simp; omega) _
  refine Lib.hid ?_
  go_wp2_with (go_at_call 19; refine (hVer _ _ hb4 i12).mono ?_; rintro e w4 ⟨rfl, hx4⟩; refine Hid.out ?_)
  have hb5 := hb4.trans (hx4.mono hb4.size)
  clear hVer hb3 hb4 i12 hx4
  have m4 := fun w => hM 4 w
  have m9 := fun w => hM 9 w
  have m2 := fun w => hM 2 w
  have m0 := fun w => hM 0 w
  rw [mem4] at m4
  rw [mem9] at m9
  rw [mem2] at m2
  rw [mem0] at m0
  clear hM
  refine Lib.hid ?_
  go_wp2_with (first
    | (go_at_call 11; have mk := k3; refine (m0 _).mono ?_; rintro e w9 ⟨rfl, hx9⟩)
    | (go_at_call 11; have k3 := Lib.hid k2; refine (m2 _).mono ?_; rintro e w8 ⟨rfl, hx8⟩)
    | (go_at_call 11; have k2 := Lib.hid k1; refine (m9 _).mono ?_; rintro e w7 ⟨rfl, hx7⟩)
    | (go_at_call 11; have k1 := Lib.hid hx5; refine (m4 _).mono ?_; rintro e w6 ⟨rfl, hx6⟩)
    | (go_at_call 15; refine (hPub0 _).mono ?_; rintro e w5 ⟨rfl, hx5⟩))
  go_ret
  have hb6 := hb5.trans (hx5.mono hb5.size)
  have hb7 := hb6.trans (hx6.mono hb6.size)
  have hb8 := hb7.trans (hx7.mono hb7.size)
  have hb9 := hb8.trans (hx8.mono hb8.size)
  exact Ret.mk rfl (hb9.trans (hx9.mono hb9.size))
end Go.Proofs.YtgljelkjfipefaaDoor
