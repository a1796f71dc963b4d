/-
  Package sign: the challenge, Exp, Public.
-/
import Derived.Test.YtgljelkjfipefaaDoorSignB
import Derived.Test.YtgljelkjfipefaaDoorDigN
namespace Go.Proofs.YtgljelkjfipefaaDoor
open Go.RowKit Go.Shelf

/-- the challenge of integers -/
def chal (l : List Int) : Nat := (nxt fnv0 l).toNat % sQ
theorem chal_lt (l : List Int) : chal l < sQ := Nat.mod_lt _ q_pos
def expB (x : Int) : Bool := decide (0 ≤ x ∧ x < 1073741789)
def secB (x : Int) : Bool := decide (1 ≤ x ∧ x < 1073741789)
def expF (a x : Int) : Int × Int := if memB a && expB x then ((pw a.toNat x.toNat : Int), 0) else (0, 1)
def pubF (x : Int) : Int × Int := if secB x then ((pw 4 x.toNat : Int), 0) else (0, 1)
def twoV (p : Int × Int) : Value := .tuple #[.int .i64 p.1, .int .i64 p.2]

set_option maxHeartbeats 1000000 in
theorem chal_any (a b : Int) (ha : I64 a) (hb : I64 b) (v : Value) (l : List Int) (w : World) (hT : Tab w) (h : Ints w v l) (hlen : l.length ≤ 100000) : Calls Tryd.prog 30 #[.int .i64 a, .int .i64 b, v] w (Ret (vN (chal (a :: b :: l))) w) := by
  have hb1 : Below w.heap.size w (w.alloc (.cells #[.int .i64 a, .int .i64 b] 3)) := (Below.refl _ w).alloc (Nat.le_refl _) _
  have hown := OwnRow.new w w.heap.size (Nat.le_refl _) 3 [.int .i64 a, .int .i64 b] (by simp)
  have hin1 : Ints (w.alloc (.cells #[.int .i64 a, .int .i64 b] 3)) v l := ⟨h.1.below hb1, h.2⟩
  have hall : ∀ x ∈ a :: b :: l, I64 x := by
    intro x hx
    rcases List.mem_cons.1 hx with rfl | hx
    · exact ha
    · rcases List.mem_cons.1 hx with rfl | hx
      · exact hb
      · exact h.2 x hx
  obtain ⟨ad, cap, rfl⟩ := h.1.shape
  simp only [List.length_map] at hin1 ⊢
  have hfin : Value.int .i64 ((((nxt fnv0 (a :: b :: l)).toNat : Int) % 1073741789)) = vN (chal (a :: b :: l)) := by
    unfold vN chal
    rw [Int.natCast_emod]; rfl
  rw [← hfin]
  clear hfin h
  have hd : (nxt fnv0 (a :: b :: l)).toNat < 18446744073709551616 := (nxt fnv0 (a :: b :: l)).toNat_lt
  generalize hN : nxt fnv0 (a :: b :: l) = N at *
  have Hd := Lib.hid hd
  clear hd
  go_enter Tryd.func30, Tryd.ntmps30
  go_wp2_with (at_builtin; refine app_row _ rfl _ _ 24 rfl w.heap.size 3 (.int .i64 0) 8 Tryd.underlying24 Tryd.infoInt rfl (by decide) _ [.int .i64 a, .int .i64 b] rfl hown _ (l.map (.int .i64)) rfl hin1.1 int_one (by simp; omega) (by simp) ?_; intro v2 w2 hown2 hx2; refine Hid.out ?_)
  have hin2 : Ints w2 v2 (a :: b :: l) := ints_of_own (base := w.heap.size) hown2 (by simp; omega) hall
  have hb2 : Below w.heap.size w w2 := hb1.trans hx2
  have hs := sum_any (.slice none 0 0) [] w2 (Row.nil w2)
  rw [fnv_nil] at hs
  unfold vD at hs
  obtain ⟨ad2, cap2, rfl⟩ := hin2.1.shape
  clear hb1 hown hin1 hown2 hx2
  refine Lib.hid ?_
  go_wp2_with (go_at_call 38; refine hs.mono ?_; rintro e w3 ⟨rfl, hx3⟩; refine Hid.out ?_)
  have hb3 : Below w.heap.size w w3 := hb2.trans (hx3.mono hb2.size)
  have hn := next_any fnv0 _ _ w3 (hT.below hb3) ⟨hin2.1.below hx3, hin2.2⟩
  rw [hN] at hn
  clear hs hx3 hb2 hin2 hT
  unfold vD at hn
  simp only [List.length_map, List.length_cons] at hn
  refine Lib.hid ?_
  go_wp2_with (go_at_call 37; refine hn.mono ?_; rintro e w4 ⟨rfl, hx4⟩; refine Hid.out ?_)
  refine Lib.hid ?_
  go_wp2_with fail
  go_ret
  refine Ret.mk ?_ (hb3.trans (hx4.mono hb3.size))
  rfl

theorem fst_ite (c : Bool) (a b : Int) : (if c then (a, (0 : Int)) else (b, 1)) = (if c then a else b, if c then 0 else 1) := by cases c <;> rfl

set_option maxHeartbeats 1000000 in
theorem exp_any (a x : Int) (w : World) : Calls Tryd.prog 13 #[.int .i64 a, .int .i64 x] w (Ret (twoV (expF a x)) w) := by
  have hm := member_any a w
  have he := fun w => isExp_any x w
  unfold expF twoV
  rw [show decide (0 ≤ x ∧ x < 1073741789) = expB x from rfl] at he
  cases hA : memB a with
  | false =>
    have HA := Lib.hid hA
    rw [hA] at hm
    clear hA
    simp only [Bool.false_and, Bool.false_eq_true, if_false]
    go_enter Tryd.func13, Tryd.ntmps13
    go_wp2_with (go_at_call 11; refine hm.mono ?_; rintro e w2 ⟨rfl, hx⟩)
    go_ret2
    exact Ret.mk rfl hx
  | true =>
    rw [hA] at hm
    cases hX : expB x with
    | false =>
      rw [hX] at he
      clear hA hX
      simp only [Bool.and_false, Bool.false_eq_true, if_false]
      go_enter Tryd.func13, Tryd.ntmps13
      go_wp2_with (first | (go_at_call 26; refine (he _).mono ?_; rintro e w2 ⟨rfl, rfl⟩) | (go_at_call 11; refine hm.mono ?_; rintro e w2 ⟨rfl, hx⟩))
      go_ret2
      exact Ret.mk rfl hx
    | true =>
      rw [hX] at he
      have ha : 1 ≤ a ∧ a < 2147483579 := by unfold memB at hA; simp at hA; omega
      have hxx : 0 ≤ x ∧ x < 1073741789 := by unfold expB at hX; simpa using hX
      have hp := fun w => power_any a.toNat x.toNat (by rw [sP_eq]; omega) (by omega) w
      unfold vN at hp
      rw [show ((a.toNat : Nat) : Int) = a by omega, show ((x.toNat : Nat) : Int) = x by omega] at hp
      generalize pw a.toNat x.toNat = z at *
      clear hA hX ha hxx
      simp only [Bool.and_true, if_true]
      go_enter Tryd.func13, Tryd.ntmps13
      go_wp2_with (first | (go_at_call 25; refine (hp _).mono ?_; rintro e w3 ⟨rfl, hx3⟩) | (go_at_call 26; refine (he _).mono ?_; rintro e w2 ⟨rfl, rfl⟩) | (go_at_call 11; refine hm.mono ?_; rintro e w2 ⟨rfl, hx⟩))
      go_ret2
      exact Ret.mk rfl (hx.trans (hx3.mono hx.size))

set_option maxHeartbeats 1000000 in
theorem public_any (x : Int) (w : World) : Calls Tryd.prog 15 #[.int .i64 x] w (Ret (twoV (pubF x)) w) := by
  have he := isSec_any x w
  unfold pubF twoV
  rw [show decide (1 ≤ x ∧ x < 1073741789) = secB x from rfl] at he
  cases hX : secB x with
  | false =>
    rw [hX] at he
    clear hX
    simp only [Bool.false_eq_true, if_false]
    go_enter Tryd.func15, Tryd.ntmps15
    go_wp2_with (go_at_call 28; refine he.mono ?_; rintro e w2 ⟨rfl, rfl⟩)
    go_ret2
    exact Ret.mk rfl (Below.refl _ _)
  | true =>
    rw [hX] at he
    have hxx : 1 ≤ x ∧ x < 1073741789 := by unfold secB at hX; simpa using hX
    have hp := fun w => power_any 4 x.toNat (by decide) (by omega) w
    unfold vN at hp
    rw [show ((x.toNat : Nat) : Int) = x by omega] at hp
    generalize pw 4 x.toNat = z at *
    clear hX hxx
    simp only [if_true]
    go_enter Tryd.func15, Tryd.ntmps15
    go_wp2_with (first | (go_at_call 25; refine (hp _).mono ?_; rintro e w3 ⟨rfl, hx3⟩) | (go_at_call 28; refine he.mono ?_; rintro e w2 ⟨rfl, rfl⟩))
    go_ret2
    exact Ret.mk rfl hx3
end Go.Proofs.YtgljelkjfipefaaDoor
