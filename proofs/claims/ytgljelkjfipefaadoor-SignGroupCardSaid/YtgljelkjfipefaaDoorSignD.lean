/-
  Package sign: Sign and Verify.
-/
import Derived.Test.YtgljelkjfipefaaDoorSignC
import Derived.Laws.StructEq
import Derived.KernelRfl
namespace Go.Proofs.YtgljelkjfipefaaDoor
open Go.RowKit Go.Shelf

theorem sig_held : Tryd.prog.stoodInHeld 23 = false := by kernel_rfl
theorem eql_sig (a b c d : Int) (w : World) : (binOp .eql 23 (.agg #[.int .i64 a, .int .i64 b]) (.agg #[.int .i64 c, .int .i64 d])).run Tryd.prog w = .ok (.bool (a == c && b == d)) w := by
  have hu : Tryd.prog.underlying 23 = some (.struct (Tryd.prog.fieldsOf 23)) := by kernel_rfl
  simp only [binOp]
  by_cases h1 : a = c <;> by_cases h2 : b = d <;> simp [Op.equal, Op.maxDepth, run_equalIn_struct _ _ _ _ _ hu sig_held, Op.eqFields, go_sem, h1, h2]

def sgnE (sec once : Int) (l : List Int) : Nat := chal ((pw 4 once.toNat : Int) :: (pw 4 sec.toNat : Int) :: l)
def sgnF (sec once : Int) (l : List Int) : Int × Int × Int := if secB sec && secB once then ((sgnE sec once l : Int), (once + (sgnE sec once l : Int) * sec) % 1073741789, 0) else (0, 0, 1)
def sgnV (x : Int × Int × Int) : Value := .tuple #[.agg #[.int .i64 x.1, .int .i64 x.2.1], .int .i64 x.2.2]
/-- what a signature shows of the number used once -/
def back (a E S : Int) : Nat := pw 4 S.toNat * pw a.toNat ((sQ - E.toNat) % sQ) % sP
def verB (a E S : Int) (l : List Int) : Bool := decide ((chal ((back a E S : Int) :: a :: l) : Int) = E)
def verF (a E S : Int) (l : List Int) : Bool × Int := if memB a && expB E && expB S then (verB a E S l, 0) else (false, 1)
def verV (x : Bool × Int) : Value := .tuple #[.bool x.1, .int .i64 x.2]
/-- powers and products of ints -/
def pwI (a x : Int) : Int := (pw a.toNat x.toNat : Int)
theorem pwI_lo (a x : Int) : 0 ≤ pwI a x := by unfold pwI; omega
theorem pwI_hi (a x : Int) : pwI a x < 2147483579 := by have := pw_lt a.toNat x.toNat; rw [sP_eq] at this; unfold pwI; omega
theorem power_int (a x : Int) (h0 : 0 ≤ a) (h1 : a < 2147483579) (h2 : 0 ≤ x) (h3 : x < 1073741824) (w : World) : Calls Tryd.prog 25 #[.int .i64 a, .int .i64 x] w (Ret (.int .i64 (pwI a x)) w) := by
  have h := power_any a.toNat x.toNat (by rw [sP_eq]; omega) (by omega) w
  unfold vN at h
  rw [show ((a.toNat : Nat) : Int) = a by omega, show ((x.toNat : Nat) : Int) = x by omega] at h
  exact h
theorem prod_int (a b : Int) (h0 : 0 ≤ a) (h1 : a < 2147483579) (h2 : 0 ≤ b) (h3 : b < 2147483579) (w : World) : Calls Tryd.prog 32 #[.int .i64 a, .int .i64 b] w (Same (.int .i64 (a * b % 2147483579)) w) := by
  have h := prod_any a.toNat b.toNat (by rw [sP_eq]; omega) (by rw [sP_eq]; omega) w
  unfold vN at h
  rw [show ((a.toNat : Nat) : Int) = a by omega, show ((b.toNat : Nat) : Int) = b by omega, Int.natCast_emod, Int.natCast_mul, show ((a.toNat : Nat) : Int) = a by omega, show ((b.toNat : Nat) : Int) = b by omega] at h
  exact h
theorem pw_i64 (a x : Nat) : I64 (pw a x : Int) := by
  have := pw_lt a x
  rw [sP_eq] at this
  constructor <;> omega

set_option maxHeartbeats 2000000 in
theorem sign_any (sec once : Int) (v : Value) (l : List Int) (w : World) (hT : Tab w) (h : Ints w v l) (hlen : l.length ≤ 100000) : Calls Tryd.prog 17 #[.int .i64 sec, .int .i64 once, v] w (Ret (sgnV (sgnF sec once l)) w) := by
  have h1 := fun w => isSec_any sec w
  have h2 := fun w => isSec_any once w
  rw [show decide (1 ≤ sec ∧ sec < 1073741789) = secB sec from rfl] at h1
  rw [show decide (1 ≤ once ∧ once < 1073741789) = secB once from rfl] at h2
  unfold sgnF sgnV
  cases hA : secB sec with
  | false =>
    rw [hA] at h1
    clear hA
    obtain ⟨ad, cap, rfl⟩ := h.1.shape
    clear h
    simp only [Bool.false_and, Bool.false_eq_true, if_false]
    go_enter Tryd.func17, Tryd.ntmps17
    go_wp2_with (go_at_call 28; refine (h1 _).mono ?_; rintro e w2 ⟨rfl, rfl⟩)
    refine bodyPost_ret (v := .tuple #[.agg #[.int .i64 0, .int .i64 0], .int .i64 1]) (by simp [results, Tryd.results17, go_sem]) rfl (Ret.mk rfl (by (repeat (first | exact Below.refl _ _ | assumption | refine Below.drew ?_ | refine below_drewN ?_ _ | refine Below.setCell ?_ (by first | omega | (simp <;> omega)) _ | refine Below.alloc ?_ (by first | omega | (simp <;> omega)) _))))
  | true =>
    rw [hA] at h1
    cases hX : secB once with
    | false =>
      rw [hX] at h2
      clear hA hX
      obtain ⟨ad, cap, rfl⟩ := h.1.shape
      clear h
      simp only [Bool.and_false, Bool.false_eq_true, if_false]
      go_enter Tryd.func17, Tryd.ntmps17
      go_wp2_with (first | (go_at_call 28; have mk2 := mk1; refine (h2 _).mono ?_; rintro e w2 ⟨rfl, rfl⟩) | (go_at_call 28; refine (h1 _).mono ?_; rintro e w2 ⟨rfl, rfl⟩; have mk1 := Lib.hid (Nat.le_refl w.heap.size)))
      refine bodyPost_ret (v := .tuple #[.agg #[.int .i64 0, .int .i64 0], .int .i64 1]) (by simp [results, Tryd.results17, go_sem]) rfl (Ret.mk rfl (by (repeat (first | exact Below.refl _ _ | assumption | refine Below.drew ?_ | refine below_drewN ?_ _ | refine Below.setCell ?_ (by first | omega | (simp <;> omega)) _ | refine Below.alloc ?_ (by first | omega | (simp <;> omega)) _))))
    | true =>
      rw [hX] at h2
      have bs : 1 ≤ sec ∧ sec < 1073741789 := by unfold secB at hA; simpa using hA
      have bo : 1 ≤ once ∧ once < 1073741789 := by unfold secB at hX; simpa using hX
      have hp1 := fun w => power_any 4 once.toNat (by decide) (by omega) w
      have hp2 := fun w => power_any 4 sec.toNat (by decide) (by omega) w
      have hch : ∀ w1, Below w.heap.size w w1 → Calls Tryd.prog 30 #[.int .i64 (pw 4 once.toNat), .int .i64 (pw 4 sec.toNat), v] w1 (Ret (vN (sgnE sec once l)) w1) :=
        fun w1 hb => chal_any _ _ (pw_i64 _ _) (pw_i64 _ _) v l w1 (hT.below hb) ⟨h.1.below hb, h.2⟩ hlen
      have hE : sgnE sec once l < sQ := chal_lt _
      rw [sQ_eq] at hE
      obtain ⟨ad, cap, rfl⟩ := h.1.shape
      simp only [List.length_map] at hch ⊢
      generalize sgnE sec once l = E at *
      have hES : 0 ≤ (E : Int) * sec ∧ (E : Int) * sec ≤ 1073741789 * 1073741789 :=
        ⟨Int.mul_nonneg (by omega) (by omega), Int.mul_le_mul (by omega) (by omega) (by omega) (by omega)⟩
      have hw1 : IntKind.i64.wrap ((E : Int) * sec) = (E : Int) * sec := by rw [IntKind.wrap_i64]; omega
      have hw2 : IntKind.i64.wrap (once + (E : Int) * sec) = once + (E : Int) * sec := by rw [IntKind.wrap_i64]; omega
      have h0 : 0 ≤ once + (E : Int) * sec := by omega
      have hb0 : Below w.heap.size w (w.alloc (.cells #[.int .i64 0, .int .i64 0] 23)) := (Below.refl _ w).alloc (Nat.le_refl _) _
      have hO := Own.new w #[.int .i64 0, .int .i64 0] 23
      unfold vN at hp1 hp2 hch
      rw [show ((once.toNat : Nat) : Int) = once by omega] at hp1
      rw [show ((sec.toNat : Nat) : Int) = sec by omega] at hp2
      generalize pw 4 once.toNat = x1 at *
      generalize pw 4 sec.toNat = x2 at *
      clear hA hX h
      simp only [Bool.and_true, if_true]
      go_enter Tryd.func17, Tryd.ntmps17
      go_wp2_with (first
        | (go_at_call 30; refine (hch _ (hb0.trans ((hx3.trans (hx4.mono hx3.size)).mono hb0.size))).mono ?_; rintro e w5 ⟨rfl, hx5⟩; have hx35 := (hx3.trans (hx4.mono hx3.size)).trans (hx5.mono (hx3.trans (hx4.mono hx3.size)).size); have hb5 := hb0.trans (hx35.mono hb0.size); obtain ⟨c0, c1, f0, f1, z⟩ := (hO.below hx35).two; clear hx3 hx4 hx5 hx35)
        | (go_at_call 25; refine (hp2 w3).mono ?_; rintro e w4 ⟨rfl, hx4⟩)
        | (go_at_call 25; refine (hp1 _).mono ?_; rintro e w3 ⟨rfl, hx3⟩)
        | (go_at_call 28; have mk2 := mk1; refine (h2 _).mono ?_; rintro e w2 ⟨rfl, rfl⟩) | (go_at_call 28; refine (h1 _).mono ?_; rintro e w2 ⟨rfl, rfl⟩; have mk1 := Lib.hid (Nat.le_refl w.heap.size)))
      refine bodyPost_ret (v := .tuple #[.agg #[.int .i64 E, .int .i64 ((once + (E : Int) * sec) % 1073741789)], .int .i64 0]) (by simp [results, Tryd.results17, go_sem, c0, c1]) rfl (Ret.mk rfl (by (repeat (first | exact Below.refl _ _ | assumption | refine Below.drew ?_ | refine below_drewN ?_ _ | refine Below.setCell ?_ (by first | omega | (simp <;> omega)) _ | refine Below.alloc ?_ (by first | omega | (simp <;> omega)) _))))
end Go.Proofs.YtgljelkjfipefaaDoor
