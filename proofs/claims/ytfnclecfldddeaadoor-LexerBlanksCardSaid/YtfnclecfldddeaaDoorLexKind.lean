/-
  The walks of isNumber, isAmount and of the closures of the kinds.
-/
import Derived.Test.YtfnclecfldddeaaDoorLexLib
import Derived.Test.YtfnclecfldddeaaDoorLexA
namespace Go.Proofs.YtfnclecfldddeaaDoor
open Go.RowKit Go.Shelf
set_option maxRecDepth 100000

def numB (t : List UInt8) : Bool := decide (t.length ≠ 0 ∧ t.length ≤ 9 ∧ nDig t = t.length ∧ (t.length = 1 ∨ t.head? ≠ some 48))
def amtB (t : List UInt8) : Bool := match Lib.atoiAll t with | .ok v => decide (v ≤ 1000000000) | _ => false
def nameB (t : List UInt8) : Bool := decide (t ≠ [] ∧ nLet t = t.length)
def mnyB (t : List UInt8) : Bool := numB (cutA t) && decide ((cutB t).length = 2) && amtB (cutA t ++ cutB t)
def sigB (t : List UInt8) : Bool := match t with | [c] => sgnB c | _ => false

theorem isNumber_any (t : List UInt8) (ht : t.length ≤ 1000000) (w : World) : Calls Tryd.prog 41 #[.string ⟨t.toArray⟩] w (Ret (.bool (numB t)) w) := by
  have hz := bsz t
  have hle : nDig t ≤ t.length := tw_len t
  have hrun := run_digit t (by omega)
  cases t with
  | nil =>
    clear hrun
    go_enter Tryd.func41, Tryd.ntmps41
    go_wp2_with fail
    go_ret
    exact Ret.mk rfl (Below.refl _ _)
  | cons c r =>
  have h0 : ((((c :: r).length : Nat) : Int) == 0) = false := by rw [beq_eq_false_iff_ne]; simp; omega
  have hc : ∀ h, (⟨(c :: r).toArray⟩ : ByteArray)[0]'h = c := fun _ => rfl
  obtain ⟨n, hn⟩ : ∃ n, n = (c :: r).length := ⟨_, rfl⟩
  have hnum : numB (c :: r) = decide (n ≤ 9 ∧ nDig (c :: r) = n ∧ (n = 1 ∨ c ≠ 48)) := by
    have e : (c :: r).head? ≠ some 48 ↔ c ≠ 48 := by simp
    have h0 : n ≠ 0 := by rw [hn]; simp
    unfold numB
    rw [← hn, Bool.eq_iff_iff, decide_eq_true_eq, decide_eq_true_eq, e]
    exact ⟨fun h => h.2, fun h => ⟨h0, h⟩⟩
  rw [hnum]
  rw [← hn] at hz hle h0
  have hn1 : 1 ≤ n := by rw [hn]; simp
  clear hnum hn ht
  obtain ⟨S, hS⟩ : ∃ S, (⟨(c :: r).toArray⟩ : ByteArray) = S := ⟨_, rfl⟩
  simp only [hS] at *
  obtain ⟨m, hm⟩ : ∃ m, nDig (c :: r) = m := ⟨_, rfl⟩
  simp only [hm] at *
  clear hS hm
  by_cases h9 : n ≤ 9
  · have h9' : decide ((n : Int) > 9) = false := by simp; omega
    by_cases hmn : m = n
    · subst hmn
      have hlt : decide (m < m) = false := by simp
      by_cases h1 : m = 1
      · subst h1
        have H : Hid (decide (1 ≤ 9 ∧ 1 = 1 ∧ (1 = 1 ∨ c ≠ 48)) = true) := Lib.hid (by simp)
        rw [H.out]
        go_enter Tryd.func41, Tryd.ntmps41
        go_wp2_with fail
        refine (hrun _).mono ?_
        rintro e w1 ⟨rfl, hx⟩
        go_wp2_with fail
        go_ret
        exact Ret.mk rfl hx
      · have h1' : (((m : Nat) : Int) == 1) = false := by rw [beq_eq_false_iff_ne]; omega
        cases hb : (c != 48) with
        | true =>
          have H : Hid (decide (m ≤ 9 ∧ m = m ∧ (m = 1 ∨ c ≠ 48)) = true) := Lib.hid (by simp at hb; simp [h9, hb])
          rw [H.out]
          have hb' : ((c.toNat : Int) != 48) = true := by
            rw [bne_iff_ne]; intro e; rw [bne_iff_ne] at hb; exact hb (UInt8.toNat_inj.1 (by show c.toNat = 48; omega))
          go_enter Tryd.func41, Tryd.ntmps41
          go_wp2_with fail
          refine (hrun _).mono ?_
          rintro e w1 ⟨rfl, hx⟩
          go_wp2_with fail
          go_ret
          exact Ret.mk rfl hx
        | false =>
          have H : Hid (decide (m ≤ 9 ∧ m = m ∧ (m = 1 ∨ c ≠ 48)) = false) := Lib.hid (by simp at hb; simp [hb, h1])
          rw [H.out]
          have hb' : ((c.toNat : Int) != 48) = false := by
            have : c = 48 := by simpa using hb
            subst this; rfl
          go_enter Tryd.func41, Tryd.ntmps41
          go_wp2_with fail
          refine (hrun _).mono ?_
          rintro e w1 ⟨rfl, hx⟩
          go_wp2_with fail
          go_ret
          exact Ret.mk rfl hx
    · have hlt : decide (m < n) = true := by simp; omega
      have H : Hid (decide (n ≤ 9 ∧ m = n ∧ (n = 1 ∨ c ≠ 48)) = false) := Lib.hid (by simp [hmn])
      rw [H.out]
      go_enter Tryd.func41, Tryd.ntmps41
      go_wp2_with fail
      refine (hrun _).mono ?_
      rintro e w1 ⟨rfl, hx⟩
      go_wp2_with fail
      go_ret
      exact Ret.mk rfl hx
  · have h9' : decide ((n : Int) > 9) = true := by simp; omega
    have H : Hid (decide (n ≤ 9 ∧ m = n ∧ (n = 1 ∨ c ≠ 48)) = false) := Lib.hid (by simp [h9])
    rw [H.out]
    clear hrun
    go_enter Tryd.func41, Tryd.ntmps41
    go_wp2_with fail
    go_ret
    exact Ret.mk rfl (Below.refl _ _)
theorem isNumber_at {b : Bool} (t : List UInt8) (ht : t.length ≤ 1000000) (w : World) (h : numB t = b) : Calls Tryd.prog 41 #[.string ⟨t.toArray⟩] w (Ret (.bool b) w) := by subst h; exact isNumber_any t ht w

theorem isAmount_any (t : List UInt8) (ht : t.length ≤ 1000000) (w : World) (hL : Lay w) : Calls Tryd.prog 44 #[.string ⟨t.toArray⟩] w (Ret (.bool (amtB t)) w) := by
  have hat := atoi_any t ht w hL
  unfold AtoiP at hat
  go_enter Tryd.func44, Tryd.ntmps44
  go_wp2_with fail
  refine hat.mono ?_
  rintro e w1 ⟨hx, ⟨v, hv, rfl⟩ | ⟨hv, n, tp, p, rfl⟩⟩
  · have H := Lib.hid (show amtB t = decide (v ≤ 1000000000) by unfold amtB; rw [hv])
    clear hv hat
    by_cases hle : v ≤ 1000000000
    · go_wp2_with fail
      go_ret
      exact Ret.mk (by rw [H.out]; simp [hle]) hx
    · have hle' : decide (v ≤ 1000000000) = false := by simpa using hle
      go_wp2_with fail
      go_ret
      exact Ret.mk (by rw [H.out]; simp; omega) hx
  · have H := Lib.hid (show amtB t = false by unfold amtB; split <;> simp_all)
    clear hv hat
    go_wp2_with fail
    go_ret
    exact Ret.mk (by rw [H.out]; rfl) hx
theorem isAmount_at {b : Bool} (t : List UInt8) (ht : t.length ≤ 1000000) (w : World) (hL : Lay w) (h : amtB t = b) : Calls Tryd.prog 44 #[.string ⟨t.toArray⟩] w (Ret (.bool b) w) := by subst h; exact isAmount_any t ht w hL
end Go.Proofs.YtfnclecfldddeaaDoor
