/-
  The plain facts on digests that the laws say.
-/
import Derived.Test.YtgagdljmanmjnaaDoorDigHead
namespace Go.Proofs.YtgagdljmanmjnaaDoor

theorem fnv_app_eq (d e : UInt64) (l : List UInt8) : fnv d l = fnv e l ↔ d = e := ⟨fnv_inj l d e, fun h => by rw [h]⟩
theorem fnv_mid (d : UInt64) (a c : List UInt8) (x y : UInt8) : fnv d (a ++ x :: c) = fnv d (a ++ y :: c) ↔ x = y := by
  rw [fnv_app, fnv_app, fnv_cons, fnv_cons, fnv_app_eq]
  exact ⟨stp_inj2 _ _ _, fun h => by rw [h]⟩
theorem fnv_set (d : UInt64) (l : List UInt8) (k : Nat) (h : k < l.length) (y : UInt8) : fnv d l = fnv d (l.set k y) ↔ l[k] = y := by
  have h1 : l = l.take k ++ l[k] :: l.drop (k + 1) := by rw [← List.drop_eq_getElem_cons h, List.take_append_drop]
  rw [List.set_eq_take_append_cons_drop, if_pos h]
  conv => lhs; lhs; rw [h1]
  exact fnv_mid _ _ _ _ _

theorem nxt_inj (d : UInt64) (a c : List Int) (x : List UInt8) (u v : UInt8) (n m : Int) (hn : Lib.itoa n = x ++ [u]) (hm : Lib.itoa m = x ++ [v]) (huv : u ≠ v) :
    nxt d (a ++ n :: c) ≠ nxt d (a ++ m :: c) := by
  intro h
  unfold nxt txt at h
  simp only [List.flatMap_append, List.flatMap_cons, hn, hm] at h
  have e : ∀ (z : UInt8), bytes8 d ++ (List.flatMap (fun n => Lib.itoa n ++ [32]) a ++ (x ++ [z] ++ [32] ++ List.flatMap (fun n => Lib.itoa n ++ [32]) c)) =
      (bytes8 d ++ List.flatMap (fun n => Lib.itoa n ++ [32]) a ++ x) ++ z :: (32 :: List.flatMap (fun n => Lib.itoa n ++ [32]) c) := by intro z; simp
  rw [e, e, fnv_mid] at h
  exact huv h

theorem dec_last (u : Nat) : ∃ x, Lib.decDigits u = x ++ [UInt8.ofNat (48 + u % 10)] ∧ ∀ t, t < 10 → Lib.decDigits (u / 10 * 10 + t) = x ++ [UInt8.ofNat (48 + t)] := by
  by_cases h : u < 10
  · refine ⟨[], by rw [dd_small u h, show u % 10 = u by omega]; rfl, fun t ht => ?_⟩
    rw [show u / 10 * 10 + t = t by omega, dd_small t ht]; rfl
  · refine ⟨Lib.decDigits (u / 10), by conv => lhs; rw [Lib.decDigits, dif_neg h], fun t ht => ?_⟩
    rw [Lib.decDigits, dif_neg (by omega), show (u / 10 * 10 + t) / 10 = u / 10 by omega, show (u / 10 * 10 + t) % 10 = t by omega]

theorem trn_last (n : Int) (b : Nat) (h0 : 0 ≤ n) : ∃ x u v, Lib.itoa n = x ++ [u] ∧ Lib.itoa (trn n b) = x ++ [v] ∧ u ≠ v := by
  obtain ⟨u, rfl⟩ : ∃ u : Nat, n = (u : Int) := ⟨n.toNat, by omega⟩
  obtain ⟨x, h1, h2⟩ := dec_last u
  have ht : trn u b = ((u / 10 * 10 + (u % 10 + 1 + b % 9) % 10 : Nat) : Int) := by unfold trn; omega
  refine ⟨x, UInt8.ofNat (48 + u % 10), UInt8.ofNat (48 + (u % 10 + 1 + b % 9) % 10), ?_, ?_, ?_⟩
  · rw [Lib.itoa, if_neg (by omega)]; simpa using h1
  · rw [Lib.itoa, if_neg (by rw [ht]; omega), ht]
    rw [Int.toNat_natCast]
    exact h2 ((u % 10 + 1 + b % 9) % 10) (by omega)
  · intro h
    have := congrArg UInt8.toNat h
    simp at this
    omega

theorem turned_ne (d : UInt64) (l : List Int) (which b : Nat) (h : tIs l which = true) : nxt d l ≠ nxt d (tList l which b) := by
  unfold tIs at h
  simp only [Bool.and_eq_true, decide_eq_true_eq] at h
  obtain ⟨hpos, h0, _⟩ := h
  have hk : which % l.length < l.length := Nat.mod_lt _ hpos
  have hget : l.getD (which % l.length) 0 = l[which % l.length] := by simp [List.getD, List.getElem?_eq_getElem hk]
  unfold tList
  rw [hget] at h0 ⊢
  obtain ⟨x, u, v, hu, hv, huv⟩ := trn_last _ b h0
  rw [List.set_eq_take_append_cons_drop, if_pos hk]
  have h1 : l = l.take (which % l.length) ++ l[which % l.length] :: l.drop (which % l.length + 1) := by rw [← List.drop_eq_getElem_cons hk, List.take_append_drop]
  conv => lhs; rw [h1]
  exact nxt_inj d _ _ x u v _ _ hu hv huv

theorem turned_len (l : List Int) (which b : Nat) : (tList l which b).length = l.length := by simp [tList]
theorem turned_ne2 (d : UInt64) (l : List Int) (which b : Nat) (h : tIs l which = true) : nxt d ((l.length : Int) :: l) ≠ nxt d (((tList l which b).length : Int) :: tList l which b) := by
  unfold tIs at h
  simp only [Bool.and_eq_true, decide_eq_true_eq] at h
  obtain ⟨hpos, h0, _⟩ := h
  have hk : which % l.length < l.length := Nat.mod_lt _ hpos
  have hget : l.getD (which % l.length) 0 = l[which % l.length] := by simp [List.getD, List.getElem?_eq_getElem hk]
  rw [turned_len]
  unfold tList
  rw [hget] at h0 ⊢
  obtain ⟨x, u, v, hu, hv, huv⟩ := trn_last _ b h0
  rw [List.set_eq_take_append_cons_drop, if_pos hk]
  have h1 : l = l.take (which % l.length) ++ l[which % l.length] :: l.drop (which % l.length + 1) := by rw [← List.drop_eq_getElem_cons hk, List.take_append_drop]
  generalize (l.length : Int) = n
  conv => lhs; rw [h1]
  exact nxt_inj d (n :: l.take (which % l.length)) _ x u v _ _ hu hv huv

theorem chn_app (d : UInt64) (a b : List (List Int)) : chn d (a ++ b) = chn (chn d a) b := by simp [chn]
theorem chn_one (d : UInt64) (l : List Int) : chn d [l] = nxt d ((l.length : Int) :: l) := by simp [chn]
end Go.Proofs.YtgagdljmanmjnaaDoor
