/-
  The program: the reader reads an integer.
-/
import Derived.Test.YtpgnlmhkigpjgaaCodRd
import Derived.Lib.EndianBits
import Derived.Laws.Shifts
namespace Go.Proofs.Ytpgnlmhkigpjgaa
open Go.RowKit

theorem integer_any (u : Nat) (hu : u < 18446744073709551616) (w : World) : Calls Try.prog 41 #[.int .u64 (u : Int)] w (Same (.int .i64 (unum u)) w) := by
  by_cases hodd : u % 2 = 1
  · have h1 : (((u : Int) % 2) == 1) = true := by simp; omega
    have hb := bits_not_i64 ((u : Int) / 2) ⟨by omega, by omega⟩
    go_enter Try.func41, Try.ntmps41
    go_wp2_with fail
    go_ret
    refine Same.mk ?_ rfl
    unfold unum
    simp [hodd]
  · have h1 : (((u : Int) % 2) == 1) = false := by simp; omega
    go_enter Try.func41, Try.ntmps41
    go_wp2_with fail
    go_ret
    refine Same.mk ?_ rfl
    unfold unum
    simp [hodd]

theorem pow7 (j : Nat) : 2 ^ (7 * j) = 128 ^ j := by rw [Nat.pow_mul]
theorem shl_in (j p : Nat) (h : p * 128 ^ j < 18446744073709551616) : Op.shift .shl .u64 (p : Int) .i64 (7 * (j : Int)) = pure (.int .u64 ((p * 128 ^ j : Nat) : Int)) := by
  rw [shift_shl_any .u64 .i64 _ _ (by omega)]
  congr 2
  have e : ((7 * (j : Int)).toNat) = 7 * j := by omega
  rw [e, IntKind.wrap_u64, show IntKind.u64.bits = 64 from rfl]
  by_cases hj : 7 * j ≤ 64
  · rw [Nat.min_eq_left hj]
    have : (p : Int) * 2 ^ (7 * j) = ((p * 128 ^ j : Nat) : Int) := by rw [← pow7]; push_cast; rfl
    rw [this]; omega
  · have hp : p = 0 := by
      rcases Nat.eq_zero_or_pos p with h0 | h0
      · exact h0
      · have h1 : 2 ^ 64 ≤ 128 ^ j := by rw [← pow7]; exact Nat.pow_le_pow_right (by decide) (by omega)
        have h2 : 128 ^ j ≤ p * 128 ^ j := Nat.le_mul_of_pos_left _ h0
        omega
    subst hp; simp
theorem shr_in (j p : Nat) (h : p * 128 ^ j < 18446744073709551616) : Op.shift .shr .u64 ((p * 128 ^ j : Nat) : Int) .i64 (7 * (j : Int)) = pure (.int .u64 (p : Int)) := by
  rw [shift_shr_any .u64 .i64 _ _ (by omega)]
  congr 2
  have e : ((7 * (j : Int)).toNat) = 7 * j := by omega
  rw [e, show IntKind.u64.bits = 64 from rfl]
  by_cases hj : 7 * j ≤ 64
  · rw [Nat.min_eq_left hj, ← pow7]
    have : ((p * 2 ^ (7 * j) : Nat) : Int) / 2 ^ (7 * j) = ((p * 2 ^ (7 * j) / 2 ^ (7 * j) : Nat) : Int) := by push_cast; rfl
    rw [this, Nat.mul_div_cancel _ (Nat.two_pow_pos _)]
  · have hp : p = 0 := by
      rcases Nat.eq_zero_or_pos p with h0 | h0
      · exact h0
      · have h1 : 2 ^ 64 ≤ 128 ^ j := by rw [← pow7]; exact Nat.pow_le_pow_right (by decide) (by omega)
        have h2 : 128 ^ j ≤ p * 128 ^ j := Nat.le_mul_of_pos_left _ h0
        omega
    subst hp; simp
theorem shift_over (j p : Nat) (hp : p < 128) (h : ¬ p * 128 ^ j < 18446744073709551616) : ∃ S T : Int, Op.shift .shl .u64 (p : Int) .i64 (7 * (j : Int)) = pure (.int .u64 S) ∧
    Op.shift .shr .u64 S .i64 (7 * (j : Int)) = pure (.int .u64 T) ∧ (T == (p : Int)) = false := by
  refine ⟨_, _, shift_shl_any .u64 .i64 _ _ (by omega), shift_shr_any .u64 .i64 _ _ (by omega), ?_⟩
  have e : ((7 * (j : Int)).toNat) = 7 * j := by omega
  rw [e, show IntKind.u64.bits = 64 from rfl, IntKind.wrap_u64]
  have hm : 18446744073709551616 ≤ p * 2 ^ min (7 * j) 64 := by
    by_cases hj : 7 * j ≤ 64
    · rw [Nat.min_eq_left hj, pow7]; omega
    · rw [Nat.min_eq_right (by omega)]
      have : p ≠ 0 := by rintro rfl; simp at h
      have := Nat.le_mul_of_pos_left (2 ^ 64) (show 0 < p by omega)
      omega
  generalize hM : 2 ^ min (7 * j) 64 = M at hm
  have hM2 : (2 : Int) ^ min (7 * j) 64 = (M : Int) := by rw [← hM]; push_cast; rfl
  rw [hM2, beq_eq_false_iff_ne]
  have hMp : 0 < M := by rw [← hM]; exact Nat.two_pow_pos _
  have h1 : ((p : Int) * (M : Int) % 18446744073709551616) / (M : Int) = ((p * M % 18446744073709551616 / M : Nat) : Int) := by rw [Int.natCast_ediv, Int.natCast_emod, Int.natCast_mul]; rfl
  rw [h1]
  have h2 : p * M % 18446744073709551616 / M < p := by
    rw [Nat.div_lt_iff_lt_mul hMp]
    have := Nat.mod_lt (p * M) (show 0 < 18446744073709551616 by decide)
    omega
  omega
theorem or_in (j p u : Nat) (h : p * 128 ^ j < 18446744073709551616) (hu : u < 128 ^ j) (hu64 : u < 18446744073709551616) : bits .or .u64 (u : Int) ((p * 128 ^ j : Nat) : Int) = ((u + p * 128 ^ j : Nat) : Int) := by
  have hc : ((128 ^ j : Nat) : Int) = 2 ^ (7 * j) := by rw [← pow7]; push_cast; rfl
  have h0 : (((p * 128 ^ j : Nat) : Int)) % 2 ^ (7 * j) = 0 := by rw [← hc, ← Int.natCast_emod, Nat.mul_mod_left]; rfl
  have h1 : (u : Int) < 2 ^ (7 * j) := by rw [← hc]; exact Int.ofNat_lt.2 hu
  generalize p * 128 ^ j = s at h h0 ⊢
  rw [bits_join_low .u64 64 (by decide) wraps_u64 (7 * j) (u : Int) (s : Int) (by omega) h1 (by omega) (by omega) h0 (by omega)]
  omega
theorem pow_ge {i j : Nat} (h : i ≤ j) : 128 ^ i ≤ 128 ^ j := Nat.pow_le_pow_right (by decide) h
theorem p_late {j p : Nat} (hj : 9 < j) (h : p * 128 ^ j < 18446744073709551616) : p = 0 := by
  rcases Nat.eq_zero_or_pos p with h0 | h0
  · exact h0
  · have h1 := pow_ge (show 10 ≤ j from hj)
    have h2 : 128 ^ j ≤ p * 128 ^ j := Nat.le_mul_of_pos_left _ h0
    generalize 128 ^ j = q at *
    omega
theorem p_nine {p : Nat} (h : p * 128 ^ 9 < 18446744073709551616) : ¬ 1 < p := by
  intro h2
  have := Nat.mul_le_mul_right (128 ^ 9) (show 2 ≤ p from h2)
  omega
theorem p_over {j p : Nat} (hp : p < 128) (h : ¬ p * 128 ^ j < 18446744073709551616) : 9 < j ∨ (j = 9 ∧ 1 < p) := by
  by_cases h9 : 9 < j
  · exact .inl h9
  · by_cases h8 : j = 9
    · subst h8; exact .inr ⟨rfl, by omega⟩
    · have h1 := pow_ge (show j ≤ 8 by omega)
      have h2 := Nat.mul_le_mul_left p h1
      generalize p * 128 ^ j = q at *
      omega
theorem sum_lt {j p u : Nat} (h : p * 128 ^ j < 18446744073709551616) (hu : u < 128 ^ j) (hu64 : u < 18446744073709551616) : u + p * 128 ^ j < 18446744073709551616 := by
  by_cases hj : j ≤ 9
  · obtain ⟨q, hq⟩ : ∃ q, 18446744073709551616 = q * 128 ^ j := ⟨2 * 128 ^ (9 - j), by rw [Nat.mul_assoc, ← Nat.pow_add, show 9 - j + j = 9 by omega]⟩
    have hpq : p < q := by rw [hq] at h; exact Nat.lt_of_mul_lt_mul_right h
    have h1 := Nat.mul_le_mul_right (128 ^ j) (show p + 1 ≤ q from hpq)
    rw [Nat.add_mul, Nat.one_mul] at h1
    omega
  · have := p_late (by omega) h
    subst this
    omega
theorem sum_pow {j p u : Nat} (hp : p < 128) (hu : u < 128 ^ j) : u + p * 128 ^ j < 128 ^ (j + 1) := by
  have h1 := Nat.mul_le_mul_right (128 ^ j) (show p + 1 ≤ 128 from hp)
  rw [Nat.add_mul, Nat.one_mul, ← Nat.pow_succ'] at h1
  omega
theorem rdU_bad {j : Nat} {x : UInt8} (l : List UInt8) (h : ¬ x.toNat % 128 * 128 ^ j < 18446744073709551616) : rdU j (x :: l) = none := by
  rw [rdU, if_pos (p_over (by omega) h)]
theorem rdU_in {j : Nat} {x : UInt8} (l : List UInt8) (h : x.toNat % 128 * 128 ^ j < 18446744073709551616) (h9 : ¬ 9 < j) : rdU j (x :: l) = if x.toNat < 128 then (if x.toNat = 0 ∧ 0 < j then none else some (x.toNat, 1)) else (rdU (j + 1) l).map fun p => (x.toNat % 128 + 128 * p.1, p.2 + 1) := by
  rw [rdU, if_neg]
  rintro (h1 | ⟨rfl, h1⟩)
  · exact h9 h1
  · exact p_nine h h1
theorem rdU_zero {j : Nat} {x : UInt8} (l : List UInt8) (h : x.toNat = 0) (hj : 0 < j) : rdU j (x :: l) = none := by
  rw [rdU]; simp [h, hj]
theorem rdU_last {j : Nat} {x : UInt8} (l : List UInt8) (h : x.toNat % 128 * 128 ^ j < 18446744073709551616) (hx : x.toNat < 128) (hz : ¬ (x.toNat = 0 ∧ 0 < j)) : rdU j (x :: l) = some (x.toNat, 1) := by
  have h9 : ¬ 9 < j := fun h9 => by have := p_late h9 h; omega
  rw [rdU_in l h h9, if_pos hx, if_neg hz]
theorem rdU_late {j : Nat} (h : 9 < j) (l : List UInt8) : rdU j l = none := by
  cases l with
  | nil => rfl
  | cons x l => rw [rdU, if_pos (.inl h)]

theorem rdU_more {j : Nat} {x : UInt8} (l : List UInt8) (h : x.toNat % 128 * 128 ^ j < 18446744073709551616) (hx : ¬ x.toNat < 128) : rdU j (x :: l) = (rdU (j + 1) l).map fun p => (x.toNat % 128 + 128 * p.1, p.2 + 1) := by
  by_cases h9 : 9 < j
  · rw [rdU_late h9, rdU_late (by omega)]; rfl
  · rw [rdU_in l h h9, if_neg hx]

/-- what reading an integer does -/
def IntPost (w0 : World) (R : Nat) (v : Value) (bs : List UInt8) (k : Nat) (w : World) (o : Option (Int × Nat)) (e : Ending) (w' : World) : Prop :=
  Only R w w' ∧ match o with
    | some p => e = .returned (.int .i64 p.1) ∧ RD w0 R v bs (k + p.2) w'
    | none => e = .panicked bad

/-- the place in the loop: what is read from the beginning is what is read from here, with what was read before -/
def At (bs : List UInt8) (k j u : Nat) : Prop := u < 128 ^ j ∧ rdU 0 (bs.drop k) = (rdU j (bs.drop (k + j))).map (fun p => (u + 128 ^ j * p.1, p.2 + j))
theorem at_bad {bs : List UInt8} {k j u : Nat} (h : At bs k j u) (hr : rdU j (bs.drop (k + j)) = none) : rdI (bs.drop k) = none := by
  unfold rdI; rw [h.2, hr]; rfl
theorem at_last {bs : List UInt8} {k j u V y : Nat} (h : At bs k j u) (hr : rdU j (bs.drop (k + j)) = some (y, 1)) (hV : V = u + y * 128 ^ j) : rdI (bs.drop k) = some (unum V, j + 1) := by
  unfold rdI; rw [h.2, hr, hV]; simp [Nat.mul_comm, Nat.add_comm]
theorem at_more {bs : List UInt8} {k j u V p : Nat} (h : At bs k j u) (hp : p < 128) (hr : rdU j (bs.drop (k + j)) = (rdU (j + 1) (bs.drop (k + (j + 1)))).map fun q => (p + 128 * q.1, q.2 + 1)) (hV : V = u + p * 128 ^ j) : At bs k (j + 1) V := by
  refine ⟨hV ▸ sum_pow hp h.1, ?_⟩
  rw [h.2, hr, Option.map_map]
  congr 1
  funext q
  simp only [Function.comp, hV]
  refine Prod.ext ?_ ?_
  · simp only [Nat.pow_succ]
    rw [Nat.mul_add, Nat.mul_comm (128 ^ j) p, Nat.mul_assoc, Nat.add_assoc]
  · simp only; omega

set_option maxRecDepth 100000 in
set_option maxHeartbeats 4000000 in
theorem int_any {w0 w : World} {R k : Nat} {v : Value} {bs : List UInt8} (h : RD w0 R v bs k w) (hlen : bs.length ≤ 1000000) :
    Calls Try.prog 36 #[.pointer (some ⟨R, 0, none⟩)] w (IntPost w0 R v bs k w (rdI (bs.drop k))) := by
  go_enter Try.func36, Try.ntmps36
  go_wp2_with fail
  go_loopw [3, 4] (fun a s wr => ∃ (j u : Nat), a = .int .u64 (u : Int) ∧ s = .int .i64 (7 * (j : Int)) ∧ u < 18446744073709551616 ∧ j ≤ bs.length ∧ At bs k j u ∧ Only R w wr ∧ RD w0 R v bs (k + j) wr)
    (fun _ s _ => bs.length - (intOf s).toNat / 7)
  case atStart => exact ⟨0, 0, rfl, rfl, by omega, by omega, ⟨by decide, by simp⟩, Only.refl _ _, h⟩
  case round =>
    clear h
    obtain ⟨j, u, rfl, rfl, hu64, hj, hat, hon, h⟩ := hrel
    by_cases hkj : k + j < bs.length
    · have hn := next_some h hkj
      have hdr : bs.drop (k + j) = bs[k + j] :: bs.drop (k + (j + 1)) := drop_cons hkj
      have hjl : j + 1 ≤ bs.length := by omega
      generalize bs[k + j] = x at hdr hn
      clear hkj hj
      unfold vB at hn
      have hx256 := x.toNat_lt
      by_cases hok : x.toNat % 128 * 128 ^ j < 18446744073709551616
      · have hs1 := shl_in j _ hok
        have hs2 := shr_in j _ hok
        have hor := or_in j _ u hok hat.1 hu64
        have hVlt := sum_lt hok hat.1 hu64
        obtain ⟨V, hV⟩ : ∃ V : Nat, V = u + x.toNat % 128 * 128 ^ j := ⟨_, rfl⟩
        obtain ⟨S, hS⟩ : ∃ S : Int, S = ((x.toNat % 128 * 128 ^ j : Nat) : Int) := ⟨_, rfl⟩
        rw [← hS] at hs1 hs2 hor
        rw [← hV] at hor hVlt
        have hpy : ((x.toNat % 128 : Nat) : Int) = (x.toNat : Int) % 128 := by omega
        rw [hpy] at hs1 hs2
        clear hpy
        have hint := fun w => integer_any V hVlt w
        by_cases hy : x.toNat < 128
        · have hy1 : decide ((x.toNat : Int) < 128) = true := by simp; omega
          by_cases hz : x.toNat = 0 ∧ 0 < j
          · have hz1 : decide (0 < x.toNat) = false := by simp; omega
            have hz2 : (7 * (j : Int) == 0) = false := by simp; omega
            have hnone := at_bad hat (by rw [hdr]; exact rdU_zero _ hz.1 hz.2)
            clear hz hy hV hS hat hdr hok hVlt hu64
            generalize x.toNat = y at *
            go_wp2_with (first | (go_at_call 40; refine hn.mono ?_; rintro e w2 ⟨rfl, hon2, h2⟩) | (go_at_call 41; refine (hint _).mono ?_; rintro e w4 ⟨rfl, rfl⟩) | (go_at_call 37; first | (refine (must_true _).mono ?_; rintro e w3 ⟨rfl, rfl⟩) | (refine (must_false _).mono ?_; rintro e w3 ⟨rfl, rfl⟩)))
            exact ⟨rfl, hon.trans hon2, by rw [hnone]⟩
          · have hsome := at_last hat (by rw [hdr]; exact rdU_last _ hok hy hz) (show V = u + x.toNat * 128 ^ j by rw [hV, Nat.mod_eq_of_lt hy])
            by_cases hy0 : 0 < x.toNat
            · have hz1 : decide (0 < x.toNat) = true := by simpa using hy0
              clear hz hy hV hS hat hdr hok hVlt hu64 hy0
              generalize x.toNat = y at *
              go_wp2_with (first | (go_at_call 40; refine hn.mono ?_; rintro e w2 ⟨rfl, hon2, h2⟩) | (go_at_call 41; refine (hint _).mono ?_; rintro e w4 ⟨rfl, rfl⟩) | (go_at_call 37; first | (refine (must_true _).mono ?_; rintro e w3 ⟨rfl, rfl⟩) | (refine (must_false _).mono ?_; rintro e w3 ⟨rfl, rfl⟩)))
              go_ret
              exact ⟨hon.trans hon2, by rw [hsome]; exact ⟨rfl, h2⟩⟩
            · have hz1 : decide (0 < x.toNat) = false := by simpa using hy0
              have hj0 : j = 0 := by omega
              have hz2 : (7 * (j : Int) == 0) = true := by simp; omega
              have hw : IntKind.u64.wrap ((x.toNat : Int) % 128 * 2 ^ (7 * j)) = S := by rw [hS, hj0, IntKind.wrap_u64]; simp; omega
              have hdv : S / 2 ^ (7 * j) = (x.toNat : Int) % 128 := by rw [hS, hj0]; simp
              clear hj0 hs1 hs2
              clear hz hy hV hS hat hdr hok hVlt hu64 hy0
              generalize x.toNat = y at *
              go_wp2_with (first | (go_at_call 40; refine hn.mono ?_; rintro e w2 ⟨rfl, hon2, h2⟩) | (go_at_call 41; refine (hint _).mono ?_; rintro e w4 ⟨rfl, rfl⟩) | (go_at_call 37; first | (refine (must_true _).mono ?_; rintro e w3 ⟨rfl, rfl⟩) | (refine (must_false _).mono ?_; rintro e w3 ⟨rfl, rfl⟩)))
              go_ret
              exact ⟨hon.trans hon2, by rw [hsome]; exact ⟨rfl, h2⟩⟩
        · have hy1 : decide ((x.toNat : Int) < 128) = false := by simp; omega
          have hmore := at_more hat (by omega) (by rw [hdr]; exact rdU_more _ hok hy) hV
          clear hy hV hS hat hdr hok hu64
          generalize x.toNat = y at *
          go_wp2_with (first | (go_at_call 40; refine hn.mono ?_; rintro e w2 ⟨rfl, hon2, h2⟩) | (go_at_call 41; refine (hint _).mono ?_; rintro e w4 ⟨rfl, rfl⟩) | (go_at_call 37; first | (refine (must_true _).mono ?_; rintro e w3 ⟨rfl, rfl⟩) | (refine (must_false _).mono ?_; rintro e w3 ⟨rfl, rfl⟩)))
          go_roundw
          case rel => exact ⟨j + 1, V, rfl, by first | (congr 1; omega) | congr 1, hVlt, hjl, hmore, hon.trans hon2, h2⟩
          case measure => simp [intOf]; omega
      · obtain ⟨S, T, hs1, hs2, hne⟩ := shift_over j (x.toNat % 128) (by omega) hok
        have hnone := at_bad hat (by rw [hdr]; exact rdU_bad _ hok)
        have hpy : ((x.toNat % 128 : Nat) : Int) = (x.toNat : Int) % 128 := by omega
        rw [hpy] at hs1 hne
        clear hpy hok hdr hat hu64
        generalize x.toNat = y at *
        go_wp2_with (first | (go_at_call 40; refine hn.mono ?_; rintro e w2 ⟨rfl, hon2, h2⟩) | (go_at_call 41; refine (hint _).mono ?_; rintro e w4 ⟨rfl, rfl⟩) | (go_at_call 37; first | (refine (must_true _).mono ?_; rintro e w3 ⟨rfl, rfl⟩) | (refine (must_false _).mono ?_; rintro e w3 ⟨rfl, rfl⟩)))
        exact ⟨rfl, hon.trans hon2, by rw [hnone]⟩
    · have hn := next_none h (by omega)
      have hdr : bs.drop (k + j) = [] := List.drop_of_length_le (by omega)
      have hnone := at_bad hat (by rw [hdr]; rfl)
      go_wp2_with (go_at_call 40; refine hn.mono ?_; rintro e w2 ⟨rfl, hon2⟩)
      exact ⟨rfl, hon.trans hon2, by rw [hnone]⟩
end Go.Proofs.Ytpgnlmhkigpjgaa
