/-
  The codec: what is written is read, and nothing else.
-/
import Derived.Test.YtpgnlmhkigpjgaaCodRefG
namespace Go.Proofs.Ytpgnlmhkigpjgaa
open Go.RowKit
set_option linter.unusedVariables false

theorem unum_num {n : Int} : unum (num n) = n := by
  unfold unum num
  split <;> split <;> omega
theorem num_unum {u : Nat} : num (unum u) = u := by
  unfold unum num
  split <;> split <;> omega
theorem leb_pos (u : Nat) : 0 < (leb u).length := by
  by_cases h : u < 128
  · rw [leb_small h]; simp
  · rw [leb_big h]; simp
theorem rd_leb : ∀ (N u j : Nat) (rest : List UInt8), u ≤ N → u * 128 ^ j < 18446744073709551616 → (0 < j → 0 < u) → rdU j (leb u ++ rest) = some (u, (leb u).length) := by
  intro N
  induction N with
  | zero =>
    intro u j rest hN h1 h2
    have hu : u < 128 := by omega
    rw [leb_small hu, List.singleton_append]
    have e : (UInt8.ofNat u).toNat = u := by simp; omega
    rw [rdU_last rest (by rw [e, Nat.mod_eq_of_lt hu]; exact h1) (by rw [e]; exact hu) (by rw [e]; rintro ⟨h3, h4⟩; have := h2 h4; omega), e]
    rfl
  | succ N ih =>
    intro u j rest hN h1 h2
    by_cases hu : u < 128
    · rw [leb_small hu, List.singleton_append]
      have e : (UInt8.ofNat u).toNat = u := by simp; omega
      rw [rdU_last rest (by rw [e, Nat.mod_eq_of_lt hu]; exact h1) (by rw [e]; exact hu) (by rw [e]; rintro ⟨h3, h4⟩; have := h2 h4; omega), e]
      rfl
    · rw [leb_big hu, List.cons_append]
      have e : (UInt8.ofNat (u % 128 + 128)).toNat = u % 128 + 128 := by simp; omega
      have hle : u % 128 * 128 ^ j ≤ u * 128 ^ j := Nat.mul_le_mul_right _ (Nat.mod_le _ _)
      have hle2 : u / 128 * 128 ^ (j + 1) ≤ u * 128 ^ j := by
        rw [Nat.pow_succ', ← Nat.mul_assoc]
        exact Nat.mul_le_mul_right _ (by omega)
      rw [rdU_more _ (by rw [e, show (u % 128 + 128) % 128 = u % 128 by omega]; omega) (by rw [e]; omega), ih (u / 128) (j + 1) rest (by omega) (by omega) (by omega), e]
      simp only [Option.map_some, List.length_cons]
      congr 2
      omega
theorem leb_of_rd : ∀ (b : List UInt8) (j : Nat) (p : Nat × Nat), rdU j b = some p → b.take p.2 = leb p.1 ∧ (0 < j → 0 < p.1)
  | [], j, p, h => by cases h
  | x :: l, j, p, h => by
    have hx := x.toNat_lt
    by_cases hok : x.toNat % 128 * 128 ^ j < 18446744073709551616
    · by_cases hy : x.toNat < 128
      · by_cases hz : x.toNat = 0 ∧ 0 < j
        · rw [rdU_zero _ hz.1 hz.2] at h; cases h
        · rw [rdU_last _ hok hy hz] at h
          cases h
          refine ⟨?_, fun hj => by simp only; omega⟩
          simp only
          rw [leb_small hy]
          simp
      · rw [rdU_more _ hok hy] at h
        cases hq : rdU (j + 1) l with
        | none => rw [hq] at h; cases h
        | some q =>
          rw [hq] at h
          cases h
          obtain ⟨h1, h2⟩ := leb_of_rd l (j + 1) q hq
          have h3 := h2 (by omega)
          refine ⟨?_, fun _ => by simp only; omega⟩
          simp only
          rw [List.take_succ_cons, h1, leb_big (u := x.toNat % 128 + 128 * q.1) (by omega), show (x.toNat % 128 + 128 * q.1) / 128 = q.1 by omega, show (x.toNat % 128 + 128 * q.1) % 128 + 128 = x.toNat by omega]
          simp
    · rw [rdU_bad _ hok] at h; cases h
theorem rdI_enc {n : Int} (h : I64 n) (rest : List UInt8) : rdI (enc n ++ rest) = some (n, (enc n).length) := by
  unfold rdI enc
  rw [rd_leb (num n) (num n) 0 rest (Nat.le_refl _) (by simpa using num_lt h) (by omega)]
  simp [unum_num]
theorem enc_of_rdI {b : List UInt8} {p : Int × Nat} (h : rdI b = some p) : b.take p.2 = enc p.1 := by
  unfold rdI at h
  cases hq : rdU 0 b with
  | none => rw [hq] at h; cases h
  | some q =>
    rw [hq] at h; cases h
    simp only [enc, num_unum]
    exact (leb_of_rd _ _ _ hq).1
theorem rdN_flat : ∀ (l : List Int) (rest : List UInt8), (∀ x ∈ l, I64 x) → rdN l.length (l.flatMap enc ++ rest) = some (l, (l.flatMap enc).length)
  | [], rest, _ => rfl
  | x :: l, rest, h => by
    rw [List.length_cons, rdN, List.flatMap_cons, List.append_assoc, rdI_enc (h x (by simp))]
    simp only [Option.bind_some]
    rw [List.drop_append_of_le_length (Nat.le_refl _), List.drop_of_length_le (Nat.le_refl _), List.nil_append, rdN_flat l rest (fun y hy => h y (by simp [hy]))]
    simp
theorem flat_of_rdN : ∀ (n : Nat) (b : List UInt8) (q : List Int × Nat), rdN n b = some q → q.1.length = n ∧ q.1.flatMap enc = b.take q.2 ∧ q.2 ≤ b.length ∧ ∀ x ∈ q.1, I64 x
  | 0, b, q, h => by cases h; simp
  | n + 1, b, q, h => by
    rw [rdN] at h
    obtain ⟨p, hp, h⟩ := Option.bind_eq_some_iff.1 h
    cases hr : rdN n (b.drop p.2) with
    | none => rw [hr] at h; cases h
    | some r =>
      rw [hr] at h
      cases h
      obtain ⟨h1, h2, h3, h4⟩ := flat_of_rdN n _ r hr
      have h5 := rdI_size hp
      have h6 := enc_of_rdI hp
      rw [List.length_drop] at h3
      refine ⟨by simp [h1], ?_, by simp only; omega, ?_⟩
      · simp only [List.flatMap_cons]
        rw [h2, ← h6, List.take_add]
      · intro x hx
        rcases List.mem_cons.1 hx with rfl | hx
        · exact rdI_i64 hp
        · exact h4 x hx
theorem lrd_lput {l : List Int} (hl : l.length ≤ 4000) (h : ∀ x ∈ l, I64 x) (rest : List UInt8) : lrd (lput l ++ rest) = some (l, (lput l).length) := by
  unfold lrd lput
  rw [List.append_assoc, rdI_enc ⟨by omega, by omega⟩]
  simp only [Option.bind_some]
  rw [if_neg (by omega), Int.toNat_natCast, List.drop_append_of_le_length (Nat.le_refl _), List.drop_of_length_le (Nat.le_refl _), List.nil_append, rdN_flat l rest h]
  simp
theorem lput_of_lrd {b : List UInt8} {q : List Int × Nat} (h : lrd b = some q) : lput q.1 = b.take q.2 ∧ q.2 ≤ b.length ∧ q.1.length ≤ 4000 ∧ ∀ x ∈ q.1, I64 x := by
  unfold lrd at h
  obtain ⟨p, hp, h⟩ := Option.bind_eq_some_iff.1 h
  split at h
  · cases h
  · next hn =>
    cases hr : rdN p.1.toNat (b.drop p.2) with
    | none => rw [hr] at h; cases h
    | some r =>
      rw [hr] at h
      cases h
      obtain ⟨h1, h2, h3, h4⟩ := flat_of_rdN _ _ r hr
      have h5 := rdI_size hp
      have h6 := enc_of_rdI hp
      rw [List.length_drop] at h3
      refine ⟨?_, by simp only; omega, by simp only; omega, h4⟩
      unfold lput
      simp only
      rw [show ((r.1.length : Nat) : Int) = p.1 by omega, h2, ← h6, List.take_add]
theorem lget_lput {l : List Int} (hl : l.length ≤ 4000) (h : ∀ x ∈ l, I64 x) : lget (lput l) = some l := by
  have := lrd_lput hl h []
  rw [List.append_nil] at this
  rw [lget_lrd, this]
  simp
theorem lput_of_lget {b : List UInt8} {l : List Int} (h : lget b = some l) : lput l = b ∧ l.length ≤ 4000 ∧ ∀ x ∈ l, I64 x := by
  rw [lget_lrd] at h
  obtain ⟨q, hq, h⟩ := Option.bind_eq_some_iff.1 h
  split at h
  · next he =>
    cases h
    obtain ⟨h1, h2, h3, h4⟩ := lput_of_lrd hq
    rw [he, List.take_length] at h1
    exact ⟨h1, h3, h4⟩
  · cases h
/-- with anything behind, or without some of the last ones: no list -/
theorem lget_more {l : List Int} (hl : l.length ≤ 4000) (h : ∀ x ∈ l, I64 x) {rest : List UInt8} (hr : rest ≠ []) : lget (lput l ++ rest) = none := by
  rw [lget_lrd, lrd_lput hl h]
  simp [hr]
theorem lget_less {l : List Int} (hl : l.length ≤ 4000) (h : ∀ x ∈ l, I64 x) {k : Nat} (hk : k < (lput l).length) : lget ((lput l).take k) = none := by
  cases hg : lget ((lput l).take k) with
  | none => rfl
  | some m =>
    exfalso
    obtain ⟨h1, h2, h3⟩ := lput_of_lget hg
    have h4 := lrd_lput h2 h3 ((lput l).drop k)
    rw [h1, List.take_append_drop] at h4
    have h5 := lrd_lput hl h []
    rw [List.append_nil, h4] at h5
    have h6 := congrArg (fun o => (o.map Prod.snd).getD 0) h5
    simp only [Option.map_some, Option.getD_some, List.length_take] at h6
    omega
end Go.Proofs.Ytpgnlmhkigpjgaa
