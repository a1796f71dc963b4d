/-
  The printer, plain: what is read from a source can be written, and is read again.
-/
import Derived.Test.YthnlenbfknbmcaaGreatDoorQpp
import Derived.Test.YthnlenbfknbmcaaGreatDoorQq
namespace Go.Proofs.YthnlenbfknbmcaaGreatDoor
set_option maxRecDepth 100000

/-- the tokens' kinds are those of their texts -/
def fineT (ts : List Tok) : Prop := ∀ x ∈ ts, kindF x.t = x.k
theorem fineT.suf {ts us : List Tok} (h : fineT ts) (hs : us <:+ ts) : fineT us := fun x hx => h x (hs.mem hx)
theorem num_le9 {t : List UInt8} (h : kindF t = 2) : cents t ≤ 999999999 := by
  have hd : ∀ {s : List UInt8}, nDig s = s.length → s.length ≤ 9 → cents s ≤ 999999999 := by
    intro s h1 h2
    have h7 := cents_lt s s.length
    rw [List.take_length] at h7
    have h8 : (10 : Nat) ^ s.length ≤ 10 ^ 9 := Nat.pow_le_pow_right (by decide) h2
    omega
  cases t with
  | nil => cases h
  | cons c r =>
    unfold kindF at h
    simp only at h
    split at h
    · omega
    · split at h
      · split at h <;> omega
      · split at h
        · omega
        · split at h
          · next h9 =>
            next h10 _ => exact hd h9 (by omega)
          · split at h
            · omega
            · split at h <;> omega
/-- a word and a number -/
theorem g_field_inv {w : List UInt8} {is : List Item} {ts r : List Tok} {l : List Xp} (hf : fineT ts) (h : G (.seq (.lit w :: .num :: is)) ts (.ok l r)) : ∃ n l2 us, l = leafE 1 (n : Nat) :: l2 ∧ n ≤ 999999999 ∧ us <:+ ts ∧ G (.seq is) us (.ok l2 r) := by
  obtain ⟨f, hf0⟩ := h
  cases f with
  | zero => cases hf0
  | succ f =>
    simp only [run, stepP] at hf0
    split at hf0
    · cases f with
      | zero => cases hf0
      | succ f =>
        cases ts with
        | nil => cases hf0
        | cons x q =>
          simp only [List.tail_cons] at hf0
          cases q with
          | nil => cases hf0
          | cons y q =>
            simp only [run, stepP] at hf0
            split at hf0
            · next hk =>
              obtain ⟨l2, r2, h1, h2⟩ := after_ok hf0
              cases h2
              refine ⟨cents y.t, l2, q, rfl, num_le9 (by rw [hf y (by simp)]; exact hk), ?_, f, h1⟩
              exact (List.suffix_cons y q).trans (List.suffix_cons x (y :: q))
            · cases hf0
    · cases hf0
theorem rate_nums {ts r : List Tok} {l : List Xp} (hf : fineT ts) (h : G (.seq rateI) ts (.ok l r)) : ∃ n0 n1 n2 n3 n4 n5 n6 n7 c l2, l = leafE 1 (n0 : Nat) :: leafE 1 (n1 : Nat) :: leafE 1 (n2 : Nat) :: leafE 1 (n3 : Nat) :: leafE 1 (n4 : Nat) :: leafE 1 (n5 : Nat) :: leafE 1 (n6 : Nat) :: leafE 1 (n7 : Nat) :: leafE 1 (c : Nat) :: l2 ∧
    n0 ≤ 999999999 ∧ n1 ≤ 999999999 ∧ n2 ≤ 999999999 ∧ n3 ≤ 999999999 ∧ n4 ≤ 999999999 ∧ n5 ≤ 999999999 ∧ n6 ≤ 999999999 ∧ n7 ≤ 999999999 ∧ c ≤ 999999999 := by
  unfold rateI at h
  obtain ⟨n0, l0, t0, rfl, b0, s0, h⟩ := g_field_inv hf h
  obtain ⟨n1, l1, t1, rfl, b1, s1, h⟩ := g_field_inv (hf.suf s0) h
  obtain ⟨n2, l2, t2, rfl, b2, s2, h⟩ := g_field_inv (hf.suf (s1.trans s0)) h
  obtain ⟨n3, l3, t3, rfl, b3, s3, h⟩ := g_field_inv (hf.suf (s2.trans (s1.trans s0))) h
  obtain ⟨n4, l4, t4, rfl, b4, s4, h⟩ := g_field_inv (hf.suf (s3.trans (s2.trans (s1.trans s0)))) h
  obtain ⟨n5, l5, t5, rfl, b5, s5, h⟩ := g_field_inv (hf.suf (s4.trans (s3.trans (s2.trans (s1.trans s0))))) h
  obtain ⟨n6, l6, t6, rfl, b6, s6, h⟩ := g_field_inv (hf.suf (s5.trans (s4.trans (s3.trans (s2.trans (s1.trans s0)))))) h
  obtain ⟨n7, l7, t7, rfl, b7, s7, h⟩ := g_field_inv (hf.suf (s6.trans (s5.trans (s4.trans (s3.trans (s2.trans (s1.trans s0))))))) h
  obtain ⟨c, l8, t8, rfl, b8, s8, h⟩ := g_field_inv (hf.suf (s7.trans (s6.trans (s5.trans (s4.trans (s3.trans (s2.trans (s1.trans s0)))))))) h
  exact ⟨n0, n1, n2, n3, n4, n5, n6, n7, c, l8, rfl, b0, b1, b2, b3, b4, b5, b6, b7, b8⟩
/-- what a rate's numbers and expressions are good for -/
def goodR (r : Rt) : Prop := r.a0 ≤ 999999999 ∧ r.a1 ≤ 999999999 ∧ r.a2 ≤ 999999999 ∧ r.a3 ≤ 999999999 ∧ r.a4 ≤ 999999999 ∧ r.a5 ≤ 999999999 ∧ r.a6 ≤ 999999999 ∧ r.a7 ≤ 999999999 ∧ r.c ≤ 999999999 ∧ validF r.when = true ∧ validF r.price = true
theorem leaf_inj {a b : Nat} (h : leafE 1 (a : Int) = leafE 1 (b : Int)) : a = b := by unfold leafE at h; injection h with _ h _; omega
theorem rr_good {c : Nat} {ts : List Tok} {rs : List Rt} (hf : fineT ts) (h : RR c ts (.ok (rs.map Rt.list))) : ∀ r ∈ rs, goodR r := by
  generalize ha : RRes.ok (rs.map Rt.list) = a at h
  induction h generalizing rs with
  | nil => cases rs with
    | nil => intro r hr; cases hr
    | cons x q => cases ha
  | lim => cases ha
  | syn => cases ha
  | arg => cases ha
  | later => cases ha
  | @more c ts q l ls h1 h2 hg hv _ ih =>
    cases rs with
    | nil => cases ha
    | cons x xs =>
      simp only [List.map_cons, RRes.ok.injEq, List.cons.injEq] at ha
      obtain ⟨hx, hxs⟩ := ha
      have h3 := ih (hf.suf hg.suf) (rs := xs) (by rw [hxs])
      intro r hr
      rcases List.mem_cons.1 hr with rfl | hr
      · obtain ⟨n0, n1, n2, n3, n4, n5, n6, n7, cc, l2, he, b0, b1, b2, b3, b4, b5, b6, b7, b8⟩ := rate_nums hf hg
        rw [← hx] at he hv
        unfold Rt.list at he hv
        simp only [List.cons.injEq] at he
        obtain ⟨e0, e1, e2, e3, e4, e5, e6, e7, e8, -⟩ := he
        have hv2 : (validF r.when && validF r.price) = true := hv
        rw [Bool.and_eq_true] at hv2
        exact ⟨by rw [leaf_inj e0]; exact b0, by rw [leaf_inj e1]; exact b1, by rw [leaf_inj e2]; exact b2, by rw [leaf_inj e3]; exact b3, by rw [leaf_inj e4]; exact b4, by rw [leaf_inj e5]; exact b5, by rw [leaf_inj e6]; exact b6, by rw [leaf_inj e7]; exact b7, by rw [leaf_inj e8]; exact b8, hv2.1, hv2.2⟩
      · exact h3 r hr
theorem rp_good {s : List UInt8} {rs : List Rt} {n : Nat} (h : RP s (rs.map Rt.list) 0 n) : ∀ r ∈ rs, goodR r := rr_good (fun x hx => (tok_fine s x hx).2.1.symm) h.zero.2.1
/-- the percentage of a percentage -/
theorem keep_pct (c : Nat) (h : c ≤ 999999999) : keepB (mkF c 100).1 (mkF c 100).2.1 = true ∧ (mkF c 100).1 * (100 / (mkF c 100).2.1) = c := by
  have h1 : wthB (c : Int) 1000000000000000 = true := by unfold wthB; simp; omega
  have h2 : wthB 100 1000000000000000 = true := by decide
  have hg : common (c : Int) 100 = (Int.gcd c 100 : Int) := by rw [common_eq _ _ (by decide), if_neg (by decide)]
  have hp := gcd_pos (c : Int) 100 (by decide)
  obtain ⟨a, ha⟩ : (Int.gcd c 100 : Int) ∣ (c : Int) := Int.gcd_dvd_left ..
  obtain ⟨b, hb⟩ : (Int.gcd c 100 : Int) ∣ 100 := Int.gcd_dvd_right ..
  have hab : Int.gcd a b = 1 := by
    have h3 : Int.gcd ((Int.gcd c 100 : Int) * a) ((Int.gcd c 100 : Int) * b) = Int.gcd c 100 := by rw [← ha, ← hb]
    rw [Int.gcd_mul_left] at h3
    have h4 : (Int.gcd c 100 : Int).natAbs = Int.gcd c 100 := by simp
    rw [h4] at h3
    exact Nat.eq_of_mul_eq_mul_left hp (by rw [h3, Nat.mul_one])
  have hN : redN (c : Int) 100 = a := by unfold redN; rw [hg]; rw [show (c : Int).tdiv (Int.gcd c 100 : Int) = ((Int.gcd c 100 : Int) * a).tdiv (Int.gcd c 100 : Int) by rw [← ha]]; exact Int.mul_tdiv_cancel_left a (by omega)
  have hD : redD (c : Int) 100 = b := by unfold redD; rw [hg]; rw [show (100 : Int).tdiv (Int.gcd c 100 : Int) = ((Int.gcd c 100 : Int) * b).tdiv (Int.gcd c 100 : Int) by rw [← hb]]; exact Int.mul_tdiv_cancel_left b (by omega)
  generalize Int.gcd c 100 = g at hp ha hb hg
  have hg1 : (1 : Int) ≤ (g : Int) := by omega
  have hb0 : 0 < b := by
    rcases Int.lt_or_le 0 b with h5 | h5
    · exact h5
    · have := Int.mul_nonpos_of_nonneg_of_nonpos (show (0 : Int) ≤ g by omega) h5; omega
  have ha0 : 0 ≤ a := by
    rcases Int.lt_or_le a 0 with h5 | h5
    · have := Int.mul_neg_of_pos_of_neg (show (0 : Int) < g by omega) h5; omega
    · exact h5
  have hbl : b ≤ 100 := by
    have := Int.mul_le_mul_of_nonneg_right hg1 (show 0 ≤ b by omega)
    omega
  have hal : a ≤ 999999999 := by
    have := Int.mul_le_mul_of_nonneg_right hg1 ha0
    omega
  have hfit : fitB a b = true := by unfold fitB; rw [decide_eq_true_eq]; omega
  have hmk : mkF (c : Int) 100 = (a, b, 0) := by
    unfold mkF
    rw [if_pos ⟨by decide, h1, h2⟩]
    unfold setl
    rw [hN, hD, if_pos hfit]
  rw [hmk]
  simp only
  have hdv : (100 : Int) / b = g := by rw [hb]; exact Int.mul_ediv_cancel g (by omega)
  have hmod : (100 : Int) % b = 0 := by rw [hb]; exact Int.mul_emod_left g b
  have hfin : a * (100 / b) = c := by rw [hdv, Int.mul_comm]; exact ha.symm
  refine ⟨?_, hfin⟩
  unfold keepB vldB
  rw [hfit, hab, hmod, hfin]
  simp [nineB]; omega
/-- the text of a rate -/
def rtT (r : Rt) : List UInt8 := rateX r.a0 r.a1 r.a2 r.a3 r.a4 r.a5 r.a6 r.a7 r.c (txtE r.when) (txtE r.price)
theorem rt_written {r : Rt} (h : goodR r) : rateP r.a0 r.a1 r.a2 r.a3 r.a4 r.a5 r.a6 r.a7 r.kn r.kd r.when r.price = (rtT r, 0) := by
  obtain ⟨b0, b1, b2, b3, b4, b5, b6, b7, b8, v1, v2⟩ := h
  obtain ⟨k1, k2⟩ := keep_pct r.c b8
  have n : ∀ a : Nat, a ≤ 999999999 → nineB (a : Int) = true := fun a h => by simp [nineB]; omega
  unfold rateP Rt.kn Rt.kd
  rw [k1, k2, v1, v2, n _ b0, n _ b1, n _ b2, n _ b3, n _ b4, n _ b5, n _ b6, n _ b7]
  simp only [Bool.and_self, if_true, Int.toNat_natCast]
  rfl
theorem rateX_len (a0 a1 a2 a3 a4 a5 a6 a7 c : Nat) (w p : List UInt8) : (rateX a0 a1 a2 a3 a4 a5 a6 a7 c w p).length ≤ 200 + (Lib.decDigits a0).length + (Lib.decDigits a1).length + (Lib.decDigits a2).length + (Lib.decDigits a3).length + (Lib.decDigits a4).length + (Lib.decDigits a5).length + (Lib.decDigits a6).length + (Lib.decDigits a7).length + (Lib.decDigits c).length + w.length + p.length := by
  unfold rateX
  simp only [List.length_append, List.length_cons, List.length_nil, wRate, wLevel, wKind, wNights, wTo, wStay, wArrive, wKeep, wWhen, wPrice]
  omega
theorem rt_read {r : Rt} (h : goodR r) : RP (rtT r) [r.list] 0 0 ∧ (rtT r).length ≤ 10000 := by
  obtain ⟨b0, b1, b2, b3, b4, b5, b6, b7, b8, v1, v2⟩ := h
  obtain ⟨o1, c1, _⟩ := valid_is v1
  obtain ⟨o2, c2, _⟩ := valid_is v2
  obtain ⟨k1, p1⟩ := pt_of r.when o1
  obtain ⟨k2, p2⟩ := pt_of r.price o2
  have q1 := pt_count p1
  have q2 := pt_count p2
  have dl : ∀ a : Nat, a ≤ 999999999 → (Lib.decDigits a).length ≤ 9 := fun a h => dec_size 8 a (by omega)
  have hlen : (rtT r).length ≤ 10000 := by
    have := rateX_len r.a0 r.a1 r.a2 r.a3 r.a4 r.a5 r.a6 r.a7 r.c (txtE r.when) (txtE r.price)
    have d0 := dl _ b0; have d1 := dl _ b1; have d2 := dl _ b2; have d3 := dl _ b3; have d4 := dl _ b4; have d5 := dl _ b5; have d6 := dl _ b6; have d7 := dl _ b7; have d8 := dl _ b8
    unfold rtT
    omega
  refine ⟨?_, hlen⟩
  have hlx : LxD (rateK r.a0 r.a1 r.a2 r.a3 r.a4 r.a5 r.a6 r.a7 r.c k1 k2) (rtT r) := rate_lx b0 b1 b2 b3 b4 b5 b6 b7 b8 (pt_lx p1) (pt_lx p2)
  have hkl : (rateK r.a0 r.a1 r.a2 r.a3 r.a4 r.a5 r.a6 r.a7 r.c k1 k2).length ≤ 5000 := by
    unfold rateK
    simp only [List.length_append, List.length_cons, List.length_nil]
    omega
  have ht : tokP (rtT r) = (onL 1 (rateK r.a0 r.a1 r.a2 r.a3 r.a4 r.a5 r.a6 r.a7 r.c k1 k2), 0, 0) := by unfold tokP; rw [if_neg (by omega), lx_all hlx hkl 1]
  refine .ok (by rw [ht]) ?_
  rw [ht]
  have hg := rate_g (line := 1) b0 b1 b2 b3 b4 b5 b6 b7 b8 (pt_al p1).re (pt_al p2).re []
  rw [List.append_nil] at hg
  refine .more (by unfold rateK onL; simp) (by rintro ⟨_, h⟩; cases h) hg ?_ .nil
  show (validF r.when && validF r.price) = true
  rw [v1, v2]; rfl
end Go.Proofs.YthnlenbfknbmcaaGreatDoor
