/-
  The group of the signatures, in plain numbers: powers, their order, Fermat's theorem for Q, what a signature shows.
-/
import Derived.Test.YtgljelkjfipefaaDoorKit
namespace Go.Proofs.YtgljelkjfipefaaDoor

def sP : Nat := 2147483579
def sQ : Nat := 1073741789
theorem sQ_eq : sQ = 1073741789 := rfl
theorem sP_eq : sP = 2147483579 := rfl

/-- the power by squares, with fuel -/
def pf (m : Nat) : Nat → Nat → Nat → Nat → Nat
  | 0, out, _, _ => out % m
  | n + 1, out, a, x => if x = 0 then out % m else pf m n (if x % 2 = 1 then out * a % m else out) (a * a % m) (x / 2)
theorem sq_pow (m a x : Nat) : (a * a % m) ^ x % m = a ^ (2 * x) % m := by
  rw [← Nat.pow_mod, ← Nat.pow_two, ← Nat.pow_mul]
theorem step_pow (m out a x : Nat) : ((if x % 2 = 1 then out * a % m else out) * (a * a % m) ^ (x / 2)) % m = out * a ^ x % m := by
  have h := sq_pow m a (x / 2)
  by_cases hx : x % 2 = 1
  · rw [if_pos hx, Nat.mul_mod, h, Nat.mod_mod, ← Nat.mul_mod, Nat.mul_assoc, ← Nat.pow_succ', show (2 * (x / 2)).succ = x by omega]
  · rw [if_neg hx, Nat.mul_mod, h, ← Nat.mul_mod, show 2 * (x / 2) = x by omega]
theorem pf_eq (m : Nat) : ∀ (n out a x : Nat), x < 2 ^ n → pf m n out a x = out * a ^ x % m
  | 0, out, a, x, h => by
    obtain rfl : x = 0 := by simpa using h
    simp [pf]
  | n + 1, out, a, x, h => by
    unfold pf
    by_cases hx : x = 0
    · subst hx; simp
    · rw [if_neg hx, pf_eq m n _ _ _ (by rw [Nat.pow_succ] at h; omega), step_pow]
theorem g_order : 4 ^ sQ % sP = 1 := by
  have h := pf_eq sP 31 1 4 sQ (by decide +kernel)
  rw [Nat.one_mul] at h
  rw [← h]
  decide +kernel
theorem order9 : 9 ^ sQ % sP = 1 := by
  have h := pf_eq sP 31 1 9 sQ (by decide +kernel)
  rw [Nat.one_mul] at h
  rw [← h]
  decide +kernel
theorem order2 : 2 ^ sQ % sP ≠ 1 := by
  have h := pf_eq sP 31 1 2 sQ (by decide +kernel)
  rw [Nat.one_mul] at h
  rw [← h]
  decide +kernel

/-- an element -/
def Mem (b : Nat) : Prop := 1 ≤ b ∧ b < sP ∧ b ^ sQ % sP = 1
theorem pow_mod_mod (b x m : Nat) : (b % m) ^ x % m = b ^ x % m := (Nat.pow_mod b x m).symm
theorem pow_q (b k : Nat) (h : b ^ sQ % sP = 1) : b ^ (sQ * k) % sP = 1 := by
  rw [Nat.pow_mul, Nat.pow_mod, h, Nat.one_pow]
  decide
theorem exp_mod (b x : Nat) (h : b ^ sQ % sP = 1) : b ^ (x % sQ) % sP = b ^ x % sP := by
  have e : b ^ x % sP = b ^ (sQ * (x / sQ)) * b ^ (x % sQ) % sP := by rw [← Nat.pow_add, Nat.div_add_mod]
  rw [e, Nat.mul_mod, pow_q b _ h, Nat.one_mul, Nat.mod_mod]
theorem mem_pow {b : Nat} (x : Nat) (h : b ^ sQ % sP = 1) : Mem (b ^ x % sP) := by
  have h1 : (b ^ x % sP) ^ sQ % sP = 1 := by
    rw [pow_mod_mod, ← Nat.pow_mul, Nat.mul_comm, pow_q b x h]
  refine ⟨?_, Nat.mod_lt _ (by decide), h1⟩
  rcases Nat.eq_zero_or_pos (b ^ x % sP) with e | e
  · rw [e, Nat.zero_pow (by decide)] at h1
    simp at h1
  · exact e
theorem mem_g (x : Nat) : Mem (4 ^ x % sP) := mem_pow x g_order
theorem pow_pow_q (b x y : Nat) (h : b ^ sQ % sP = 1) : (b ^ x % sP) ^ y % sP = b ^ (x * y % sQ) % sP := by
  rw [pow_mod_mod, ← Nat.pow_mul, exp_mod b _ h]
/-- what was signed leads back to the number that was used once -/
theorem sign_back (sec once E : Nat) (hE : E < sQ) : (4 ^ ((once + E * sec) % sQ) % sP) * ((4 ^ sec % sP) ^ ((sQ - E) % sQ) % sP) % sP = 4 ^ once % sP := by
  rw [exp_mod 4 _ g_order, exp_mod (4 ^ sec % sP) _ (mem_g sec).2.2, pow_mod_mod, ← Nat.pow_mul, ← Nat.mul_mod, ← Nat.pow_add]
  have e : once + E * sec + sec * (sQ - E) = once + sQ * sec := by
    have : sec * (sQ - E) + E * sec = sQ * sec := by
      rw [Nat.mul_comm E sec, ← Nat.mul_add, Nat.sub_add_cancel (Nat.le_of_lt hE), Nat.mul_comm]
    omega
  rw [e, Nat.pow_add, Nat.mul_mod, pow_q 4 sec g_order, Nat.mul_one, Nat.mod_mod]

/-- no divisor from lo on, 2 ^ n of them -/
def noDiv (q : Nat) : Nat → Nat → Bool
  | 0, lo => decide (lo < 2) || decide (q % lo ≠ 0)
  | n + 1, lo => noDiv q n lo && noDiv q n (lo + 2 ^ n)
theorem noDiv_out {q : Nat} : ∀ (n lo : Nat), noDiv q n lo = true → ∀ d, lo ≤ d → d < lo + 2 ^ n → 2 ≤ d → q % d ≠ 0
  | 0, lo, h, d, h1, h2, h3 => by
    obtain rfl : d = lo := by simp at h2; omega
    simp [noDiv] at h
    omega
  | n + 1, lo, h, d, h1, h2, h3 => by
    simp only [noDiv, Bool.and_eq_true] at h
    rw [Nat.pow_succ] at h2
    by_cases hd : d < lo + 2 ^ n
    · exact noDiv_out n lo h.1 d h1 hd h3
    · exact noDiv_out n (lo + 2 ^ n) h.2 d (by omega) (by omega) h3
theorem q_noDiv : noDiv sQ 15 0 = true := by decide +kernel
theorem q_coprime {k : Nat} (h0 : 0 < k) (hk : k < sQ) : Nat.Coprime sQ k := by
  have hg1 : Nat.gcd sQ k ∣ sQ := Nat.gcd_dvd_left _ _
  have hg2 : Nat.gcd sQ k ≤ k := Nat.le_of_dvd h0 (Nat.gcd_dvd_right _ _)
  obtain ⟨c, hc⟩ := hg1
  unfold Nat.Coprime
  generalize Nat.gcd sQ k = g at *
  rcases Nat.lt_or_ge g 2 with hlt | hge
  · have : g ≠ 0 := by rintro rfl; rw [Nat.zero_mul] at hc; rw [sQ_eq] at hc; omega
    omega
  · exfalso
    have hc2 : 2 ≤ c := by
      rcases Nat.lt_or_ge c 2 with h | h
      · have : c = 0 ∨ c = 1 := by omega
        rcases this with rfl | rfl
        · rw [Nat.mul_zero, sQ_eq] at hc; omega
        · rw [Nat.mul_one] at hc; omega
      · exact h
    by_cases hgc : g ≤ c
    · have hs : g * g ≤ sQ := by rw [hc]; exact Nat.mul_le_mul_left g hgc
      have hlt : g < 32768 := by
        rcases Nat.lt_or_ge g 32768 with h | h
        · exact h
        · have := Nat.mul_le_mul h h
          rw [sQ_eq] at hs
          omega
      exact noDiv_out 15 0 q_noDiv g (by omega) (by omega) hge (by rw [hc]; exact Nat.mul_mod_right g c)
    · have hs : c * c ≤ sQ := by rw [hc]; exact Nat.mul_le_mul_right c (by omega)
      have hlt : c < 32768 := by
        rcases Nat.lt_or_ge c 32768 with h | h
        · exact h
        · have := Nat.mul_le_mul h h
          rw [sQ_eq] at hs
          omega
      exact noDiv_out 15 0 q_noDiv c (by omega) (by omega) hc2 (by rw [hc]; exact Nat.mul_mod_left g c)

/-- the powers that are 1: closed under the greatest common divisor -/
theorem pow_gcd (b m : Nat) : ∀ (x y : Nat), b ^ x % m = 1 % m → b ^ y % m = 1 % m → b ^ (Nat.gcd x y) % m = 1 % m := by
  intro x y
  induction x, y using Nat.gcd.induction with
  | H0 n => intro _ h; simpa using h
  | H1 x y hx ih =>
    intro h1 h2
    rw [Nat.gcd_rec]
    refine ih ?_ h1
    have e : b ^ y % m = b ^ (x * (y / x)) * b ^ (y % x) % m := by rw [← Nat.pow_add, Nat.div_add_mod]
    have e2 : b ^ (x * (y / x)) % m = 1 % m := by rw [Nat.pow_mul, Nat.pow_mod, h1, ← Nat.pow_mod, Nat.one_pow]
    rw [e, Nat.mul_mod, e2, ← Nat.mul_mod, Nat.one_mul] at h2
    exact h2
theorem g_inj_lt {a b : Nat} (hb : b < sQ) (hab : a < b) : 4 ^ a % sP ≠ 4 ^ b % sP := by
  intro h
  have h1 : 4 ^ (b - a) % sP = 1 % sP := by
    have e1 : 4 ^ b * 4 ^ (sQ - a) % sP = 4 ^ (b - a) % sP := by
      rw [← Nat.pow_add, show b + (sQ - a) = (b - a) + sQ by omega, Nat.pow_add, Nat.mul_mod, g_order, Nat.mul_one, Nat.mod_mod]
    have e2 : 4 ^ a * 4 ^ (sQ - a) % sP = 1 := by
      rw [← Nat.pow_add, show a + (sQ - a) = sQ by omega, g_order]
    rw [Nat.mul_mod, ← h, ← Nat.mul_mod, e2] at e1
    rw [← e1]
    rfl
  have h2 := pow_gcd 4 sP sQ (b - a) (by rw [g_order]; rfl) h1
  rw [q_coprime (by omega) (by omega)] at h2
  exact absurd h2 (by decide)
theorem g_inj {a b : Nat} (ha : a < sQ) (hb : b < sQ) (h : 4 ^ a % sP = 4 ^ b % sP) : a = b := by
  rcases Nat.lt_trichotomy a b with hlt | he | hgt
  · exact absurd h (g_inj_lt hb hlt)
  · exact he
  · exact absurd h.symm (g_inj_lt ha hgt)

/-- the binomial coefficients, and what is summed up with them -/
def ch : Nat → Nat → Nat
  | _, 0 => 1
  | 0, _ + 1 => 0
  | n + 1, k + 1 => ch n k + ch n (k + 1)
def bs (n a : Nat) : Nat → Nat
  | 0 => 0
  | k + 1 => bs n a k + ch n k * a ^ k
theorem bs_succ (n a k : Nat) : bs n a (k + 1) = bs n a k + ch n k * a ^ k := rfl
theorem ch_zero (n : Nat) : ch n 0 = 1 := by cases n <;> rfl
theorem ch_big : ∀ (n k : Nat), n < k → ch n k = 0
  | 0, k + 1, _ => rfl
  | n + 1, k + 1, h => by rw [ch, ch_big n k (by omega), ch_big n (k + 1) (by omega)]
theorem ch_self : ∀ (n : Nat), ch n n = 1
  | 0 => rfl
  | n + 1 => by rw [ch, ch_self n, ch_big n (n + 1) (by omega)]
theorem ch_mul : ∀ (n k : Nat), (k + 1) * ch (n + 1) (k + 1) = (n + 1) * ch n k
  | 0, 0 => by simp [ch]
  | 0, k + 1 => by simp [ch]
  | n + 1, 0 => by
    have h := ch_mul n 0
    simp only [Nat.zero_add, Nat.one_mul, ch_zero, Nat.mul_one] at h ⊢
    rw [ch, ch_zero, h]
    omega
  | n + 1, k + 1 => by
    have h1 := ch_mul n k
    have h2 := ch_mul n (k + 1)
    have e1 : ch (n + 1 + 1) (k + 1 + 1) = ch (n + 1) (k + 1) + ch (n + 1) (k + 1 + 1) := rfl
    have e2 : ch (n + 1) (k + 1) = ch n k + ch n (k + 1) := rfl
    rw [e1]
    grind
theorem bs_step (n a : Nat) : ∀ k, bs (n + 1) a (k + 1) = bs n a (k + 1) + a * bs n a k
  | 0 => by simp [bs, ch_zero]
  | k + 1 => by
    have h := bs_step n a k
    have e1 : bs (n + 1) a (k + 1 + 1) = bs (n + 1) a (k + 1) + ch (n + 1) (k + 1) * a ^ (k + 1) := rfl
    have e2 : bs n a (k + 1 + 1) = bs n a (k + 1) + ch n (k + 1) * a ^ (k + 1) := rfl
    have e3 : bs n a (k + 1) = bs n a k + ch n k * a ^ k := rfl
    have e4 : ch (n + 1) (k + 1) = ch n k + ch n (k + 1) := rfl
    have e5 : a ^ (k + 1) = a ^ k * a := Nat.pow_succ ..
    rw [e1, h, e2, e4, e3, e5]
    grind
theorem bs_pow (a : Nat) : ∀ n, (a + 1) ^ n = bs n a (n + 1)
  | 0 => by simp [bs, ch]
  | n + 1 => by
    have h := bs_pow a n
    have e : bs n a (n + 1 + 1) = bs n a (n + 1) := by
      have : bs n a (n + 1 + 1) = bs n a (n + 1) + ch n (n + 1) * a ^ (n + 1) := rfl
      rw [this, ch_big n (n + 1) (by omega), Nat.zero_mul, Nat.add_zero]
    rw [bs_step, e, Nat.pow_succ, h]
    grind
theorem ch_dvd {k : Nat} (h0 : 0 < k) (hk : k < sQ) : sQ ∣ ch sQ k := by
  obtain ⟨n, hn⟩ : ∃ n, sQ = n + 1 := ⟨1073741788, rfl⟩
  obtain ⟨j, rfl⟩ : ∃ j, k = j + 1 := ⟨k - 1, by omega⟩
  have h := ch_mul n j
  rw [← hn] at h
  exact (q_coprime h0 hk).dvd_of_dvd_mul_left ⟨_, h⟩
theorem bs_mod (a : Nat) : ∀ k, k < sQ → bs sQ a (k + 1) % sQ = 1
  | 0, _ => by
    have : bs sQ a (0 + 1) = 1 := by simp [bs, ch_zero]
    rw [this]
    decide
  | k + 1, h => by
    have e := bs_succ sQ a (k + 1)
    obtain ⟨c, hc⟩ := ch_dvd (k := k + 1) (by omega) h
    rw [e, hc, Nat.mul_assoc, Nat.add_mul_mod_self_left, bs_mod a k (by omega)]
theorem q_pos : 0 < sQ := by decide
theorem fermat0 : ∀ a : Nat, a ^ sQ % sQ = a % sQ
  | 0 => by rw [Nat.zero_pow q_pos]
  | a + 1 => by
    have h := bs_mod a (sQ - 1) (by rw [sQ_eq]; omega)
    have e := bs_succ sQ a sQ
    rw [show sQ - 1 + 1 = sQ by rw [sQ_eq]] at h
    rw [bs_pow, e, ch_self, Nat.one_mul, Nat.add_mod, h, fermat0 a, Nat.add_mod_mod, Nat.add_comm]
/-- Fermat's theorem for Q -/
theorem fermat {d : Nat} (h0 : 0 < d) (hd : d < sQ) : d ^ (sQ - 1) % sQ = 1 := by
  have h := fermat0 d
  have hc := q_coprime h0 hd
  have e : d ^ sQ = d ^ (sQ - 1) * d := by rw [← Nat.pow_succ]; congr 1
  have hp : 0 < d ^ (sQ - 1) := Nat.pow_pos h0
  have hdvd : sQ ∣ d * (d ^ (sQ - 1) - 1) := by
    have h1 : (d ^ (sQ - 1) * d) % sQ = (1 * d) % sQ := by rw [← e, h, Nat.one_mul]
    have h2 := Nat.sub_mod_eq_zero_of_mod_eq h1
    rw [← Nat.sub_mul, Nat.mul_comm] at h2
    exact Nat.dvd_of_mod_eq_zero h2
  have h3 := hc.dvd_of_dvd_mul_left hdvd
  obtain ⟨c, hc2⟩ := h3
  have e2 : d ^ (sQ - 1) = 1 + sQ * c := by omega
  rw [e2, Nat.add_mul_mod_self_left]
  decide
/-- two signatures with one number show the secret -/
theorem once_shows (sec once E F : Nat) (hs : sec < sQ) (hE : E < sQ) (hF : F < sQ) (hne : E ≠ F) :
    (((once + E * sec) % sQ + sQ - (once + F * sec) % sQ) % sQ) * (((E + sQ - F) % sQ) ^ (sQ - 2) % sQ) % sQ = sec := by
  obtain ⟨d, hd⟩ : ∃ d, d = (E + sQ - F) % sQ := ⟨_, rfl⟩
  have hdq : d < sQ := by rw [hd]; exact Nat.mod_lt _ q_pos
  have hd0 : 0 < d := by
    rw [sQ_eq] at hE hF
    rw [hd, sQ_eq]
    omega
  have hf := fermat hd0 hdq
  have e1 : ((once + E * sec) % sQ + sQ - (once + F * sec) % sQ) % sQ = d * sec % sQ := by
    have k1 := Nat.div_add_mod (once + E * sec) sQ
    have k2 := Nat.div_add_mod (once + F * sec) sQ
    have k3 := Nat.mod_lt (once + F * sec) q_pos
    have k4 : (E + sQ - F) * sec + F * sec = E * sec + sQ * sec := by rw [← Nat.add_mul, Nat.sub_add_cancel (by omega), Nat.add_mul]
    have key : ((once + E * sec) % sQ + sQ - (once + F * sec) % sQ) + sQ * ((once + E * sec) / sQ + sec) = (E + sQ - F) * sec + sQ * (1 + (once + F * sec) / sQ) := by
      rw [Nat.mul_add, Nat.mul_add, Nat.mul_one]
      omega
    have h := congrArg (· % sQ) key
    simp only [Nat.add_mul_mod_self_left] at h
    rw [h, hd, Nat.mod_mul_mod]
  rw [← hd, e1, ← Nat.mul_mod, Nat.mul_comm d sec, Nat.mul_assoc, ← Nat.pow_succ', show (sQ - 2).succ = sQ - 1 by rw [sQ_eq], Nat.mul_mod, hf, Nat.mul_one, Nat.mod_mod, Nat.mod_eq_of_lt hs]
end Go.Proofs.YtgljelkjfipefaaDoor
