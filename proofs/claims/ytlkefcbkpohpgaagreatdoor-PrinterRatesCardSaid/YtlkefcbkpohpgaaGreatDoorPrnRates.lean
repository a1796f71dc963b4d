/-
  The printer, plain: the texts of rates, with line feeds between them, are read as these rates, or are too much.
-/
import Derived.Test.YtlkefcbkpohpgaaGreatDoorQpo
import Derived.Lib.Join
namespace Go.Proofs.YtlkefcbkpohpgaaGreatDoor
set_option maxRecDepth 100000

theorem toks_more : ∀ (k line cnt m : Nat) (s : List UInt8), s.length ≤ k → (toksF line cnt s).2.1 = 2 → cnt ≤ m → m ≤ 5000 → (toksF line m s).2.1 = 2 := by
  intro k line cnt m s hk
  refine toks_cases (fun line cnt s => ∀ m, (toksF line cnt s).2.1 = 2 → cnt ≤ m → m ≤ 5000 → (toksF line m s).2.1 = 2) ?_ ?_ ?_ ?_ ?_ ?_ k line cnt s hk m
  · intro line cnt m h h1 h2
    rw [toks_nil] at h
    cases h
  · intro line cnt r ih m h h1 h2
    rw [toks_blank] at *
    exact ih m h h1 h2
  · intro line cnt r ih m h h1 h2
    rw [toks_feed] at *
    exact ih m h h1 h2
  · intro line cnt r ih m h h1 h2
    rw [toksF, if_neg (by decide), if_neg (by decide), if_pos rfl] at h ⊢
    exact ih m h h1 h2
  · intro line cnt c r g1 g2 g3 g4 m h h1 h2
    rw [toksF, if_neg g1, if_neg g2, if_neg g3] at h
    by_cases g5 : kindF ((c :: r).take (sizeF (c :: r))) = 0
    · rw [if_pos g5] at h; cases h
    · rcases g4 with g4 | g4
      · exact absurd g4 g5
      · rw [toksF, if_neg g1, if_neg g2, if_neg g3, if_neg g5, if_pos (by omega)]
  · intro line cnt c r g1 g2 g3 g4 g5 ih m h h1 h2
    rw [toksF, if_neg g1, if_neg g2, if_neg g3, if_neg g4, if_neg g5] at h
    rw [toksF, if_neg g1, if_neg g2, if_neg g3, if_neg g4]
    by_cases g6 : m = 5000
    · rw [if_pos g6]
    · rw [if_neg g6]
      by_cases g7 : (toksF line (cnt + 1) ((c :: r).drop (sizeF (c :: r)))).2.1 = 0
      · simp only [g7, if_true] at h
        cases h
      · simp only [g7, if_false] at h
        have := ih (m + 1) h (by omega) (by omega)
        simp only [this]
        rfl
/-- the tokens of a text, from so many on: these, or too many -/
def TB (N : Nat) (L : Nat → List Tok) (b : List UInt8) : Prop := ∀ line m, m ≤ 5000 → (m + N ≤ 5000 → toksF line m b = (L line, 0, 0)) ∧ (5000 < m + N → (toksF line m b).2.1 = 2)
theorem cat_toks {k : List (Nat × List UInt8)} {t b : List UInt8} {N : Nat} {L : Nat → List Tok} (hk : LxD k t) (hkl : k.length ≤ 5000) (hs : sepB b) (hb : TB N L b) (hL : ∀ line, (L line).length = N) : TB (k.length + N) (fun line => onL line k ++ L line) (t ++ b) := by
  intro line m hm
  have hon : ∀ line, (onL line k).length = k.length := fun line => by unfold onL; simp
  have run : ∀ c, c + k.length ≤ 5000 → toksF line c (t ++ b) = appF (onL line k) (toksF line (c + k.length) b) := fun c hc => hk line c b hs hc
  constructor
  · intro h
    rw [run m (by omega), ((hb line (m + k.length) (by omega)).1 (by omega))]
    unfold appF
    simp
  · intro h
    by_cases h1 : m + k.length ≤ 5000
    · have h2 := (hb line (m + k.length) h1).2 (by omega)
      rw [run m h1]
      unfold appF
      rw [if_neg (by rw [h2]; decide)]
      exact h2
    · have h0 := run 0 (by omega)
      rw [Nat.zero_add] at h0
      by_cases h2 : k.length + N ≤ 5000
      · have h3 := (hb line k.length hkl).1 h2
        rw [h3] at h0
        unfold appF at h0
        simp only [if_true] at h0
        refine toks_over _ line 0 m (t ++ b) (Nat.le_refl _) (by rw [h0]) (Nat.zero_le _) hm ?_
        rw [h0]
        simp only [List.length_append, hon, hL]
        omega
      · have h3 := (hb line k.length hkl).2 (by omega)
        refine toks_more _ line 0 m (t ++ b) (Nat.le_refl _) ?_ (Nat.zero_le _) hm
        rw [h0]
        unfold appF
        rw [if_neg (by rw [h3]; decide)]
        exact h3
/-- the tokens of a rate's text -/
structure KS (r : Rt) (k : List (Nat × List UInt8)) : Prop where
  lx : LxD k (rtT r)
  le : k.length ≤ 5000
  few : k.length ≤ (rtT r).length
  ne : ∀ line us, onL line k ++ us ≠ []
  is : ∀ line us, isT wRate (onL line k ++ us) = true
  g : ∀ line us, G (.seq rateI) (onL line k ++ us) (.ok r.list us)
theorem rt_toks {r : Rt} (h : goodR r) : ∃ k, KS r k := by
  obtain ⟨b0, b1, b2, b3, b4, b5, b6, b7, b8, v1, v2⟩ := h
  obtain ⟨o1, c1, _⟩ := valid_is v1
  obtain ⟨o2, c2, _⟩ := valid_is v2
  obtain ⟨k1, p1⟩ := pt_of r.when o1
  obtain ⟨k2, p2⟩ := pt_of r.price o2
  have q1 := pt_count p1
  have q2 := pt_count p2
  have hlx : LxD (rateK r.a0 r.a1 r.a2 r.a3 r.a4 r.a5 r.a6 r.a7 r.c k1 k2) (rtT r) := rate_lx b0 b1 b2 b3 b4 b5 b6 b7 b8 (pt_lx p1) (pt_lx p2)
  have hkl : (rateK r.a0 r.a1 r.a2 r.a3 r.a4 r.a5 r.a6 r.a7 r.c k1 k2).length ≤ 5000 := by
    unfold rateK
    simp only [List.length_append, List.length_cons, List.length_nil]
    omega
  refine ⟨_, hlx, hkl, ?_, ?_, ?_, ?_⟩
  · have h1 := toks_count 1 0 (rtT r)
    rw [lx_all hlx hkl 1] at h1
    simpa [onL] using h1
  · intro line us
    unfold rateK onL; simp
  · intro line us
    unfold rateK; rfl
  · intro line us
    exact rate_g b0 b1 b2 b3 b4 b5 b6 b7 b8 (pt_al p1).re (pt_al p2).re us
def KSs : List Rt → List (List (Nat × List UInt8)) → Prop
  | [], [] => True
  | r :: rs, k :: ks => KS r k ∧ KSs rs ks
  | _, _ => False
theorem rts_toks : ∀ (rs : List Rt), (∀ r ∈ rs, goodR r) → ∃ ks, KSs rs ks
  | [], _ => ⟨[], trivial⟩
  | r :: rs, h => by
    obtain ⟨k, hk⟩ := rt_toks (h r (by simp))
    obtain ⟨ks, hks⟩ := rts_toks rs fun x hx => h x (by simp [hx])
    exact ⟨k :: ks, hk, hks⟩
/-- the texts, joined -/
def joinT : List Rt → List UInt8
  | [] => []
  | [r] => rtT r
  | r :: s :: t => rtT r ++ 10 :: joinT (s :: t)
theorem join_is : ∀ (rs : List Rt), Lib.join (rs.map rtT) [10] = joinT rs
  | [] => rfl
  | [r] => Lib.join_one _ _
  | r :: s :: t => by
    have ih := join_is (s :: t)
    rw [List.map_cons, Lib.join_cons] at ih
    rw [List.map_cons, List.map_cons, Lib.join_cons]
    show _ = rtT r ++ 10 :: joinT (s :: t)
    rw [← ih]
    simp [Lib.joinTail]
def lineT : List (List (Nat × List UInt8)) → Nat → List Tok
  | [], _ => []
  | k :: s, line => onL line k ++ lineT s (line + 1)
def cntT : List (List (Nat × List UInt8)) → Nat
  | [] => 0
  | k :: s => k.length + cntT s
theorem line_len : ∀ (ks : List (List (Nat × List UInt8))) (line : Nat), (lineT ks line).length = cntT ks
  | [], _ => rfl
  | k :: s, line => by
    have := line_len s (line + 1)
    unfold lineT cntT
    rw [List.length_append, this]
    unfold onL
    simp
theorem tb_nil : TB 0 (fun _ => []) [] := fun line m hm => ⟨fun _ => toks_nil line m, fun h => by omega⟩
theorem tb_feed {N : Nat} {L : Nat → List Tok} {b : List UInt8} (h : TB N L b) : TB N (fun line => L (line + 1)) (10 :: b) := fun line m hm => by
  rw [toks_feed]; exact h (line + 1) m hm
theorem sep_feed (b : List UInt8) : sepB (10 :: b) := by
  rintro c r e
  cases e
  decide
theorem join_toks : ∀ (rs : List Rt) (ks : List (List (Nat × List UInt8))), KSs rs ks → TB (cntT ks) (lineT ks) (joinT rs)
  | [], [], _ => tb_nil
  | [r], [k], h => by
    have := cat_toks h.1.lx h.1.le sep_nil tb_nil (fun _ => rfl)
    rw [List.append_nil] at this
    exact this
  | [], _ :: _, h => h.elim
  | _ :: _, [], h => h.elim
  | [_], _ :: _ :: _, h => h.2.elim
  | _ :: _ :: _, [_], h => h.2.elim
  | r :: s :: t, k :: l :: m, h => cat_toks (t := rtT r) (b := 10 :: joinT (s :: t)) h.1.lx h.1.le (sep_feed _) (tb_feed (join_toks (s :: t) (l :: m) h.2)) (fun line => line_len (l :: m) (line + 1))
theorem cnt_few : ∀ (rs : List Rt) (ks : List (List (Nat × List UInt8))), KSs rs ks → cntT ks ≤ (joinT rs).length
  | [], [], _ => Nat.le_refl _
  | [r], [k], h => by have := h.1.few; simpa [cntT, joinT] using this
  | [], _ :: _, h => h.elim
  | _ :: _, [], h => h.elim
  | [_], _ :: _ :: _, h => h.2.elim
  | _ :: _ :: _, [_], h => h.2.elim
  | r :: s :: t, k :: l :: m, h => by
    have h1 := h.1.few
    have h2 := cnt_few (s :: t) (l :: m) h.2
    show k.length + cntT (l :: m) ≤ (rtT r ++ 10 :: joinT (s :: t)).length
    rw [List.length_append, List.length_cons]
    omega
theorem rr_lines : ∀ (rs : List Rt) (ks : List (List (Nat × List UInt8))), KSs rs ks → (∀ r ∈ rs, goodR r) → ∀ c line, c ≤ 100 →
    (c + rs.length ≤ 100 → RR c (lineT ks line) (.ok (rs.map Rt.list))) ∧ (100 < c + rs.length → ∃ q, RR c (lineT ks line) (.err 2 q))
  | [], [], _, _, c, line, hc => ⟨fun _ => .nil, fun h => by simp at h; omega⟩
  | [], _ :: _, h, _, _, _, _ => h.elim
  | _ :: _, [], h, _, _, _, _ => h.elim
  | r :: rs, k :: ks, h, hg, c, line, hc => by
    have v := hg r (by simp)
    have hv : validR r.list = true := by
      show (validF r.when && validF r.price) = true
      rw [v.2.2.2.2.2.2.2.2.2.1, v.2.2.2.2.2.2.2.2.2.2]; rfl
    show (_ → RR c (onL line k ++ lineT ks (line + 1)) _) ∧ (_ → ∃ q, RR c (onL line k ++ lineT ks (line + 1)) _)
    by_cases h1 : c = 100
    · exact ⟨fun h2 => by simp at h2; omega, fun _ => ⟨_, .lim (h.1.is line _) h1⟩⟩
    · obtain ⟨i1, i2⟩ := rr_lines rs ks h.2 (fun x hx => hg x (by simp [hx])) (c + 1) (line + 1) (by omega)
      refine ⟨fun h2 => ?_, fun h2 => ?_⟩
      · exact .more (h.1.ne line _) (fun h3 => h1 h3.2) (h.1.g line _) hv (i1 (by simp at h2; omega))
      · obtain ⟨q, hq⟩ := i2 (by simp at h2; omega)
        exact ⟨q, .later (h.1.ne line _) (fun h3 => h1 h3.2) (h.1.g line _) hv hq⟩
theorem rates_joined {rs : List Rt} {ls : List (List Xp)} {e n : Nat} (hg : ∀ r ∈ rs, goodR r) (h : RP (joinT rs) ls e n) :
    ((100 < rs.length ∨ 20000 < (joinT rs).length) → e = 2) ∧ (¬ 100 < rs.length → ¬ 20000 < (joinT rs).length → e = 2 → 5000 ≤ (joinT rs).length) ∧
    (¬ 100 < rs.length → ¬ 20000 < (joinT rs).length → e ≠ 2 → e = 0 ∧ n = 0 ∧ ls = rs.map Rt.list) := by
  obtain ⟨ks, hks⟩ := rts_toks rs hg
  have hc := cnt_few rs ks hks
  obtain ⟨t1, t2⟩ := join_toks rs ks hks 1 0 (by omega)
  by_cases hl : 20000 < (joinT rs).length
  · have ht : tokP (joinT rs) = ([], 2, 0) := by unfold tokP; rw [if_pos hl]
    have h2 : RP (joinT rs) [] 2 0 := by
      have := RP.lex (s := joinT rs) (by rw [ht]; decide)
      rw [ht] at this; exact this
    obtain ⟨-, rfl, -⟩ := h.det h2
    exact ⟨fun _ => rfl, fun _ h3 => absurd hl h3, fun _ h3 => absurd hl h3⟩
  · have ht0 : tokP (joinT rs) = toksF 1 0 (joinT rs) := by unfold tokP; rw [if_neg hl]
    by_cases ho : 5000 < cntT ks
    · have t3 := t2 (by omega)
      rw [← ht0] at t3
      have h2 := RP.lex (s := joinT rs) (by rw [t3]; decide)
      rw [t3] at h2
      obtain ⟨-, rfl, -⟩ := h.det h2
      exact ⟨fun _ => rfl, fun _ _ _ => by omega, fun _ _ h3 => absurd rfl h3⟩
    · have t3 := t1 (by omega)
      rw [← ht0] at t3
      obtain ⟨r1, r2⟩ := rr_lines rs ks hks hg 0 1 (by omega)
      by_cases hn : 100 < rs.length
      · obtain ⟨q, hq⟩ := r2 (by omega)
        have h2 : RP (joinT rs) [] 2 (lineAt (tokP (joinT rs)).1 q) := .err (by rw [t3]) (by rw [t3]; exact hq)
        obtain ⟨-, rfl, -⟩ := h.det h2
        exact ⟨fun _ => rfl, fun h3 => absurd hn h3, fun h3 => absurd hn h3⟩
      · have h2 : RP (joinT rs) (rs.map Rt.list) 0 0 := .ok (by rw [t3]) (by rw [t3]; exact r1 (by omega))
        obtain ⟨rfl, rfl, rfl⟩ := h.det h2
        exact ⟨fun h3 => (h3.elim hn hl).elim, fun _ _ h3 => (by cases h3), fun _ _ _ => ⟨rfl, rfl, rfl⟩⟩
end Go.Proofs.YtlkefcbkpohpgaaGreatDoor
