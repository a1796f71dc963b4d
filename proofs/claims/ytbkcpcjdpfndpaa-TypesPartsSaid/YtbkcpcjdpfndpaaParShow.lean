/-
  The parser, plain: an expression whose parts all stand in brackets is read as itself, whatever stands behind it.
-/
import Derived.Test.YtbkcpcjdpfndpaaParMath
namespace Go.Proofs.Ytbkcpcjdpfndpaa

variable {ts r us A B C L : List Tok} {x y z : Tok} {a : Res} {e : Xp}
theorem g_aNum (hx : x.k = 2) : G .atom (x :: r) (.ok [leafE 1 (cents x.t)] r) := g_mk0 fun _ => by simp only [stepP]; rw [if_pos hx]
theorem g_aMon (hx : x.k = 3) : G .atom (x :: r) (.ok [leafE 2 (cents x.t)] r) := g_mk0 fun _ => by simp only [stepP]; rw [if_neg (by omega), if_pos hx]
theorem g_aVar (h2 : x.k ≠ 2) (h3 : x.k ≠ 3) (hx : varF x.t ≠ 0) : G .atom (x :: r) (.ok [leafE 3 (varF x.t)] r) := g_mk0 fun _ => by simp only [stepP]; rw [if_neg h2, if_neg h3, if_pos hx]
theorem g_aMin {l : List Xp} {r2 : List Tok} (h2 : x.k ≠ 2) (h3 : x.k ≠ 3) (hx : x.t = wMin) (h : G (.seq twoI) r (.ok l r2)) : G .atom (x :: r) (.ok [nodeE 8 l] r2) := g_mk1 h fun rec hr => by
  simp only [stepP]; rw [if_neg h2, if_neg h3, if_neg (by rw [hx]; decide), if_pos hx, after_mk hr]
theorem g_aMinBad {r2 : List Tok} (h2 : x.k ≠ 2) (h3 : x.k ≠ 3) (hx : x.t = wMin) (h : G (.seq twoI) r (.bad r2)) : G .atom (x :: r) (.bad r2) := g_mk1 h fun rec hr => by
  simp only [stepP]; rw [if_neg h2, if_neg h3, if_neg (by rw [hx]; decide), if_pos hx, hr]; rfl
theorem g_aMax {l : List Xp} {r2 : List Tok} (h2 : x.k ≠ 2) (h3 : x.k ≠ 3) (hx : x.t = wMax) (h : G (.seq twoI) r (.ok l r2)) : G .atom (x :: r) (.ok [nodeE 9 l] r2) := g_mk1 h fun rec hr => by
  simp only [stepP]; rw [if_neg h2, if_neg h3, if_neg (by rw [hx]; decide), if_neg (by rw [hx]; decide), if_pos hx, after_mk hr]
theorem g_aMaxBad {r2 : List Tok} (h2 : x.k ≠ 2) (h3 : x.k ≠ 3) (hx : x.t = wMax) (h : G (.seq twoI) r (.bad r2)) : G .atom (x :: r) (.bad r2) := g_mk1 h fun rec hr => by
  simp only [stepP]; rw [if_neg h2, if_neg h3, if_neg (by rw [hx]; decide), if_neg (by rw [hx]; decide), if_pos hx, hr]; rfl
theorem g_aOpen (h2 : x.k ≠ 2) (h3 : x.k ≠ 3) (hx : x.t = wOpen) (h : G (.seq brI) r a) : G .atom (x :: r) a := g_mk1 h fun rec hr => by
  simp only [stepP]; rw [if_neg h2, if_neg h3, if_neg (by rw [hx]; decide), if_neg (by rw [hx]; decide), if_neg (by rw [hx]; decide), if_pos hx]; exact hr
theorem g_aBad (h2 : x.k ≠ 2) (h3 : x.k ≠ 3) (hv : varF x.t = 0) (h4 : x.t ≠ wMin) (h5 : x.t ≠ wMax) (h6 : x.t ≠ wOpen) : G .atom (x :: r) (.bad (x :: r)) := g_mk0 fun _ => by
  simp only [stepP]; rw [if_neg h2, if_neg h3, if_neg (by rw [hv]; decide), if_neg h4, if_neg h5, if_neg h6]
theorem g_aEnd : G .atom [] (.bad []) := g_mk0 fun _ => rfl

theorem opF_cons (n : Nat) : opL n (x :: r) = if n = 1 ∧ x.t = wOr then 14 else if n = 2 ∧ x.t = wAnd then 13 else if n = 3 ∧ x.t = [60] then 11 else if n = 3 ∧ x.t = [61] then 12
    else if n = 4 ∧ x.t = [43] then 4 else if n = 4 ∧ x.t = [45] then 5 else if n = 5 ∧ x.t = [42] then 6 else if n = 5 ∧ x.t = [47] then 7 else 0 := rfl
/-- from a level to a lower one, if no operator follows -/
theorem g_down {m : Nat} (h : G (.lvl m) ts (.ok [e] r)) (hn : isT wNot ts = false) : ∀ k n, n + k = m → m ≤ 6 → (∀ j, n ≤ j → j < m → opL j r = 0) → G (.lvl n) ts (.ok [e] r)
  | 0, n, hk, _, _ => by obtain rfl : n = m := by omega
                         exact h
  | k + 1, n, hk, hm, hj => by
    have ih := g_down h hn k (n + 1) (by omega) hm (fun j h1 h2 => hj j (by omega) h2)
    exact g_lvl (by omega) (fun _ => hn) ih (g_end (hj n (Nat.le_refl _) (by omega)))
theorem g_lev {n : Nat} (h : G .atom ts (.ok [e] r)) (hn : isT wNot ts = false) (hn6 : n ≤ 6) (hj : ∀ j, n ≤ j → opL j r = 0) : G (.lvl n) ts (.ok [e] r) :=
  g_down (g_atom (n := 6) (by decide) h) hn (6 - n) n (by omega) (Nat.le_refl _) (fun j h1 _ => hj j h1)
theorem g_expr (h : G .atom ts (.ok [e] r)) (hn : isT wNot ts = false) (hi : isT wIf ts = false) (hj : stopT r) : G .expr ts (.ok [e] r) := g_any hi (g_lev h hn (by omega) (fun j _ => hj j))
theorem stop_text (h : x.t = wShut ∨ x.t = wComma ∨ x.t = wThen ∨ x.t = wElse) : stopT (x :: r) := by
  intro n
  rcases h with h | h | h | h <;> rw [opF_cons, h] <;> simp [wShut, wComma, wThen, wElse, wOr, wAnd]
/-- an operator: its level, the node's Op -/
inductive OpT : Tok → Nat → Nat → Prop where
  | or {x : Tok} : x.t = wOr → OpT x 1 14
  | and {x : Tok} : x.t = wAnd → OpT x 2 13
  | less {x : Tok} : x.t = [60] → OpT x 3 11
  | equal {x : Tok} : x.t = [61] → OpT x 3 12
  | add {x : Tok} : x.t = [43] → OpT x 4 4
  | sub {x : Tok} : x.t = [45] → OpT x 4 5
  | mul {x : Tok} : x.t = [42] → OpT x 5 6
  | div {x : Tok} : x.t = [47] → OpT x 5 7
theorem OpT.op {n o : Nat} (h : OpT x n o) : opL n (x :: r) = o := by
  cases h with
  | or h => rw [opF_cons, h]; rfl
  | and h => rw [opF_cons, h]; rfl
  | less h => rw [opF_cons, h]; rfl
  | equal h => rw [opF_cons, h]; rfl
  | add h => rw [opF_cons, h]; rfl
  | sub h => rw [opF_cons, h]; rfl
  | mul h => rw [opF_cons, h]; rfl
  | div h => rw [opF_cons, h]; rfl
theorem OpT.other {n o : Nat} (h : OpT x n o) {m : Nat} (hm : m ≠ n) : opL m (x :: r) = 0 := by
  cases h with
  | or h => rw [opF_cons, h]; simp [wOr, wAnd, hm]
  | and h => rw [opF_cons, h]; simp [wOr, wAnd, hm]
  | less h => rw [opF_cons, h]; simp [wOr, wAnd, hm]
  | equal h => rw [opF_cons, h]; simp [wOr, wAnd, hm]
  | add h => rw [opF_cons, h]; simp [wOr, wAnd, hm]
  | sub h => rw [opF_cons, h]; simp [wOr, wAnd, hm]
  | mul h => rw [opF_cons, h]; simp [wOr, wAnd, hm]
  | div h => rw [opF_cons, h]; simp [wOr, wAnd, hm]
theorem OpT.pos {n o : Nat} (h : OpT x n o) : o ≠ 0 ∧ 1 ≤ n ∧ n ≤ 5 := by cases h <;> decide

/-- the tokens of an expression all parts of which stand in brackets -/
inductive Sh : Xp → List Tok → Prop where
  | num {x : Tok} {n : Nat} : x.k = 2 → cents x.t = n → x.t ≠ wIf → x.t ≠ wNot → Sh (leafE 1 n) [x]
  | mon {x : Tok} {n : Nat} : x.k = 3 → cents x.t = n → x.t ≠ wIf → x.t ≠ wNot → Sh (leafE 2 n) [x]
  | var {x : Tok} {n : Nat} : x.k = 1 → varF x.t = n → n ≠ 0 → Sh (leafE 3 n) [x]
  | min {x y z u : Tok} {a b : Xp} {A B : List Tok} : x.k = 1 → x.t = wMin → y.t = wOpen → z.t = wComma → u.t = wShut → Sh a A → Sh b B → Sh (nodeE 8 [a, b]) (x :: y :: (A ++ z :: (B ++ [u])))
  | max {x y z u : Tok} {a b : Xp} {A B : List Tok} : x.k = 1 → x.t = wMax → y.t = wOpen → z.t = wComma → u.t = wShut → Sh a A → Sh b B → Sh (nodeE 9 [a, b]) (x :: y :: (A ++ z :: (B ++ [u])))
  | ite {x y z u v : Tok} {a b c : Xp} {A B C : List Tok} : x.k = 4 → x.t = wOpen → y.t = wIf → z.t = wThen → u.t = wElse → v.t = wShut → Sh a A → Sh b B → Sh c C → Sh (nodeE 10 [a, b, c]) (x :: y :: (A ++ z :: (B ++ u :: (C ++ [v]))))
  | not {x y z : Tok} {a : Xp} {A : List Tok} : x.k = 4 → x.t = wOpen → y.t = wNot → z.t = wShut → Sh a A → Sh (nodeE 15 [a]) (x :: y :: (A ++ [z]))
  | two {x y z : Tok} {n o : Nat} {a b : Xp} {A B : List Tok} : x.k = 4 → x.t = wOpen → OpT y n o → z.t = wShut → Sh a A → Sh b B → Sh (nodeE o [a, b]) (x :: (A ++ y :: (B ++ [z])))
theorem Sh.first (h : Sh e A) : isT wNot (A ++ us) = false ∧ isT wIf (A ++ us) = false := by
  have key : ∀ {x : Tok} {t : List Tok}, x.t ≠ wNot → x.t ≠ wIf → isT wNot (x :: t) = false ∧ isT wIf (x :: t) = false := by
    intro x t h1 h2; exact ⟨beq_eq_false_iff_ne.2 h1, beq_eq_false_iff_ne.2 h2⟩
  cases h with
  | num _ _ h1 h2 => exact key h2 h1
  | mon _ _ h1 h2 => exact key h2 h1
  | var _ hv h0 =>
    refine key ?_ ?_
    · intro e; rw [e] at hv; exact h0 (hv.symm.trans (by decide))
    · intro e; rw [e] at hv; exact h0 (hv.symm.trans (by decide))
  | min _ h _ _ _ _ _ => exact key (by rw [h]; decide) (by rw [h]; decide)
  | max _ h _ _ _ _ _ => exact key (by rw [h]; decide) (by rw [h]; decide)
  | ite _ h _ _ _ _ _ _ _ => exact key (by rw [h]; decide) (by rw [h]; decide)
  | not _ h _ _ _ => exact key (by rw [h]; decide) (by rw [h]; decide)
  | two _ h _ _ _ _ => exact key (by rw [h]; decide) (by rw [h]; decide)
theorem g_binary {n o : Nat} {a b : Xp} (hy : OpT y n o) (ha : G .atom ts (.ok [a] (y :: L))) (hn : isT wNot ts = false) (hb : G .atom L (.ok [b] r)) (hn2 : isT wNot L = false) (hr : stopT r) :
    G (.lvl n) ts (.ok [nodeE o [a, b]] r) := by
  obtain ⟨h0, h1, h5⟩ := hy.pos
  have hA : G (.lvl (n + 1)) ts (.ok [a] (y :: L)) := g_lev ha hn (by omega) (fun j hj => hy.other (by omega))
  have hB : G (.lvl (n + 1)) L (.ok [b] r) := g_lev hb hn2 (by omega) (fun j _ => hr j)
  have ho : opL n (y :: L) = o := hy.op
  refine g_lvl h5 (fun _ => hn) hA ?_
  by_cases h3 : n = 3
  · subst h3
    have := g_one (e := a) (by rw [ho]; exact h0) hB
    rw [ho] at this; exact this
  · refine g_more (by rw [ho]; exact h0) h3 hB ?_
    rw [ho]; exact g_end (hr n)
theorem sh_read : ∀ {e : Xp} {A : List Tok}, Sh e A → ∀ us, G .atom (A ++ us) (.ok [e] us) := by
  intro e A h
  have ex : ∀ {e : Xp} {A : List Tok}, Sh e A → (∀ us, G .atom (A ++ us) (.ok [e] us)) → ∀ us, stopT us → G .expr (A ++ us) (.ok [e] us) :=
    fun h ih us hs => g_expr (ih us) h.first.1 h.first.2 hs
  have two : ∀ {y z u : Tok} {a b : Xp} {A B : List Tok}, y.t = wOpen → z.t = wComma → u.t = wShut → Sh a A → Sh b B → (∀ us, G .atom (A ++ us) (.ok [a] us)) → (∀ us, G .atom (B ++ us) (.ok [b] us)) →
      ∀ us, G (.seq twoI) (y :: (A ++ z :: (B ++ [u])) ++ us) (.ok [a, b] us) := by
    intro y z u a b A B hy hz hu hA hB ia ib us
    have e : y :: (A ++ z :: (B ++ [u])) ++ us = y :: (A ++ z :: (B ++ u :: us)) := by simp
    rw [e]
    exact g_lit hy (g_ex (es := [a]) (ex hA ia _ (stop_text (.inr (.inl hz)))) (g_lit hz (g_ex (es := [b]) (ex hB ib _ (stop_text (.inl hu))) (g_lit hu g_nil))))
  induction h with
  | num hk hc _ _ => intro us; subst hc; exact g_aNum hk
  | mon hk hc _ _ => intro us; subst hc; exact g_aMon hk
  | var hk hv h0 => intro us; subst hv; exact g_aVar (by omega) (by omega) h0
  | min hk hx hy hz hu hA hB ia ib => intro us; exact g_aMin (by omega) (by omega) hx (two hy hz hu hA hB ia ib us)
  | max hk hx hy hz hu hA hB ia ib => intro us; exact g_aMax (by omega) (by omega) hx (two hy hz hu hA hB ia ib us)
  | @ite x y z u v a b c A B C hk hx hy hz hu hv hA hB hC ia ib ic =>
    intro us
    have e : x :: y :: (A ++ z :: (B ++ u :: (C ++ [v]))) ++ us = x :: y :: (A ++ z :: (B ++ u :: (C ++ v :: us))) := by simp
    rw [e]
    refine g_aOpen (by omega) (by omega) hx (g_ex (es := [nodeE 10 [a, b, c]]) (l := []) (r := v :: us) ?_ (g_lit hv g_nil))
    exact g_if hy (g_ex (es := [a]) (ex hA ia _ (stop_text (.inr (.inr (.inl hz))))) (g_lit hz (g_ex (es := [b]) (ex hB ib _ (stop_text (.inr (.inr (.inr hu))))) (g_lit hu (g_ex (es := [c]) (ex hC ic _ (stop_text (.inl hv))) g_nil)))))
  | @not x y z a A hk hx hy hz hA ia =>
    intro us
    have e : x :: y :: (A ++ [z]) ++ us = x :: y :: (A ++ z :: us) := by simp
    rw [e]
    refine g_aOpen (by omega) (by omega) hx (g_ex (es := [nodeE 15 [a]]) (l := []) (r := z :: us) ?_ (g_lit hz g_nil))
    have hs : stopT (z :: us) := stop_text (.inl hz)
    have h3 : G (.lvl 3) (y :: (A ++ z :: us)) (.ok [nodeE 15 [a]] (z :: us)) := g_not hy (g_lev (ia _) hA.first.1 (by omega) (fun j _ => hs j))
    have h2 : G (.lvl 2) (y :: (A ++ z :: us)) (.ok [nodeE 15 [a]] (z :: us)) := g_lvl (by omega) (fun h => by cases h) h3 (g_end (hs 2))
    have h1 : G (.lvl 1) (y :: (A ++ z :: us)) (.ok [nodeE 15 [a]] (z :: us)) := g_lvl (by omega) (fun h => by cases h) h2 (g_end (hs 1))
    exact g_any (by show (y.t == wIf) = false; rw [hy]; decide) h1
  | @two x y z n o a b A B hk hx hy hz hA hB ia ib =>
    intro us
    have e : x :: (A ++ y :: (B ++ [z])) ++ us = x :: (A ++ y :: (B ++ z :: us)) := by simp
    rw [e]
    refine g_aOpen (by omega) (by omega) hx (g_ex (es := [nodeE o [a, b]]) (l := []) (r := z :: us) ?_ (g_lit hz g_nil))
    have hs : stopT (z :: us) := stop_text (.inl hz)
    have hb := g_binary hy (ia _) hA.first.1 (ib (z :: us)) hB.first.1 hs
    obtain ⟨_, h1, h5⟩ := hy.pos
    exact g_any hA.first.2 (g_down hb hA.first.1 (n - 1) 1 (by omega) (by omega) (fun j _ _ => hs j))
end Go.Proofs.Ytbkcpcjdpfndpaa
