/-
  The printer, plain: the text of an expression, with as few brackets as may be; it is read as this expression.
-/
import Derived.Test.YtlkefcbkpohpgaaDoorParPrec
import Derived.Test.YtlkefcbkpohpgaaDoorParTxt
namespace Go.Proofs.YtlkefcbkpohpgaaDoor

def rankO (o : Int) : Nat :=
  if o = 10 then 0 else if o = 14 then 1 else if o = 13 then 2 else if o = 15 then 3 else if o = 11 then 4 else if o = 12 then 4 else if o = 4 then 5 else if o = 5 then 5 else if o = 6 then 6 else if o = 7 then 6 else 7
def opE : Xp → Int
  | .mk o _ _ => o
def rankE (e : Xp) : Nat := rankO (opE e)
/-- the least rank that the i-th of the kids has without brackets -/
def leastO (o : Int) (i : Nat) : Nat := if rankO o = 0 then 0 else if rankO o = 7 then 0 else if rankO o = 3 then 3 else if rankO o = 4 then 5 else rankO o + i
def lowE (o : Int) (i : Nat) (e : Xp) : Bool := decide (rankE e < leastO o i)
def brkS (b : Bool) (s : List UInt8) : List UInt8 := if b then 40 :: (s ++ [41]) else s
def brkK (b : Bool) (k : List (Nat × List UInt8)) : List (Nat × List UInt8) := if b then (4, [40]) :: (k ++ [(4, [41])]) else k
def varT (n : Int) : List UInt8 :=
  if n = 1 then [110, 105, 103, 104, 116, 115] else if n = 2 then [112, 101, 114, 115, 111, 110, 115] else if n = 3 then [110, 105, 103, 104, 116] else [119, 101, 101, 107, 100, 97, 121]
def sgnO (o : Int) : List UInt8 :=
  if o = 14 then wOr else if o = 13 then wAnd else if o = 11 then [60] else if o = 12 then [61] else if o = 4 then [43] else if o = 5 then [45] else if o = 6 then [42] else [47]
def shapeT (o n : Int) (l : List (List UInt8)) : List UInt8 :=
  if o = 1 then Lib.decDigits n.toNat else if o = 2 then monT n.toNat else if o = 3 then varT n
  else if o = 8 then wMin ++ 40 :: (l.getD 0 [] ++ 44 :: 32 :: (l.getD 1 [] ++ [41])) else if o = 9 then wMax ++ 40 :: (l.getD 0 [] ++ 44 :: 32 :: (l.getD 1 [] ++ [41]))
  else if o = 10 then wIf ++ 32 :: (l.getD 0 [] ++ 32 :: (wThen ++ 32 :: (l.getD 1 [] ++ 32 :: (wElse ++ 32 :: l.getD 2 []))))
  else if o = 15 then wNot ++ 32 :: l.getD 0 []
  else l.getD 0 [] ++ 32 :: (sgnO o ++ 32 :: l.getD 1 [])
mutual
def txtE : Xp → List UInt8
  | .mk o n l => shapeT o n (txtL o 0 l)
def txtL (o : Int) : Nat → List Xp → List (List UInt8)
  | _, [] => []
  | i, e :: r => brkS (lowE o i e) (txtE e) :: txtL o (i + 1) r
end
theorem txtE_mk (o n : Int) (l : List Xp) : txtE (.mk o n l) = shapeT o n (txtL o 0 l) := by rw [txtE]
theorem txtL_nil (o : Int) (i : Nat) : txtL o i [] = [] := by rw [txtL]
theorem txtL_cons (o : Int) (i : Nat) (e : Xp) (r : List Xp) : txtL o i (e :: r) = brkS (lowE o i e) (txtE e) :: txtL o (i + 1) r := by rw [txtL]

/-- an expression, its text, the kinds and texts of its tokens -/
inductive Pt : Xp → List UInt8 → List (Nat × List UInt8) → Prop where
  | num {t : List UInt8} {n : Nat} : kindF t = 2 → cents t = n → Pt (leafE 1 n) t [(2, t)]
  | mon {t : List UInt8} {n : Nat} : kindF t = 3 → cents t = n → Pt (leafE 2 n) t [(3, t)]
  | var {t : List UInt8} {n : Nat} : kindF t = 1 → varF t = n → n ≠ 0 → Pt (leafE 3 n) t [(1, t)]
  | min {a b : Xp} {s t : List UInt8} {k l : List (Nat × List UInt8)} : Pt a s k → Pt b t l → Pt (nodeE 8 [a, b]) (wMin ++ 40 :: (s ++ 44 :: 32 :: (t ++ [41]))) ((1, wMin) :: (4, [40]) :: (k ++ (4, [44]) :: (l ++ [(4, [41])])))
  | max {a b : Xp} {s t : List UInt8} {k l : List (Nat × List UInt8)} : Pt a s k → Pt b t l → Pt (nodeE 9 [a, b]) (wMax ++ 40 :: (s ++ 44 :: 32 :: (t ++ [41]))) ((1, wMax) :: (4, [40]) :: (k ++ (4, [44]) :: (l ++ [(4, [41])])))
  | ite {a b c : Xp} {s t u : List UInt8} {k l m : List (Nat × List UInt8)} : Pt a s k → Pt b t l → Pt c u m →
      Pt (nodeE 10 [a, b, c]) (wIf ++ 32 :: (s ++ 32 :: (wThen ++ 32 :: (t ++ 32 :: (wElse ++ 32 :: u))))) ((1, wIf) :: (k ++ (1, wThen) :: (l ++ (1, wElse) :: m)))
  | not {a : Xp} {s : List UInt8} {k : List (Nat × List UInt8)} : Pt a s k → Pt (nodeE 15 [a]) (wNot ++ 32 :: brkS (lowE 15 0 a) s) ((1, wNot) :: brkK (lowE 15 0 a) k)
  | two {a b : Xp} {s t w : List UInt8} {k l : List (Nat × List UInt8)} {q n o : Nat} : Pt a s k → OpW w q n o → Pt b t l →
      Pt (nodeE o [a, b]) (brkS (lowE o 0 a) s ++ 32 :: (w ++ 32 :: brkS (lowE o 1 b) t)) (brkK (lowE o 0 a) k ++ (q, w) :: brkK (lowE o 1 b) l)

/-! ### Read as tokens -/
theorem lxp_in {k l : List (Nat × List UInt8)} {s t : List UInt8} (h : LxD k s) (h2 : LxD l t) : LxD (k ++ l) (s ++ 32 :: t) := fun line cnt b hb hc => by
  rw [List.length_append] at hc
  rw [List.append_assoc, h line cnt (32 :: t ++ b) (fun d r e => by cases e; decide) (by omega), List.cons_append, toks_blank, h2 line _ b hb (by omega), app_app, List.length_append, Nat.add_assoc]
  unfold onL; rw [List.map_append]
theorem lxp_op {k l : List (Nat × List UInt8)} {s t w : List UInt8} {q n o : Nat} (h : LxD k s) (hw : OpW w q n o) (h2 : LxD l t) : LxD (k ++ (q, w) :: l) (s ++ 32 :: (w ++ 32 :: t)) := lxp_in h (lxp_in hw.lx h2)
theorem lx_brk {b : Bool} {k : List (Nat × List UInt8)} {s : List UInt8} (h : LxD k s) : LxD (brkK b k) (brkS b s) := by
  unfold brkK brkS
  split
  · exact (lx_open (lx_shut h)).d
  · exact h
theorem pt_lx {e : Xp} {s : List UInt8} {k : List (Nat × List UInt8)} (h : Pt e s k) : LxD k s := by
  induction h with
  | num hk _ => exact lx_word hk (by decide)
  | mon hk _ => exact lx_word hk (by decide)
  | var hk _ _ => exact lx_word hk (by decide)
  | min _ _ ia ib =>
    exact (lx_then (k1 := [(1, wMin)]) (lx_word (by decide) (by decide)) (lx_open (lx_comma ia (lx_shut ib))) (by decide)).d
  | max _ _ ia ib =>
    exact (lx_then (k1 := [(1, wMax)]) (lx_word (by decide) (by decide)) (lx_open (lx_comma ia (lx_shut ib))) (by decide)).d
  | ite _ _ _ ia ib ic =>
    exact lxp_in (k := [(1, wIf)]) (lx_word (by decide) (by decide)) (lxp_in ia (lxp_in (k := [(1, wThen)]) (lx_word (by decide) (by decide)) (lxp_in ib (lxp_in (k := [(1, wElse)]) (lx_word (by decide) (by decide)) ic))))
  | not _ ia => exact lxp_in (k := [(1, wNot)]) (lx_word (by decide) (by decide)) (lx_brk ia)
  | two _ hw _ ia ib => exact lxp_op (lx_brk ia) hw (lx_brk ib)

/-! ### Read as an expression -/
/-- read as the first one of a chain on a level -/
def Ch (n : Nat) (e : Xp) (A : List Tok) : Prop := ∀ us a, Cl (n + 1) us → G (.tail n e) us a → G (.lvl n) (A ++ us) a
def Nif (A : List Tok) : Prop := ∀ us, isT wIf (A ++ us) = false
theorem ch_of {n : Nat} {e : Xp} {A : List Tok} (hn : n ≠ 3) (h5 : n ≤ 5) (h : Rd (n + 1) e A) : Ch n e A := fun us _ hc ha => g_lvl h5 (fun h => absurd h hn) (h us hc) ha
theorem rd_of {n : Nat} {e : Xp} {A : List Tok} (h : Ch n e A) : Rd n e A := fun us hc => h us _ (hc.mono (by omega)) (g_end (hc n (Nat.le_refl _)))
theorem ch_two {n o : Nat} {a b : Xp} {y : Tok} {A B : List Tok} (hy : OpT y n o) (hn : n ≠ 3) (ha : Ch n a A) (hb : Rd (n + 1) b B) : Ch n (nodeE o [a, b]) (A ++ y :: B) := fun us r hc hr => by
  have e : A ++ y :: B ++ us = A ++ y :: (B ++ us) := by simp
  rw [e]
  have ho : opL n (y :: (B ++ us)) = o := hy.op
  refine ha _ _ (fun j hj => hy.other (by omega)) ?_
  refine g_more (by rw [ho]; exact hy.pos.1) hn (hb _ hc) ?_
  rw [ho]; exact hr
/-- all that may be read, by the rank -/
structure Al (r : Nat) (e : Xp) (A : List Tok) : Prop where
  re : Re e A
  nif : 1 ≤ r → Nif A
  c1 : 1 ≤ r → Ch 1 e A
  c2 : 2 ≤ r → Ch 2 e A
  r3 : 3 ≤ r → Rd 3 e A
  nn : 4 ≤ r → Nn A
  c4 : 5 ≤ r → Ch 4 e A
  c5 : 6 ≤ r → Ch 5 e A
  r6 : 7 ≤ r → Rd 6 e A
theorem al1 {e : Xp} {A : List Tok} (hi : Nif A) (h : Ch 1 e A) : Al 1 e A :=
  ⟨re_of (rd_of h) hi, fun _ => hi, fun _ => h, fun h => by omega, fun h => by omega, fun h => by omega, fun h => by omega, fun h => by omega, fun h => by omega⟩
theorem al2 {e : Xp} {A : List Tok} (hi : Nif A) (h : Ch 2 e A) : Al 2 e A :=
  have h1 := al1 hi (ch_of (by decide) (by decide) (rd_of h))
  ⟨h1.re, fun _ => hi, fun _ => h1.c1 (by decide), fun _ => h, fun h => by omega, fun h => by omega, fun h => by omega, fun h => by omega, fun h => by omega⟩
theorem al3 {e : Xp} {A : List Tok} (hi : Nif A) (h : Rd 3 e A) : Al 3 e A :=
  have h1 := al2 hi (ch_of (by decide) (by decide) h)
  ⟨h1.re, fun _ => hi, fun _ => h1.c1 (by decide), fun _ => h1.c2 (by decide), fun _ => h, fun h => by omega, fun h => by omega, fun h => by omega, fun h => by omega⟩
theorem al4 {e : Xp} {A : List Tok} (hi : Nif A) (hn : Nn A) (h : Rd 3 e A) : Al 4 e A :=
  have h1 := al3 hi h
  ⟨h1.re, fun _ => hi, fun _ => h1.c1 (by decide), fun _ => h1.c2 (by decide), fun _ => h, fun _ => hn, fun h => by omega, fun h => by omega, fun h => by omega⟩
theorem al5 {e : Xp} {A : List Tok} (hi : Nif A) (hn : Nn A) (h : Ch 4 e A) : Al 5 e A :=
  have h1 := al4 hi hn (rd_down3 (rd_of h) hn)
  ⟨h1.re, fun _ => hi, fun _ => h1.c1 (by decide), fun _ => h1.c2 (by decide), fun _ => h1.r3 (by decide), fun _ => hn, fun _ => h, fun h => by omega, fun h => by omega⟩
theorem al6 {e : Xp} {A : List Tok} (hi : Nif A) (hn : Nn A) (h : Ch 5 e A) : Al 6 e A :=
  have h1 := al5 hi hn (ch_of (by decide) (by decide) (rd_of h))
  ⟨h1.re, fun _ => hi, fun _ => h1.c1 (by decide), fun _ => h1.c2 (by decide), fun _ => h1.r3 (by decide), fun _ => hn, fun _ => h1.c4 (by decide), fun _ => h, fun h => by omega⟩
theorem al7 {e : Xp} {A : List Tok} (hi : Nif A) (hn : Nn A) (h : ∀ us, G .atom (A ++ us) (.ok [e] us)) : Al 7 e A :=
  have h6 : Rd 6 e A := fun us _ => g_atom (n := 6) (by decide) (h us)
  have h1 := al6 hi hn (ch_of (by decide) (by decide) h6)
  ⟨h1.re, fun _ => hi, fun _ => h1.c1 (by decide), fun _ => h1.c2 (by decide), fun _ => h1.r3 (by decide), fun _ => hn, fun _ => h1.c4 (by decide), fun _ => h1.c5 (by decide), fun _ => h6⟩
theorem al0 {e : Xp} {A : List Tok} (h : Re e A) : Al 0 e A :=
  ⟨h, fun h => by omega, fun h => by omega, fun h => by omega, fun h => by omega, fun h => by omega, fun h => by omega, fun h => by omega, fun h => by omega⟩
theorem nif_app {A B : List Tok} (h : Nif A) : Nif (A ++ B) := fun us => by rw [List.append_assoc]; exact h _
theorem tk_nn {k n : Nat} {t : List UInt8} {A : List Tok} (h : t ≠ wNot) : Nn (⟨k, n, t⟩ :: A) := fun _ => beq_eq_false_iff_ne.2 h
theorem tk_nif {k n : Nat} {t : List UInt8} {A : List Tok} (h : t ≠ wIf) : Nif (⟨k, n, t⟩ :: A) := fun _ => beq_eq_false_iff_ne.2 h
theorem first_nn {x : Tok} {A : List Tok} (h : x.t ≠ wNot) : Nn (x :: A) := fun _ => beq_eq_false_iff_ne.2 h
theorem first_nif {x : Tok} {A : List Tok} (h : x.t ≠ wIf) : Nif (x :: A) := fun _ => beq_eq_false_iff_ne.2 h
/-- in brackets, or not: with a rank that suffices -/
theorem al_brk {line r m : Nat} {e : Xp} {k : List (Nat × List UInt8)} (h : Al r e (onL line k)) (hm : m ≤ 7) : ∃ r2, m ≤ r2 ∧ Al r2 e (onL line (brkK (decide (r < m)) k)) := by
  by_cases hr : r < m
  · rw [decide_eq_true hr]
    refine ⟨7, hm, ?_⟩
    unfold brkK
    rw [if_pos rfl, onL_cons, onL_app, onL_cons]
    refine al7 (tk_nif (by decide)) (tk_nn (by decide)) (fun us => ?_)
    have e : ∀ x y : Tok, x :: (onL line k ++ y :: onL line []) ++ us = x :: (onL line k ++ y :: us) := by intro x y; simp [onL]
    rw [e]
    exact g_aOpen (show (4 : Nat) ≠ 2 by decide) (show (4 : Nat) ≠ 3 by decide) rfl (g_ex (es := [_]) (l := []) (h.re _ (stop_text (.inl rfl))) (g_lit rfl g_nil))
  · rw [decide_eq_false hr]
    exact ⟨r, by omega, h⟩
theorem rank_leaf {o : Int} (n : Int) (h : o = 1 ∨ o = 2 ∨ o = 3) : rankE (leafE o n) = 7 := by rcases h with rfl | rfl | rfl <;> rfl
theorem pt_al {line : Nat} {e : Xp} {s : List UInt8} {k : List (Nat × List UInt8)} (h : Pt e s k) : Al (rankE e) e (onL line k) := by
  have ne : ∀ {t w : List UInt8} {q : Nat}, kindF t = q → kindF w ≠ q → t ≠ w := by rintro t w q h1 h2 rfl; exact h2 h1
  have two : ∀ {a b : Xp} {k l : List (Nat × List UInt8)}, Re a (onL line k) → Re b (onL line l) → ∀ us : List Tok, G (.seq twoI) (⟨4, line, [40]⟩ :: (onL line k ++ ⟨4, line, [44]⟩ :: (onL line l ++ [⟨4, line, [41]⟩])) ++ us) (.ok [a, b] us) := by
    intro a b k l ia ib us
    have e : (⟨4, line, [40]⟩ : Tok) :: (onL line k ++ ⟨4, line, [44]⟩ :: (onL line l ++ [⟨4, line, [41]⟩])) ++ us = ⟨4, line, [40]⟩ :: (onL line k ++ ⟨4, line, [44]⟩ :: (onL line l ++ ⟨4, line, [41]⟩ :: us)) := by simp
    rw [e]
    exact g_lit rfl (g_ex (es := [a]) (ia _ (stop_text (.inr (.inl rfl)))) (g_lit rfl (g_ex (es := [b]) (ib _ (stop_text (.inl rfl))) (g_lit rfl g_nil))))
  induction h with
  | num hk hc => rw [rank_leaf _ (.inl rfl)]; subst hc; exact al7 (first_nif (ne hk (by decide))) (first_nn (ne hk (by decide))) (fun us => g_aNum rfl)
  | mon hk hc => rw [rank_leaf _ (.inr (.inl rfl))]; subst hc; exact al7 (first_nif (ne hk (by decide))) (first_nn (ne hk (by decide))) (fun us => g_aMon rfl)
  | @var t n hk hv h0 =>
    rw [rank_leaf _ (.inr (.inr rfl))]; subst hv
    refine al7 (first_nif ?_) (first_nn ?_) (fun us => g_aVar (by show (1 : Nat) ≠ 2; decide) (by show (1 : Nat) ≠ 3; decide) h0)
    · intro e; exact h0 (by rw [show t = wIf from e]; decide)
    · intro e; exact h0 (by rw [show t = wNot from e]; decide)
  | min _ _ ia ib =>
    show Al 7 _ _
    simp only [onL_cons, onL_app]
    exact al7 (tk_nif (by decide)) (tk_nn (by decide)) (fun us => g_aMin (show (1 : Nat) ≠ 2 by decide) (show (1 : Nat) ≠ 3 by decide) rfl (two ia.re ib.re us))
  | max _ _ ia ib =>
    show Al 7 _ _
    simp only [onL_cons, onL_app]
    exact al7 (tk_nif (by decide)) (tk_nn (by decide)) (fun us => g_aMax (show (1 : Nat) ≠ 2 by decide) (show (1 : Nat) ≠ 3 by decide) rfl (two ia.re ib.re us))
  | ite _ _ _ ia ib ic =>
    show Al 0 _ _
    simp only [onL_cons, onL_app]
    exact al0 (re_if rfl rfl rfl ia.re ib.re ic.re)
  | @not a s k _ ia =>
    show Al 3 _ _
    obtain ⟨r2, h2, ha⟩ := al_brk ia (m := 3) (by decide)
    rw [onL_cons]
    exact al3 (tk_nif (by decide)) (rd_not rfl (ha.r3 h2))
  | @two a b s t w k l q n o _ hw _ ia ib =>
    rw [onL_app, onL_cons]
    have ht := hw.tok line
    cases hw with
    | or =>
      show Al 1 _ _
      obtain ⟨r1, h1, ha⟩ := al_brk ia (m := 1) (by decide)
      obtain ⟨r2, h2, hb⟩ := al_brk ib (m := 2) (by decide)
      exact al1 (nif_app (ha.nif h1)) (ch_two ht (by decide) (ha.c1 h1) (rd_of (hb.c2 h2)))
    | and =>
      show Al 2 _ _
      obtain ⟨r1, h1, ha⟩ := al_brk ia (m := 2) (by decide)
      obtain ⟨r2, h2, hb⟩ := al_brk ib (m := 3) (by decide)
      exact al2 (nif_app (ha.nif (by omega))) (ch_two ht (by decide) (ha.c2 h1) (hb.r3 h2))
    | less =>
      show Al 4 _ _
      obtain ⟨r1, h1, ha⟩ := al_brk ia (m := 5) (by decide)
      obtain ⟨r2, h2, hb⟩ := al_brk ib (m := 5) (by decide)
      exact al4 (nif_app (ha.nif (by omega))) (nn_app (ha.nn (by omega))) (rd_cmp ht (rd_of (ha.c4 h1)) (ha.nn (by omega)) (rd_of (hb.c4 h2)))
    | equal =>
      show Al 4 _ _
      obtain ⟨r1, h1, ha⟩ := al_brk ia (m := 5) (by decide)
      obtain ⟨r2, h2, hb⟩ := al_brk ib (m := 5) (by decide)
      exact al4 (nif_app (ha.nif (by omega))) (nn_app (ha.nn (by omega))) (rd_cmp ht (rd_of (ha.c4 h1)) (ha.nn (by omega)) (rd_of (hb.c4 h2)))
    | add =>
      show Al 5 _ _
      obtain ⟨r1, h1, ha⟩ := al_brk ia (m := 5) (by decide)
      obtain ⟨r2, h2, hb⟩ := al_brk ib (m := 6) (by decide)
      exact al5 (nif_app (ha.nif (by omega))) (nn_app (ha.nn (by omega))) (ch_two ht (by decide) (ha.c4 h1) (rd_of (hb.c5 h2)))
    | sub =>
      show Al 5 _ _
      obtain ⟨r1, h1, ha⟩ := al_brk ia (m := 5) (by decide)
      obtain ⟨r2, h2, hb⟩ := al_brk ib (m := 6) (by decide)
      exact al5 (nif_app (ha.nif (by omega))) (nn_app (ha.nn (by omega))) (ch_two ht (by decide) (ha.c4 h1) (rd_of (hb.c5 h2)))
    | mul =>
      show Al 6 _ _
      obtain ⟨r1, h1, ha⟩ := al_brk ia (m := 6) (by decide)
      obtain ⟨r2, h2, hb⟩ := al_brk ib (m := 7) (by decide)
      exact al6 (nif_app (ha.nif (by omega))) (nn_app (ha.nn (by omega))) (ch_two ht (by decide) (ha.c5 h1) (hb.r6 h2))
    | div =>
      show Al 6 _ _
      obtain ⟨r1, h1, ha⟩ := al_brk ia (m := 6) (by decide)
      obtain ⟨r2, h2, hb⟩ := al_brk ib (m := 7) (by decide)
      exact al6 (nif_app (ha.nif (by omega))) (nn_app (ha.nn (by omega))) (ch_two ht (by decide) (ha.c5 h1) (hb.r6 h2))
end Go.Proofs.YtlkefcbkpohpgaaDoor
