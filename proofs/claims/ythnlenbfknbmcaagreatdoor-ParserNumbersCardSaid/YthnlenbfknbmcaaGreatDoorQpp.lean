/-
  The printer, plain: the text of an expression, with as few brackets as may be; it is read as this expression.
-/
import Derived.Test.YthnlenbfknbmcaaGreatDoorQg
import Derived.Test.YthnlenbfknbmcaaGreatDoorQn
import Derived.Test.YthnlenbfknbmcaaGreatDoorQh
namespace Go.Proofs.YthnlenbfknbmcaaGreatDoor

def rankO (o : Int) : Nat :=
  if o = 10 then 0 else if o = 14 then 1 else if o = 13 then 2 else if o = 15 then 3 else if o = 11 then 4 else if o = 12 then 4 else if o = 4 then 5 else if o = 5 then 5 else if o = 6 then 6 else if o = 7 then 6 else 7
def opE : Xp → Int
  | .mk o _ _ => o
def rankE (e : Xp) : Nat := rankO (opE e)
/-- the least rank that the i-th of the kids has without brackets -/
def leastO (o : Int) (i : Nat) : Nat := if rankO o = 0 then 0 else if rankO o = 7 then 0 else if rankO o = 3 then 3 else if rankO o = 4 then 5 else rankO o + i
def lowE (o : Int) (i : Nat) (e : Xp) : Bool := decide (rankE e < leastO o i)
def brkS (b : Bool) (s : List UInt8) : List UInt8 := if b then 40 :: (s ++ [41]) else s
def brkK (b : Bool) (k : List (Nat × List UInt8)) : List (Nat × List UInt8) := if b then (4, [40]) :: (k ++ [(4, [41])]) else k
def varT (n : Int) : List UInt8 :=
  if n = 1 then [110, 105, 103, 104, 116, 115] else if n = 2 then [112, 101, 114, 115, 111, 110, 115] else if n = 3 then [110, 105, 103, 104, 116] else [119, 101, 101, 107, 100, 97, 121]
def sgnO (o : Int) : List UInt8 :=
  if o = 14 then wOr else if o = 13 then wAnd else if o = 11 then [60] else if o = 12 then [61] else if o = 4 then [43] else if o = 5 then [45] else if o = 6 then [42] else [47]
def shapeT (o n : Int) (l : List (List UInt8)) : List UInt8 :=
  if o = 1 then Lib.decDigits n.toNat else if o = 2 then monT n.toNat else if o = 3 then varT n
  else if o = 8 then wMin ++ 40 :: (l.getD 0 [] ++ 44 :: 32 :: (l.getD 1 [] ++ [41])) else if o = 9 then wMax ++ 40 :: (l.getD 0 [] ++ 44 :: 32 :: (l.getD 1 [] ++ [41]))
  else if o = 10 then wIf ++ 32 :: (l.getD 0 [] ++ 32 :: (wThen ++ 32 :: (l.getD 1 [] ++ 32 :: (wElse ++ 32 :: l.getD 2 []))))
  else if o = 15 then wNot ++ 32 :: l.getD 0 []
  else l.getD 0 [] ++ 32 :: (sgnO o ++ 32 :: l.getD 1 [])
mutual
def txtE : Xp → List UInt8
  | .mk o n l => shapeT o n (txtL o 0 l)
def txtL (o : Int) : Nat → List Xp → List (List UInt8)
  | _, [] => []
  | i, e :: r => brkS (lowE o i e) (txtE e) :: txtL o (i + 1) r
end
theorem txtE_mk (o n : Int) (l : List Xp) : txtE (.mk o n l) = shapeT o n (txtL o 0 l) := by rw [txtE]
theorem txtL_nil (o : Int) (i : Nat) : txtL o i [] = [] := by rw [txtL]
theorem txtL_cons (o : Int) (i : Nat) (e : Xp) (r : List Xp) : txtL o i (e :: r) = brkS (lowE o i e) (txtE e) :: txtL o (i + 1) r := by rw [txtL]

/-- an expression, its text, the kinds and texts of its tokens -/
inductive Pt : Xp → List UInt8 → List (Nat × List UInt8) → Prop where
  | num {t : List UInt8} {n : Nat} : kindF t = 2 → cents t = n → Pt (leafE 1 n) t [(2, t)]
  | mon {t : List UInt8} {n : Nat} : kindF t = 3 → cents t = n → Pt (leafE 2 n) t [(3, t)]
  | var {t : List UInt8} {n : Nat} : kindF t = 1 → varF t = n → n ≠ 0 → Pt (leafE 3 n) t [(1, t)]
  | min {a b : Xp} {s t : List UInt8} {k l : List (Nat × List UInt8)} : Pt a s k → Pt b t l → Pt (nodeE 8 [a, b]) (wMin ++ 40 :: (s ++ 44 :: 32 :: (t ++ [41]))) ((1, wMin) :: (4, [40]) :: (k ++ (4, [44]) :: (l ++ [(4, [41])])))
  | max {a b : Xp} {s t : List UInt8} {k l : List (Nat × List UInt8)} : Pt a s k → Pt b t l → Pt (nodeE 9 [a, b]) (wMax ++ 40 :: (s ++ 44 :: 32 :: (t ++ [41]))) ((1, wMax) :: (4, [40]) :: (k ++ (4, [44]) :: (l ++ [(4, [41])])))
  | ite {a b c : Xp} {s t u : List UInt8} {k l m : List (Nat × List UInt8)} : Pt a s k → Pt b t l → Pt c u m →
      Pt (nodeE 10 [a, b, c]) (wIf ++ 32 :: (s ++ 32 :: (wThen ++ 32 :: (t ++ 32 :: (wElse ++ 32 :: u))))) ((1, wIf) :: (k ++ (1, wThen) :: (l ++ (1, wElse) :: m)))
  | not {a : Xp} {s : List UInt8} {k : List (Nat × List UInt8)} : Pt a s k → Pt (nodeE 15 [a]) (wNot ++ 32 :: brkS (lowE 15 0 a) s) ((1, wNot) :: brkK (lowE 15 0 a) k)
  | two {a b : Xp} {s t w : List UInt8} {k l : List (Nat × List UInt8)} {q n o : Nat} : Pt a s k → OpW w q n o → Pt b t l →
      Pt (nodeE o [a, b]) (brkS (lowE o 0 a) s ++ 32 :: (w ++ 32 :: brkS (lowE o 1 b) t)) (brkK (lowE o 0 a) k ++ (q, w) :: brkK (lowE o 1 b) l)

/-! ### Read as tokens -/
theorem lxp_in {k l : List (Nat × List UInt8)} {s t : List UInt8} (h : LxD k s) (h2 : LxD l t) : LxD (k ++ l) (s ++ 32 :: t) := fun line cnt b hb hc => by
  rw [List.length_append] at hc
  rw [List.append_assoc, h line cnt (32 :: t ++ b) (fun d r e => by cases e; decide) (by omega), List.cons_append, toks_blank, h2 line _ b hb (by omega), app_app, List.length_append, Nat.add_assoc]
  unfold onL; rw [List.map_append]
theorem lxp_op {k l : List (Nat × List UInt8)} {s t w : List UInt8} {q n o : Nat} (h : LxD k s) (hw : OpW w q n o) (h2 : LxD l t) : LxD (k ++ (q, w) :: l) (s ++ 32 :: (w ++ 32 :: t)) := lxp_in h (lxp_in hw.lx h2)
theorem lx_brk {b : Bool} {k : List (Nat × List UInt8)} {s : List UInt8} (h : LxD k s) : LxD (brkK b k) (brkS b s) := by
  unfold brkK brkS
  split
  · exact (lx_open (lx_shut h)).d
  · exact h
theorem pt_lx {e : Xp} {s : List UInt8} {k : List (Nat × List UInt8)} (h : Pt e s k) : LxD k s := by
  induction h with
  | num hk _ => exact lx_word hk (by decide)
  | mon hk _ => exact lx_word hk (by decide)
  | var hk _ _ => exact lx_word hk (by decide)
  | min _ _ ia ib =>
    exact (lx_then (k1 := [(1, wMin)]) (lx_word (by decide) (by decide)) (lx_open (lx_comma ia (lx_shut ib))) (by decide)).d
  | max _ _ ia ib =>
    exact (lx_then (k1 := [(1, wMax)]) (lx_word (by decide) (by decide)) (lx_open (lx_comma ia (lx_shut ib))) (by decide)).d
  | ite _ _ _ ia ib ic =>
    exact lxp_in (k := [(1, wIf)]) (lx_word (by decide) (by decide)) (lxp_in ia (lxp_in (k := [(1, wThen)]) (lx_word (by decide) (by decide)) (lxp_in ib (lxp_in (k := [(1, wElse)]) (lx_word (by decide) (by decide)) ic))))
  | not _ ia => exact lxp_in (k := [(1, wNot)]) (lx_word (by decide) (by decide)) (lx_brk ia)
  | two _ hw _ ia ib => exact lxp_op (lx_brk ia) hw (lx_brk ib)

/-! ### Read as an expression -/
/-- read as the first one of a chain on a level -/
def Ch (n : Nat) (e : Xp) (A : List Tok) : Prop := ∀ us a, Cl (n + 1) us → G (.tail n e) us a → G (.lvl n) (A ++ us) a
def Nif (A : List Tok) : Prop := ∀ us, isT wIf (A ++ us) = false
theorem ch_of {n : Nat} {e : Xp} {A : List Tok} (hn : n ≠ 3) (h5 : n ≤ 5) (h : Rd (n + 1) e A) : Ch n e A := fun us _ hc ha => g_lvl h5 (fun h => absurd h hn) (h us hc) ha
theorem rd_of {n : Nat} {e : Xp} {A : List Tok} (h : Ch n e A) : Rd n e A := fun us hc => h us _ (hc.mono (by omega)) (g_end (hc n (Nat.le_refl _)))
theorem ch_two {n o : Nat} {a b : Xp} {y : Tok} {A B : List Tok} (hy : OpT y n o) (hn : n ≠ 3) (ha : Ch n a A) (hb : Rd (n + 1) b B) : Ch n (nodeE o [a, b]) (A ++ y :: B) := fun us r hc hr => by
  have e : A ++ y :: B ++ us = A ++ y :: (B ++ us) := by simp
  rw [e]
  have ho : opL n (y :: (B ++ us)) = o := hy.op
  refine ha _ _ (fun j hj => hy.other (by omega)) ?_
  refine g_more (by rw [ho]; exact hy.pos.1) hn (hb _ hc) ?_
  rw [ho]; exact hr
/-- all that may be read, by the rank -/
structure Al (r : Nat) (e : Xp) (A : List Tok) : Prop where
  re : Re e A
  nif : 1 ≤ r → Nif A
  c1 : 1 ≤ r → Ch 1 e A
  c2 : 2 ≤ r → Ch 2 e A
  r3 : 3 ≤ r → Rd 3 e A
  nn : 4 ≤ r → Nn A
  c4 : 5 ≤ r → Ch 4 e A
  c5 : 6 ≤ r → Ch 5 e A
  r6 : 7 ≤ r → Rd 6 e A
theorem al1 {e : Xp} {A : List Tok} (hi : Nif A) (h : Ch 1 e A) : Al 1 e A :=
  ⟨re_of (rd_of h) hi, fun _ => hi, fun _ => h, fun h => by omega, fun h => by omega, fun h => by omega, fun h => by omega, fun h => by omega, fun h => by omega⟩
theorem al2 {e : Xp} {A : List Tok} (hi : Nif A) (h : Ch 2 e A) : Al 2 e A :=
  have h1 := al1 hi (ch_of (by decide) (by decide) (rd_of h))
  ⟨h1.re, fun _ => hi, fun _ => h1.c1 (by decide), fun _ => h, fun h => by omega, fun h => by omega, fun h => by omega, fun h => by omega, fun h => by omega⟩
theorem al3 {e : Xp} {A : List Tok} (hi : Nif A) (h : Rd 3 e A) : Al 3 e A :=
  have h1 := al2 hi (ch_of (by decide) (by decide) h)
  ⟨h1.re, fun _ => hi, fun _ => h1.c1 (by decide), fun _ => h1.c2 (by decide), fun _ => h, fun h => by omega, fun h => by omega, fun h => by omega, fun h => by omega⟩
theorem al4 {e : Xp} {A : List Tok} (hi : Nif A) (hn : Nn A) (h : Rd 3 e A) : Al 4 e A :=
  have h1 := al3 hi h
  ⟨h1.re, fun _ => hi, fun _ => h1.c1 (by decide), fun _ => h1.c2 (by decide), fun _ => h, fun _ => hn, fun h => by omega, fun h => by omega, fun h => by omega⟩
theorem al5 {e : Xp} {A : List Tok} (hi : Nif A) (hn : Nn A) (h : Ch 4 e A) : Al 5 e A :=
  have h1 := al4 hi hn (rd_down3 (rd_of h) hn)
  ⟨h1.re, fun _ => hi, fun _ => h1.c1 (by decide), fun _ => h1.c2 (by decide), fun _ => h1.r3 (by decide), fun _ => hn, fun _ => h, fun h => by omega, fun h => by omega⟩
theorem al6 {e : Xp} {A : List Tok} (hi : Nif A) (hn : Nn A) (h : Ch 5 e A) : Al 6 e A :=
  have h1 := al5 hi hn (ch_of (by decide) (by decide) (rd_of h))
  ⟨h1.re, fun _ => hi, fun _ => h1.c1 (by decide), fun _ => h1.c2 (by decide), fun _ => h1.r3 (by decide), fun _ => hn, fun _ => h1.c4 (by decide), fun _ => h, fun h => by omega⟩
theorem al7 {e : Xp} {A : List Tok} (hi : Nif A) (hn : Nn A) (h : ∀ us, G .atom (A ++ us) (.ok [e] us)) : Al 7 e A :=
  have h6 : Rd 6 e A := fun us _ => g_atom (n := 6) (by decide) (h us)
  have h1 := al6 hi hn (ch_of (by decide) (by decide) h6)
  ⟨h1.re, fun _ => hi, fun _ => h1.c1 (by decide), fun _ => h1.c2 (by decide), fun _ => h1.r3 (by decide), fun _ => hn, fun _ => h1.c4 (by decide), fun _ => h1.c5 (by decide), fun _ => h6⟩
theorem al0 {e : Xp} {A : List Tok} (h : Re e A) : Al 0 e A :=
  ⟨h, fun h => by omega, fun h => by omega, fun h => by omega, fun h => by omega, fun h => by omega, fun h => by omega, fun h => by omega, fun h => by omega⟩
theorem nif_app {A B : List Tok} (h : Nif A) : Nif (A ++ B) := fun us => by rw [List.append_assoc]; exact h _
theorem tk_nn {k n : Nat} {t : List UInt8} {A : List Tok} (h : t ≠ wNot) : Nn (⟨k, n, t⟩ :: A) := fun _ => beq_eq_false_iff_ne.2 h
theorem tk_nif {k n : Nat} {t : List UInt8} {A : List Tok} (h : t ≠ wIf) : Nif (⟨k, n, t⟩ :: A) := fun _ => beq_eq_false_iff_ne.2 h
theorem first_nn {x : Tok} {A : List Tok} (h : x.t ≠ wNot) : Nn (x :: A) := fun _ => beq_eq_false_iff_ne.2 h
theorem first_nif {x : Tok} {A : List Tok} (h : x.t ≠ wIf) : Nif (x :: A) := fun _ => beq_eq_false_iff_ne.2 h
/-- in brackets, or not: with a rank that suffices -/
theorem al_brk {line r m : Nat} {e : Xp} {k : List (Nat × List UInt8)} (h : Al r e (onL line k)) (hm : m ≤ 7) : ∃ r2, m ≤ r2 ∧ Al r2 e (onL line (brkK (decide (r < m)) k)) := by
  by_cases hr : r < m
  · rw [decide_eq_true hr]
    refine ⟨7, hm, ?_⟩
    unfold brkK
    rw [if_pos rfl, onL_cons, onL_app, onL_cons]
    refine al7 (tk_nif (by decide)) (tk_nn (by decide)) (fun us => ?_)
    have e : ∀ x y : Tok, x :: (onL line k ++ y :: onL line []) ++ us = x :: (onL line k ++ y :: us) := by intro x y; simp [onL]
    rw [e]
    exact g_aOpen (show (4 : Nat) ≠ 2 by decide) (show (4 : Nat) ≠ 3 by decide) rfl (g_ex (es := [_]) (l := []) (h.re _ (stop_text (.inl rfl))) (g_lit rfl g_nil))
  · rw [decide_eq_false hr]
    exact ⟨r, by omega, h⟩
theorem rank_leaf {o : Int} (n : Int) (h : o = 1 ∨ o = 2 ∨ o = 3) : rankE (leafE o n) = 7 := by rcases h with rfl | rfl | rfl <;> rfl
theorem pt_al {line : Nat} {e : Xp} {s : List UInt8} {k : List (Nat × List UInt8)} (h : Pt e s k) : Al (rankE e) e (onL line k) := by
  have ne : ∀ {t w : List UInt8} {q : Nat}, kindF t = q → kindF w ≠ q → t ≠ w := by rintro t w q h1 h2 rfl; exact h2 h1
  have two : ∀ {a b : Xp} {k l : List (Nat × List UInt8)}, Re a (onL line k) → Re b (onL line l) → ∀ us : List Tok, G (.seq twoI) (⟨4, line, [40]⟩ :: (onL line k ++ ⟨4, line, [44]⟩ :: (onL line l ++ [⟨4, line, [41]⟩])) ++ us) (.ok [a, b] us) := by
    intro a b k l ia ib us
    have e : (⟨4, line, [40]⟩ : Tok) :: (onL line k ++ ⟨4, line, [44]⟩ :: (onL line l ++ [⟨4, line, [41]⟩])) ++ us = ⟨4, line, [40]⟩ :: (onL line k ++ ⟨4, line, [44]⟩ :: (onL line l ++ ⟨4, line, [41]⟩ :: us)) := by simp
    rw [e]
    exact g_lit rfl (g_ex (es := [a]) (ia _ (stop_text (.inr (.inl rfl)))) (g_lit rfl (g_ex (es := [b]) (ib _ (stop_text (.inl rfl))) (g_lit rfl g_nil))))
  induction h with
  | num hk hc => rw [rank_leaf _ (.inl rfl)]; subst hc; exact al7 (first_nif (ne hk (by decide))) (first_nn (ne hk (by decide))) (fun us => g_aNum rfl)
  | mon hk hc => rw [rank_leaf _ (.inr (.inl rfl))]; subst hc; exact al7 (first_nif (ne hk (by decide))) (first_nn (ne hk (by decide))) (fun us => g_aMon rfl)
  | @var t n hk hv h0 =>
    rw [rank_leaf _ (.inr (.inr rfl))]; subst hv
    refine al7 (first_nif ?_) (first_nn ?_) (fun us => g_aVar (by show (1 : Nat) ≠ 2; decide) (by show (1 : Nat) ≠ 3; decide) h0)
    · intro e; exact h0 (by rw [show t = wIf from e]; decide)
    · intro e; exact h0 (by rw [show t = wNot from e]; decide)
  | min _ _ ia ib =>
    show Al 7 _ _
    simp only [onL_cons, onL_app]
    exact al7 (tk_nif (by decide)) (tk_nn (by decide)) (fun us => g_aMin (show (1 : Nat) ≠ 2 by decide) (show (1 : Nat) ≠ 3 by decide) rfl (two ia.re ib.re us))
  | max _ _ ia ib =>
    show Al 7 _ _
    simp only [onL_cons, onL_app]
    exact al7 (tk_nif (by decide)) (tk_nn (by decide)) (fun us => g_aMax (show (1 : Nat) ≠ 2 by decide) (show (1 : Nat) ≠ 3 by decide) rfl (two ia.re ib.re us))
  | ite _ _ _ ia ib ic =>
    show Al 0 _ _
    simp only [onL_cons, onL_app]
    exact al0 (re_if rfl rfl rfl ia.re ib.re ic.re)
  | @not a s k _ ia =>
    show Al 3 _ _
    obtain ⟨r2, h2, ha⟩ := al_brk ia (m := 3) (by decide)
    rw [onL_cons]
    exact al3 (tk_nif (by decide)) (rd_not rfl (ha.r3 h2))
  | @two a b s t w k l q n o _ hw _ ia ib =>
    rw [onL_app, onL_cons]
    have ht := hw.tok line
    cases hw with
    | or =>
      show Al 1 _ _
      obtain ⟨r1, h1, ha⟩ := al_brk ia (m := 1) (by decide)
      obtain ⟨r2, h2, hb⟩ := al_brk ib (m := 2) (by decide)
      exact al1 (nif_app (ha.nif h1)) (ch_two ht (by decide) (ha.c1 h1) (rd_of (hb.c2 h2)))
    | and =>
      show Al 2 _ _
      obtain ⟨r1, h1, ha⟩ := al_brk ia (m := 2) (by decide)
      obtain ⟨r2, h2, hb⟩ := al_brk ib (m := 3) (by decide)
      exact al2 (nif_app (ha.nif (by omega))) (ch_two ht (by decide) (ha.c2 h1) (hb.r3 h2))
    | less =>
      show Al 4 _ _
      obtain ⟨r1, h1, ha⟩ := al_brk ia (m := 5) (by decide)
      obtain ⟨r2, h2, hb⟩ := al_brk ib (m := 5) (by decide)
      exact al4 (nif_app (ha.nif (by omega))) (nn_app (ha.nn (by omega))) (rd_cmp ht (rd_of (ha.c4 h1)) (ha.nn (by omega)) (rd_of (hb.c4 h2)))
    | equal =>
      show Al 4 _ _
      obtain ⟨r1, h1, ha⟩ := al_brk ia (m := 5) (by decide)
      obtain ⟨r2, h2, hb⟩ := al_brk ib (m := 5) (by decide)
      exact al4 (nif_app (ha.nif (by omega))) (nn_app (ha.nn (by omega))) (rd_cmp ht (rd_of (ha.c4 h1)) (ha.nn (by omega)) (rd_of (hb.c4 h2)))
    | add =>
      show Al 5 _ _
      obtain ⟨r1, h1, ha⟩ := al_brk ia (m := 5) (by decide)
      obtain ⟨r2, h2, hb⟩ := al_brk ib (m := 6) (by decide)
      exact al5 (nif_app (ha.nif (by omega))) (nn_app (ha.nn (by omega))) (ch_two ht (by decide) (ha.c4 h1) (rd_of (hb.c5 h2)))
    | sub =>
      show Al 5 _ _
      obtain ⟨r1, h1, ha⟩ := al_brk ia (m := 5) (by decide)
      obtain ⟨r2, h2, hb⟩ := al_brk ib (m := 6) (by decide)
      exact al5 (nif_app (ha.nif (by omega))) (nn_app (ha.nn (by omega))) (ch_two ht (by decide) (ha.c4 h1) (rd_of (hb.c5 h2)))
    | mul =>
      show Al 6 _ _
      obtain ⟨r1, h1, ha⟩ := al_brk ia (m := 6) (by decide)
      obtain ⟨r2, h2, hb⟩ := al_brk ib (m := 7) (by decide)
      exact al6 (nif_app (ha.nif (by omega))) (nn_app (ha.nn (by omega))) (ch_two ht (by decide) (ha.c5 h1) (hb.r6 h2))
    | div =>
      show Al 6 _ _
      obtain ⟨r1, h1, ha⟩ := al_brk ia (m := 6) (by decide)
      obtain ⟨r2, h2, hb⟩ := al_brk ib (m := 7) (by decide)
      exact al6 (nif_app (ha.nif (by omega))) (nn_app (ha.nn (by omega))) (ch_two ht (by decide) (ha.c5 h1) (hb.r6 h2))
end Go.Proofs.YthnlenbfknbmcaaGreatDoor
namespace Go.Proofs.YthnlenbfknbmcaaGreatDoor

theorem okL_two {a b : Xp} (h : okL [a, b] = true) : okE a = true ∧ okE b = true := by simpa [okL] using h
theorem okL_three {a b c : Xp} (h : okL [a, b, c] = true) : okE a = true ∧ okE b = true ∧ okE c = true := by simpa [okL] using h
theorem okL_one {a : Xp} (h : okL [a] = true) : okE a = true := by simpa [okL] using h
theorem node_shape {o n : Int} {l : List Xp} (h : okE (.mk o n l) = true) : (o = 1 ∧ l = [] ∧ ∃ a : Nat, n = a ∧ a ≤ 999999999) ∨ (o = 2 ∧ l = [] ∧ ∃ a : Nat, n = a ∧ a ≤ 1000000000) ∨ (o = 3 ∧ l = [] ∧ (n = 1 ∨ n = 2 ∨ n = 3 ∨ n = 4)) ∨
    (o = 15 ∧ n = 0 ∧ ∃ a, l = [a] ∧ okE a = true) ∨ (o = 10 ∧ n = 0 ∧ ∃ a b c, l = [a, b, c] ∧ okE a = true ∧ okE b = true ∧ okE c = true) ∨
    ((o = 8 ∨ o = 9 ∨ o = 4 ∨ o = 5 ∨ o = 6 ∨ o = 7 ∨ o = 11 ∨ o = 12 ∨ o = 13 ∨ o = 14) ∧ n = 0 ∧ ∃ a b, l = [a, b] ∧ okE a = true ∧ okE b = true) := by
  unfold okE at h
  rw [Bool.and_eq_true] at h
  obtain ⟨h, hl⟩ := h
  have hn : (o = 1 ∧ l.length = 0 ∧ 0 ≤ n ∧ n ≤ 999999999) ∨ (o = 2 ∧ l.length = 0 ∧ 0 ≤ n ∧ n ≤ 1000000000) ∨ (o = 3 ∧ l.length = 0 ∧ 1 ≤ n ∧ n ≤ 4) ∨ (o = 15 ∧ l.length = 1 ∧ n = 0) ∨ (o = 10 ∧ l.length = 3 ∧ n = 0) ∨
    ((o = 8 ∨ o = 9 ∨ o = 4 ∨ o = 5 ∨ o = 6 ∨ o = 7 ∨ o = 11 ∨ o = 12 ∨ o = 13 ∨ o = 14) ∧ l.length = 2 ∧ n = 0) := by
    clear hl
    unfold nodeB at h
    repeat' split at h
    all_goals simp only [Bool.and_eq_true, decide_eq_true_eq] at h
    all_goals omega
  rcases hn with ⟨rfl, h1, h2, h3⟩ | ⟨rfl, h1, h2, h3⟩ | ⟨rfl, h1, h2, h3⟩ | ⟨rfl, h1, h2⟩ | ⟨rfl, h1, h2⟩ | ⟨ho, h1, h2⟩
  · exact .inl ⟨rfl, List.length_eq_zero_iff.1 h1, n.toNat, by omega, by omega⟩
  · exact .inr (.inl ⟨rfl, List.length_eq_zero_iff.1 h1, n.toNat, by omega, by omega⟩)
  · exact .inr (.inr (.inl ⟨rfl, List.length_eq_zero_iff.1 h1, by omega⟩))
  · obtain ⟨a, rfl⟩ := List.length_eq_one_iff.1 h1
    exact .inr (.inr (.inr (.inl ⟨rfl, h2, a, rfl, okL_one hl⟩)))
  · match l, h1 with
    | [a, b, c], _ => exact .inr (.inr (.inr (.inr (.inl ⟨rfl, h2, a, b, c, rfl, okL_three hl⟩))))
  · match l, h1 with
    | [a, b], _ => exact .inr (.inr (.inr (.inr (.inr ⟨ho, h2, a, b, rfl, okL_two hl⟩))))
theorem txt_two {o n : Int} {a b : Xp} : txtE (.mk o n [a, b]) = shapeT o n [brkS (lowE o 0 a) (txtE a), brkS (lowE o 1 b) (txtE b)] := by rw [txtE_mk, txtL_cons, txtL_cons, txtL_nil]
theorem txt_one {o n : Int} {a : Xp} : txtE (.mk o n [a]) = shapeT o n [brkS (lowE o 0 a) (txtE a)] := by rw [txtE_mk, txtL_cons, txtL_nil]
theorem txt_three {o n : Int} {a b c : Xp} : txtE (.mk o n [a, b, c]) = shapeT o n [brkS (lowE o 0 a) (txtE a), brkS (lowE o 1 b) (txtE b), brkS (lowE o 2 c) (txtE c)] := by rw [txtE_mk, txtL_cons, txtL_cons, txtL_cons, txtL_nil]
theorem low_none {o : Int} (h : o = 8 ∨ o = 9 ∨ o = 10) (i : Nat) (e : Xp) : lowE o i e = false := by rcases h with rfl | rfl | rfl <;> exact decide_eq_false (Nat.not_lt_zero _)
theorem brkS_no (s : List UInt8) : brkS false s = s := rfl
theorem opw_of {o : Int} (h : o = 4 ∨ o = 5 ∨ o = 6 ∨ o = 7 ∨ o = 11 ∨ o = 12 ∨ o = 13 ∨ o = 14) : ∃ q n k : Nat, o = k ∧ OpW (sgnO o) q n k := by
  rcases h with rfl | rfl | rfl | rfl | rfl | rfl | rfl | rfl
  · exact ⟨_, _, 4, rfl, .add⟩
  · exact ⟨_, _, 5, rfl, .sub⟩
  · exact ⟨_, _, 6, rfl, .mul⟩
  · exact ⟨_, _, 7, rfl, .div⟩
  · exact ⟨_, _, 11, rfl, .less⟩
  · exact ⟨_, _, 12, rfl, .equal⟩
  · exact ⟨_, _, 13, rfl, .and⟩
  · exact ⟨_, _, 14, rfl, .or⟩
theorem pt_of : ∀ (e : Xp), okE e = true → ∃ k, Pt e (txtE e) k := by
  intro e
  induction e using Xp.ind with
  | h o n kids ih =>
  intro h
  rcases node_shape h with ⟨rfl, rfl, a, rfl, ha⟩ | ⟨rfl, rfl, a, rfl, ha⟩ | ⟨rfl, rfl, hn⟩ | ⟨rfl, rfl, a, rfl, ha⟩ | ⟨rfl, rfl, a, b, c, rfl, ha, hb, hc⟩ | ⟨ho, rfl, a, b, rfl, ha, hb⟩
  · rw [txtE_mk]
    obtain ⟨g1, g2⟩ := num_kind a ha
    exact ⟨_, .num g1 g2⟩
  · rw [txtE_mk]
    obtain ⟨g1, g2⟩ := mon_kind a ha
    exact ⟨_, .mon g1 g2⟩
  · rw [txtE_mk]
    rcases hn with rfl | rfl | rfl | rfl
    · exact ⟨_, .var (t := [110, 105, 103, 104, 116, 115]) (n := 1) (by decide) (by decide) (by decide)⟩
    · exact ⟨_, .var (t := [112, 101, 114, 115, 111, 110, 115]) (n := 2) (by decide) (by decide) (by decide)⟩
    · exact ⟨_, .var (t := [110, 105, 103, 104, 116]) (n := 3) (by decide) (by decide) (by decide)⟩
    · exact ⟨_, .var (t := [119, 101, 101, 107, 100, 97, 121]) (n := 4) (by decide) (by decide) (by decide)⟩
  · obtain ⟨k, hk⟩ := ih a (by simp) ha
    rw [txt_one]
    exact ⟨_, .not hk⟩
  · obtain ⟨k, hk⟩ := ih a (by simp) ha
    obtain ⟨l, hl⟩ := ih b (by simp) hb
    obtain ⟨m, hm⟩ := ih c (by simp) hc
    rw [txt_three, low_none (.inr (.inr rfl)), low_none (.inr (.inr rfl)), low_none (.inr (.inr rfl))]
    exact ⟨_, .ite hk hl hm⟩
  · obtain ⟨k, hk⟩ := ih a (by simp) ha
    obtain ⟨l, hl⟩ := ih b (by simp) hb
    rw [txt_two]
    by_cases h8 : o = 8 ∨ o = 9
    · rcases h8 with rfl | rfl
      · rw [low_none (.inl rfl), low_none (.inl rfl)]; exact ⟨_, .min hk hl⟩
      · rw [low_none (.inr (.inl rfl)), low_none (.inr (.inl rfl))]; exact ⟨_, .max hk hl⟩
    · obtain ⟨q, n, k2, he, hw⟩ := opw_of (o := o) (by omega)
      have hs : ∀ x y : List UInt8, shapeT o 0 [x, y] = x ++ 32 :: (sgnO o ++ 32 :: y) := by
        intro x y
        have hx : o = 4 ∨ o = 5 ∨ o = 6 ∨ o = 7 ∨ o = 11 ∨ o = 12 ∨ o = 13 ∨ o = 14 := by omega
        unfold shapeT
        rw [if_neg (by omega), if_neg (by omega), if_neg (by omega), if_neg (by omega), if_neg (by omega), if_neg (by omega), if_neg (by omega)]
        rfl
      rw [hs]
      generalize hg : sgnO o = w at hw ⊢
      subst he
      exact ⟨_, .two hk hw hl⟩
theorem brk_len (b : Bool) (s : List UInt8) : (brkS b s).length ≤ s.length + 2 := by unfold brkS; split <;> simp
theorem brk_lenK (b : Bool) (s : List (Nat × List UInt8)) : (brkK b s).length ≤ s.length + 2 := by unfold brkK; split <;> simp
theorem pt_count {e : Xp} {s : List UInt8} {k : List (Nat × List UInt8)} (h : Pt e s k) : k.length + 2 ≤ 6 * cntE e ∧ s.length + 2 ≤ 22 * cntE e := by
  have kl : ∀ {t : List UInt8} {q : Nat}, kindF t = q → q = 2 ∨ q = 3 → t.length ≤ 20 := by
    intro t q h hq
    cases t with
    | nil => simp
    | cons c r =>
      unfold kindF at h
      simp only at h
      split at h
      · omega
      · split at h
        · split at h <;> omega
        · split at h
          · omega
          · split at h
            · omega
            · split at h
              · omega
              · omega
  have vl : ∀ {t : List UInt8} {n : Nat}, varF t = n → n ≠ 0 → t.length ≤ 20 := by
    intro t n h h0
    unfold varF at h
    split at h
    · next e => rw [e]; decide
    · split at h
      · next e => rw [e]; decide
      · split at h
        · next e => rw [e]; decide
        · split at h
          · next e => rw [e]; decide
          · omega
  induction h with
  | num hk hc => have := kl hk (.inl rfl); simp only [leafE, cntE, cntL, List.length_cons, List.length_nil]; omega
  | mon hk hc => have := kl hk (.inr rfl); simp only [leafE, cntE, cntL, List.length_cons, List.length_nil]; omega
  | var hk hv h0 => have := vl hv h0; simp only [leafE, cntE, cntL, List.length_cons, List.length_nil]; omega
  | min _ _ ia ib => simp only [nodeE, cntE, cntL, List.length_cons, List.length_nil, List.length_append, wMin]; omega
  | max _ _ ia ib => simp only [nodeE, cntE, cntL, List.length_cons, List.length_nil, List.length_append, wMax]; omega
  | ite _ _ _ ia ib ic => simp only [nodeE, cntE, cntL, List.length_cons, List.length_nil, List.length_append, wIf, wThen, wElse]; omega
  | @not a s k _ ia =>
    have := brk_len (lowE 15 0 a) s
    have := brk_lenK (lowE 15 0 a) k
    simp only [nodeE, cntE, cntL, List.length_cons, List.length_nil, List.length_append, wNot]; omega
  | @two a b s t w k l q n o _ hw _ ia ib =>
    have : ∀ {w : List UInt8} {q n o : Nat}, OpW w q n o → w.length ≤ 3 := by intro w q n o h; cases h <;> decide
    have := this hw
    have := brk_len (lowE o 0 a) s
    have := brk_lenK (lowE o 0 a) k
    have := brk_len (lowE o 1 b) t
    have := brk_lenK (lowE o 1 b) l
    simp only [nodeE, cntE, cntL, List.length_cons, List.length_append]; omega
theorem valid_is {e : Xp} (h : validF e = true) : okE e = true ∧ cntE e ≤ 200 ∧ depE e ≤ 30 := by
  unfold validF at h
  simpa [Bool.and_eq_true, and_assoc] using h
theorem txt_len {e : Xp} (h : validF e = true) : (txtE e).length ≤ 4400 := by
  obtain ⟨ho, hc, _⟩ := valid_is h
  obtain ⟨k, hk⟩ := pt_of e ho
  have hn := pt_count hk
  omega
/-- P9.6 -/
theorem txt_inj {a b : Xp} (ha : validF a = true) (hb : validF b = true) (h : txtE a = txtE b) : a = b := by
  have one : ∀ {e : Xp}, validF e = true → ∃ k, toksF 1 0 (txtE e) = (onL 1 k, 0, 0) ∧ G .expr (onL 1 k) (.ok [e] []) := by
    intro e he
    obtain ⟨ho, hc, _⟩ := valid_is he
    obtain ⟨k, hk⟩ := pt_of e ho
    have hn := pt_count hk
    refine ⟨k, lx_all (pt_lx hk) (by omega) 1, ?_⟩
    have := (pt_al (line := 1) hk).re [] (fun n => rfl)
    rw [List.append_nil] at this; exact this
  obtain ⟨k, h1, g1⟩ := one ha
  obtain ⟨l, h2, g2⟩ := one hb
  rw [h, h2] at h1
  have : onL 1 l = onL 1 k := congrArg Prod.fst h1
  rw [this] at g2
  have := g1.det g2
  cases this; rfl
end Go.Proofs.YthnlenbfknbmcaaGreatDoor
namespace Go.Proofs.YthnlenbfknbmcaaGreatDoor

theorem pct_red {kn kd : Int} (hv : vldB kn kd = true) : (redD (kn * 100) (kd * 1) = 1 ↔ 100 % kd = 0) ∧ (100 % kd = 0 → redN (kn * 100) (kd * 1) = kn * (100 / kd)) := by
  obtain ⟨h1, h2, h3, h4⟩ := vld_bd hv
  have hc := vld_gcd hv
  have hg : common (kn * 100) (kd * 1) = (Int.gcd (kn * 100) kd : Int) := by rw [Int.mul_one, common_eq _ _ (by omega), if_neg (by omega)]
  have hp := gcd_pos (kn * 100) kd (by omega)
  have d1 : (Int.gcd (kn * 100) kd : Int) ∣ kn * 100 := Int.gcd_dvd_left ..
  have d2 : (Int.gcd (kn * 100) kd : Int) ∣ kd := Int.gcd_dvd_right ..
  have d3 : kd ∣ kn * 100 → kd ∣ (Int.gcd (kn * 100) kd : Int) := fun h => Int.dvd_coe_gcd h (Int.dvd_refl _)
  unfold redD redN
  rw [hg, Int.mul_one]
  generalize Int.gcd (kn * 100) kd = g at hp d1 d2 d3
  have hg0 : (g : Int) ≠ 0 := by omega
  obtain ⟨q, hq⟩ := d2
  have e1 : kd.tdiv g = q := by rw [hq]; exact Int.mul_tdiv_cancel_left q hg0
  have hdvd : (kd : Int) ∣ 100 ↔ 100 % kd = 0 := Int.dvd_iff_emod_eq_zero
  refine ⟨?_, ?_⟩
  · rw [e1, ← hdvd]
    constructor
    · intro h
      rw [h, Int.mul_one] at hq
      rw [← hq] at d1
      have n1 : kd.natAbs ∣ kn.natAbs * 100 := by have := Int.natAbs_dvd_natAbs.2 d1; rwa [Int.natAbs_mul] at this
      have n2 : Nat.Coprime kd.natAbs kn.natAbs := by
        have : Nat.gcd kn.natAbs kd.natAbs = 1 := hc
        exact (Nat.gcd_comm _ _).trans this
      have n3 := n2.dvd_of_dvd_mul_left n1
      exact Int.natAbs_dvd_natAbs.1 n3
    · intro h
      have hk : kd ∣ (g : Int) := d3 (Int.dvd_trans h (Int.dvd_mul_left _ _))
      have l1 : kd ≤ g := Int.le_of_dvd (by omega) hk
      have l2 : (g : Int) ≤ kd := Int.le_of_dvd (by omega) ⟨q, hq⟩
      have l3 : kd = g := by omega
      have : (g : Int) * q = g * 1 := by rw [Int.mul_one, ← hq, l3]
      exact Int.eq_of_mul_eq_mul_left hg0 this
  · intro h0
    have h := hdvd.2 h0
    have hk : kd ∣ (g : Int) := d3 (Int.dvd_trans h (Int.dvd_mul_left _ _))
    have l1 : kd ≤ g := Int.le_of_dvd (by omega) hk
    have l2 : (g : Int) ≤ kd := Int.le_of_dvd (by omega) ⟨q, hq⟩
    have l3 : (g : Int) = kd := by omega
    rw [l3]
    obtain ⟨m, hm⟩ := h
    have hd0 : kd ≠ 0 := by omega
    have e2 : (100 : Int) / kd = m := by rw [hm]; exact Int.mul_ediv_cancel_left m hd0
    rw [e2, hm, show kn * (kd * m) = kd * (kn * m) by rw [Int.mul_left_comm]]
    exact Int.mul_tdiv_cancel_left _ hd0
/-- the percentage, and whether there is one -/
def pctF (kn kd : Int) : Int × Bool := ((mulF kn kd 100 1).1, decide ((mulF kn kd 100 1).2.2 = 0) && decide ((mulF kn kd 100 1).2.1 = 1))
def nineB (n : Int) : Bool := decide (0 ≤ n) && decide (n ≤ 999999999)
def keepB (kn kd : Int) : Bool := vldB kn kd && decide (100 % kd = 0) && nineB (kn * (100 / kd))
theorem pct_keep (kn kd : Int) : ((pctF kn kd).2 && nineB (pctF kn kd).1) = keepB kn kd ∧ (keepB kn kd = true → (pctF kn kd).1 = kn * (100 / kd)) := by
  have hone : vldB 100 1 = true := by decide
  unfold pctF mulF opF keepB
  cases hv : vldB kn kd with
  | false => simp
  | true =>
    obtain ⟨h1, h2⟩ := pct_red hv
    rw [hone]
    simp only [Bool.and_self, if_true, Bool.true_and]
    unfold setl
    by_cases h0 : 100 % kd = 0
    · have e1 := h1.2 h0
      have e2 := h2 h0
      rw [e1, e2, decide_eq_true h0]
      by_cases hf : fitB (kn * (100 / kd)) 1 = true
      · rw [if_pos hf]; simp
      · rw [if_neg hf]
        have : nineB (kn * (100 / kd)) = false := by
          unfold nineB
          unfold fitB at hf
          rw [decide_eq_true_eq] at hf
          rw [Bool.and_eq_false_iff, decide_eq_false_iff_not, decide_eq_false_iff_not]
          omega
        simp [this]
    · have e1 : redD (kn * 100) (kd * 1) ≠ 1 := fun h => h0 (h1.1 h)
      have e2 : redD (kn * 100) kd ≠ 1 := by rwa [Int.mul_one] at e1
      rw [decide_eq_false h0]
      split
      · simp [e2]
      · simp
/-- a rate's text -/
def rateX (a0 a1 a2 a3 a4 a5 a6 a7 c : Nat) (w p : List UInt8) : List UInt8 :=
  wRate ++ 32 :: (Lib.decDigits a0 ++ 32 :: (wLevel ++ 32 :: (Lib.decDigits a1 ++ 32 :: (wKind ++ 32 :: (Lib.decDigits a2 ++ 32 :: (wNights ++ 32 :: (Lib.decDigits a3 ++ 32 :: (wTo ++ 32 :: (Lib.decDigits a4 ++ 32 :: (wStay ++ 32 :: (Lib.decDigits a5 ++ 32 :: (wTo ++ 32 :: (Lib.decDigits a6 ++ 32 :: (wArrive ++ 32 :: (Lib.decDigits a7 ++ 32 :: (wKeep ++ 32 :: (Lib.decDigits c ++ 37 :: 32 :: (wWhen ++ 32 :: (w ++ 32 :: (wPrice ++ 32 :: (p ++ [59])))))))))))))))))))))
/-- the text of a rate, or an error -/
def rateP (a0 a1 a2 a3 a4 a5 a6 a7 kn kd : Int) (when price : Xp) : List UInt8 × Nat :=
  if (nineB a0 && nineB a1 && nineB a2 && nineB a3 && nineB a4 && nineB a5 && nineB a6 && nineB a7 && keepB kn kd && validF when && validF price) = true
  then (rateX a0.toNat a1.toNat a2.toNat a3.toNat a4.toNat a5.toNat a6.toNat a7.toNat (kn * (100 / kd)).toNat (txtE when) (txtE price), 0) else ([], 1)
def exprP (e : Xp) : List UInt8 × Nat := if validF e = true then (txtE e, 0) else ([], 1)
end Go.Proofs.YthnlenbfknbmcaaGreatDoor
namespace Go.Proofs.YthnlenbfknbmcaaGreatDoor

theorem lx_part {k l : List (Nat × List UInt8)} {s t : List UInt8} (h : LxD k s) (h2 : LxD l t) : LxD (k ++ (4, [37]) :: l) (s ++ 37 :: 32 :: t) := fun line cnt b hb hc => by
  have h3 : LxD ((4, [37]) :: l) (37 :: 32 :: t) := lx_catD (lx_sign (c := 37) (by decide)) (lx_catD lx_blank h2)
  rw [List.length_append] at hc
  rw [List.append_assoc, h line cnt (37 :: 32 :: t ++ b) (fun d r e => by cases e; decide) (by omega), h3 line _ b hb (by omega), app_app, List.length_append, Nat.add_assoc]
  unfold onL; rw [List.map_append]
theorem g_field {w : List UInt8} {is : List Item} {x y : Tok} {r r2 : List Tok} {l : List Xp} {n : Nat} (hx : x.t = w) (hy : y.k = 2) (hc : cents y.t = n) (h : G (.seq is) r (.ok l r2)) : G (.seq (.lit w :: .num :: is)) (x :: y :: r) (.ok (leafE 1 n :: l) r2) := by
  subst hc; exact g_lit hx (g_num hy h)
theorem stop_word {t : List UInt8} {k : Nat} {r : List Tok} (h : t = wPrice ∨ t = wStop) : stopT (⟨k, 1, t⟩ :: r) := by
  intro n
  rcases h with h | h <;> rw [opF_cons, h] <;> simp [wPrice, wStop, wOr, wAnd]
set_option maxHeartbeats 1000000 in
/-- P8.6 -/
theorem src_rate {t0 t1 t2 t3 t4 t5 t6 t7 t8 w p : List UInt8} {n0 n1 n2 n3 n4 n5 n6 n7 n8 : Nat} (k0 : kindF t0 = 2) (c0 : cents t0 = n0) (k1 : kindF t1 = 2) (c1 : cents t1 = n1) (k2 : kindF t2 = 2) (c2 : cents t2 = n2) (k3 : kindF t3 = 2) (c3 : cents t3 = n3) (k4 : kindF t4 = 2) (c4 : cents t4 = n4) (k5 : kindF t5 = 2) (c5 : cents t5 = n5) (k6 : kindF t6 = 2) (c6 : cents t6 = n6) (k7 : kindF t7 = 2) (c7 : cents t7 = n7) (k8 : kindF t8 = 2) (c8 : cents t8 = n8)
    (l0 : t0.length ≤ 100 ∧ t1.length ≤ 100 ∧ t2.length ≤ 100 ∧ t3.length ≤ 100 ∧ t4.length ≤ 100 ∧ t5.length ≤ 100 ∧ t6.length ≤ 100 ∧ t7.length ≤ 100 ∧ t8.length ≤ 100) {a b : Xp} {kw kp : List (Nat × List UInt8)} (hw : Sw a w kw) (hp : Sw b p kp) (va : validF a = true) (vb : validF b = true) :
    RP (wRate ++ 32 :: (t0 ++ 32 :: (wLevel ++ 32 :: (t1 ++ 32 :: (wKind ++ 32 :: (t2 ++ 32 :: (wNights ++ 32 :: (t3 ++ 32 :: (wTo ++ 32 :: (t4 ++ 32 :: (wStay ++ 32 :: (t5 ++ 32 :: (wTo ++ 32 :: (t6 ++ 32 :: (wArrive ++ 32 :: (t7 ++ 32 :: (wKeep ++ 32 :: (t8 ++ 37 :: 32 :: (wWhen ++ 32 :: (w ++ 32 :: (wPrice ++ 32 :: (p ++ 32 :: [59])))))))))))))))))))))) [[leafE 1 n0, leafE 1 n1, leafE 1 n2, leafE 1 n3, leafE 1 n4, leafE 1 n5, leafE 1 n6, leafE 1 n7, leafE 1 n8, a, b]] 0 0 := by
  have ca : cntE a ≤ 200 := by unfold validF at va; simp only [Bool.and_eq_true, decide_eq_true_eq] at va; exact va.1.2
  have cb : cntE b ≤ 200 := by unfold validF at vb; simp only [Bool.and_eq_true, decide_eq_true_eq] at vb; exact vb.1.2
  have ka := sw_count hw
  have kb := sw_count hp
  have hl := lx_inD (k := [(1, wRate)]) (lx_word (by decide) (by decide)) (lx_inD (k := [(2, t0)]) (lx_word k0 (by decide)) (lx_inD (k := [(1, wLevel)]) (lx_word (by decide) (by decide)) (lx_inD (k := [(2, t1)]) (lx_word k1 (by decide)) (lx_inD (k := [(1, wKind)]) (lx_word (by decide) (by decide)) (lx_inD (k := [(2, t2)]) (lx_word k2 (by decide)) (lx_inD (k := [(1, wNights)]) (lx_word (by decide) (by decide)) (lx_inD (k := [(2, t3)]) (lx_word k3 (by decide)) (lx_inD (k := [(1, wTo)]) (lx_word (by decide) (by decide)) (lx_inD (k := [(2, t4)]) (lx_word k4 (by decide)) (lx_inD (k := [(1, wStay)]) (lx_word (by decide) (by decide)) (lx_inD (k := [(2, t5)]) (lx_word k5 (by decide)) (lx_inD (k := [(1, wTo)]) (lx_word (by decide) (by decide)) (lx_inD (k := [(2, t6)]) (lx_word k6 (by decide)) (lx_inD (k := [(1, wArrive)]) (lx_word (by decide) (by decide)) (lx_inD (k := [(2, t7)]) (lx_word k7 (by decide)) (lx_inD (k := [(1, wKeep)]) (lx_word (by decide) (by decide)) (lx_part (k := [(2, t8)]) (lx_word k8 (by decide)) (lx_inD (k := [(1, wWhen)]) (lx_word (by decide) (by decide)) (lx_inD (sw_lx hw) (lx_inD (k := [(1, wPrice)]) (lx_word (by decide) (by decide)) (lx_inD (sw_lx hp) (lx_sign (c := 59) (by decide)).d)))))))))))))))))))))
  have key : ∀ (S : List UInt8) ks, LxD ks S → ks.length ≤ 5000 → S.length ≤ 20000 → tokP S = (onL 1 ks, 0, 0) := fun S ks h hk hs => by
    unfold tokP; rw [if_neg (by omega), lx_all h hk 1]
  have e0 : wRate.length = 4 ∧ wLevel.length = 5 ∧ wKind.length = 4 ∧ wNights.length = 6 ∧ wTo.length = 2 ∧ wStay.length = 4 ∧ wArrive.length = 6 ∧ wKeep.length = 4 ∧ wWhen.length = 4 ∧ wPrice.length = 5 := by decide
  have ht := key _ _ hl ?_ ?_
  rotate_left
  · clear key hl va vb hw hp
    simp only [List.length_append, List.length_cons, List.length_nil]; omega
  · clear key hl va vb hw hp
    simp only [List.length_append, List.length_cons, List.length_nil]; omega
  refine .ok (by rw [ht]) ?_
  rw [ht]
  have sp : ∀ r, stopT ((⟨1, 1, wPrice⟩ : Tok) :: r) := fun r => stop_word (.inl rfl)
  have ss : ∀ r, stopT ((⟨4, 1, [59]⟩ : Tok) :: r) := fun r => stop_word (.inr rfl)
  simp only [onL_app, onL_cons, List.nil_append, List.cons_append]
  refine .more (by simp) (by rintro ⟨_, h⟩; cases h) (r := []) ?_ ?_ .nil
  · unfold rateI
    exact g_field rfl rfl c0 (g_field rfl rfl c1 (g_field rfl rfl c2 (g_field rfl rfl c3 (g_field rfl rfl c4 (g_field rfl rfl c5 (g_field rfl rfl c6 (g_field rfl rfl c7 (g_field rfl rfl c8 (g_lit rfl (g_lit rfl (g_ex (es := [a]) (re_sh (sw_sh 1 hw) _ (sp _)) (g_lit rfl (g_ex (es := [b]) (re_sh (sw_sh 1 hp) _ (ss _)) (g_lit rfl g_nil))))))))))))))
  · unfold validR
    show (validF a && validF b) = true
    rw [va, vb]; rfl
end Go.Proofs.YthnlenbfknbmcaaGreatDoor
namespace Go.Proofs.YthnlenbfknbmcaaGreatDoor
set_option maxRecDepth 100000

/-- P9.2 -/
theorem txt_read {e : Xp} (h : validF e = true) : EP (txtE e) e 0 := by
  obtain ⟨ho, hc, _⟩ := valid_is h
  obtain ⟨k, hk⟩ := pt_of e ho
  have hn := pt_count hk
  exact ep_of (pt_lx hk) (by omega) (by omega) (pt_al hk).re h
/-- the tokens of a rate's text -/
def rateK (a0 a1 a2 a3 a4 a5 a6 a7 c : Nat) (kw kp : List (Nat × List UInt8)) : List (Nat × List UInt8) :=
  (1, wRate) :: (2, Lib.decDigits a0) :: (1, wLevel) :: (2, Lib.decDigits a1) :: (1, wKind) :: (2, Lib.decDigits a2) :: (1, wNights) :: (2, Lib.decDigits a3) :: (1, wTo) :: (2, Lib.decDigits a4) :: (1, wStay) :: (2, Lib.decDigits a5) :: (1, wTo) :: (2, Lib.decDigits a6) :: (1, wArrive) :: (2, Lib.decDigits a7) :: (1, wKeep) :: (2, Lib.decDigits c) :: (4, [37]) :: (1, wWhen) :: (kw ++ (1, wPrice) :: (kp ++ [(4, [59])]))
theorem lx_num (n : Nat) (h : n ≤ 999999999) : LxD [(2, Lib.decDigits n)] (Lib.decDigits n) := lx_word (num_kind n h).1 (by decide)
theorem rate_lx {a0 a1 a2 a3 a4 a5 a6 a7 c : Nat} {w p : List UInt8} {kw kp : List (Nat × List UInt8)} (h0 : a0 ≤ 999999999) (h1 : a1 ≤ 999999999) (h2 : a2 ≤ 999999999) (h3 : a3 ≤ 999999999) (h4 : a4 ≤ 999999999) (h5 : a5 ≤ 999999999) (h6 : a6 ≤ 999999999) (h7 : a7 ≤ 999999999) (h8 : c ≤ 999999999)
    (hw : LxD kw w) (hp : LxD kp p) : LxD (rateK a0 a1 a2 a3 a4 a5 a6 a7 c kw kp) (rateX a0 a1 a2 a3 a4 a5 a6 a7 c w p) :=
  lx_inD (k := [(1, wRate)]) (lx_word (by decide) (by decide)) (lx_inD (lx_num a0 h0) (lx_inD (k := [(1, wLevel)]) (lx_word (by decide) (by decide)) (lx_inD (lx_num a1 h1) (lx_inD (k := [(1, wKind)]) (lx_word (by decide) (by decide)) (lx_inD (lx_num a2 h2)
    (lx_inD (k := [(1, wNights)]) (lx_word (by decide) (by decide)) (lx_inD (lx_num a3 h3) (lx_inD (k := [(1, wTo)]) (lx_word (by decide) (by decide)) (lx_inD (lx_num a4 h4) (lx_inD (k := [(1, wStay)]) (lx_word (by decide) (by decide)) (lx_inD (lx_num a5 h5)
    (lx_inD (k := [(1, wTo)]) (lx_word (by decide) (by decide)) (lx_inD (lx_num a6 h6) (lx_inD (k := [(1, wArrive)]) (lx_word (by decide) (by decide)) (lx_inD (lx_num a7 h7) (lx_inD (k := [(1, wKeep)]) (lx_word (by decide) (by decide)) (lx_part (lx_num c h8)
    (lx_inD (k := [(1, wWhen)]) (lx_word (by decide) (by decide)) (lx_inD hw (lx_inD (k := [(1, wPrice)]) (lx_word (by decide) (by decide)) (lx_then hp (lx_sign (c := 59) (by decide)) (by decide)).d))))))))))))))))))))
theorem stop_word9 {t : List UInt8} {k n : Nat} {r : List Tok} (h : t = wPrice ∨ t = wStop) : stopT (⟨k, n, t⟩ :: r) := by
  intro n
  rcases h with h | h <;> rw [opF_cons, h] <;> simp [wPrice, wStop, wOr, wAnd]
theorem rate_g {line a0 a1 a2 a3 a4 a5 a6 a7 c : Nat} {kw kp : List (Nat × List UInt8)} {a b : Xp} (h0 : a0 ≤ 999999999) (h1 : a1 ≤ 999999999) (h2 : a2 ≤ 999999999) (h3 : a3 ≤ 999999999) (h4 : a4 ≤ 999999999) (h5 : a5 ≤ 999999999) (h6 : a6 ≤ 999999999) (h7 : a7 ≤ 999999999) (h8 : c ≤ 999999999)
    (hw : Re a (onL line kw)) (hp : Re b (onL line kp)) (us : List Tok) :
    G (.seq rateI) (onL line (rateK a0 a1 a2 a3 a4 a5 a6 a7 c kw kp) ++ us) (.ok [leafE 1 a0, leafE 1 a1, leafE 1 a2, leafE 1 a3, leafE 1 a4, leafE 1 a5, leafE 1 a6, leafE 1 a7, leafE 1 c, a, b] us) := by
  have sp : ∀ r, stopT ((⟨1, line, wPrice⟩ : Tok) :: r) := fun r => stop_word9 (.inl rfl)
  have ss : ∀ r, stopT ((⟨4, line, [59]⟩ : Tok) :: r) := fun r => stop_word9 (.inr rfl)
  unfold rateK
  simp only [onL_app, onL_cons, List.append_assoc, List.cons_append]
  unfold rateI
  exact g_field rfl rfl (num_kind a0 h0).2 (g_field rfl rfl (num_kind a1 h1).2 (g_field rfl rfl (num_kind a2 h2).2 (g_field rfl rfl (num_kind a3 h3).2 (g_field rfl rfl (num_kind a4 h4).2 (g_field rfl rfl (num_kind a5 h5).2 (g_field rfl rfl (num_kind a6 h6).2 (g_field rfl rfl (num_kind a7 h7).2 (g_field rfl rfl (num_kind c h8).2
    (g_lit rfl (g_lit rfl (g_ex (es := [a]) (hw _ (sp _)) (g_lit rfl (g_ex (es := [b]) (hp _ (ss _)) (g_lit rfl g_nil))))))))))))))
/-- more tokens than may be -/
theorem toks_over : ∀ (k line cnt m : Nat) (s : List UInt8), s.length ≤ k → (toksF line cnt s).2.1 = 0 → cnt ≤ m → m ≤ 5000 → 5000 < m + (toksF line cnt s).1.length → (toksF line m s).2.1 = 2 := by
  intro k line cnt m s hk
  refine toks_cases (fun line cnt s => ∀ m, (toksF line cnt s).2.1 = 0 → cnt ≤ m → m ≤ 5000 → 5000 < m + (toksF line cnt s).1.length → (toksF line m s).2.1 = 2) ?_ ?_ ?_ ?_ ?_ ?_ k line cnt s hk m
  · intro line cnt m h h1 h2 h3
    rw [toks_nil] at h3
    simp at h3; omega
  · intro line cnt r ih m h h1 h2 h3
    rw [toks_blank] at *
    exact ih m h h1 h2 h3
  · intro line cnt r ih m h h1 h2 h3
    rw [toks_feed] at *
    exact ih m h h1 h2 h3
  · intro line cnt r ih m h h1 h2 h3
    rw [toksF, if_neg (by decide), if_neg (by decide), if_pos rfl] at h h3 ⊢
    exact ih m h h1 h2 h3
  · intro line cnt c r g1 g2 g3 g4 m h h1 h2 h3
    rw [toksF, if_neg g1, if_neg g2, if_neg g3] at h
    rcases g4 with g4 | g4
    · rw [if_pos g4] at h; cases h
    · by_cases g5 : kindF ((c :: r).take (sizeF (c :: r))) = 0
      · rw [if_pos g5] at h; cases h
      · rw [if_neg g5, if_pos g4] at h; cases h
  · intro line cnt c r g1 g2 g3 g4 g5 ih m h h1 h2 h3
    rw [toksF, if_neg g1, if_neg g2, if_neg g3, if_neg g4, if_neg g5] at h h3
    rw [toksF, if_neg g1, if_neg g2, if_neg g3, if_neg g4]
    by_cases g6 : m = 5000
    · rw [if_pos g6]
    · rw [if_neg g6]
      by_cases g7 : (toksF line (cnt + 1) ((c :: r).drop (sizeF (c :: r)))).2.1 = 0
      · simp only [g7, if_true] at h3
        have := ih (m + 1) g7 (by omega) (by omega) (by simp at h3; omega)
        simp only [this]
        rfl
      · simp only [g7, if_false] at h
end Go.Proofs.YthnlenbfknbmcaaGreatDoor
