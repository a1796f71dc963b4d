/-
  The source of an expression in which all parts stand in brackets: it is read as this expression.
-/
import Derived.Test.YtlkefcbkpohpgaaDoorLexCat
import Derived.Test.YtlkefcbkpohpgaaDoorParRates
namespace Go.Proofs.YtlkefcbkpohpgaaDoor

/-- an operator: its text, kind, level, the node's Op -/
inductive OpW : List UInt8 → Nat → Nat → Nat → Prop where
  | or : OpW wOr 1 1 14
  | and : OpW wAnd 1 2 13
  | less : OpW [60] 4 3 11
  | equal : OpW [61] 4 3 12
  | add : OpW [43] 4 4 4
  | sub : OpW [45] 4 4 5
  | mul : OpW [42] 4 5 6
  | div : OpW [47] 4 5 7
theorem OpW.lx {w : List UInt8} {k n o : Nat} (h : OpW w k n o) : LxD [(k, w)] w := by
  cases h with
  | or => exact lx_word (by decide) (by decide)
  | and => exact lx_word (by decide) (by decide)
  | less => exact (lx_sign (by decide)).d
  | equal => exact (lx_sign (by decide)).d
  | add => exact (lx_sign (by decide)).d
  | sub => exact (lx_sign (by decide)).d
  | mul => exact (lx_sign (by decide)).d
  | div => exact (lx_sign (by decide)).d
theorem OpW.tok {w : List UInt8} {k n o : Nat} (h : OpW w k n o) (line : Nat) : OpT ⟨k, line, w⟩ n o := by
  cases h with
  | or => exact .or rfl
  | and => exact .and rfl
  | less => exact .less rfl
  | equal => exact .equal rfl
  | add => exact .add rfl
  | sub => exact .sub rfl
  | mul => exact .mul rfl
  | div => exact .div rfl
/-- an expression, its source, the kinds and texts of this -/
inductive Sw : Xp → List UInt8 → List (Nat × List UInt8) → Prop where
  | num {t : List UInt8} {n : Nat} : kindF t = 2 → cents t = n → Sw (leafE 1 n) t [(2, t)]
  | mon {t : List UInt8} {n : Nat} : kindF t = 3 → cents t = n → Sw (leafE 2 n) t [(3, t)]
  | var {t : List UInt8} {n : Nat} : kindF t = 1 → varF t = n → n ≠ 0 → Sw (leafE 3 n) t [(1, t)]
  | min {a b : Xp} {s t : List UInt8} {k l : List (Nat × List UInt8)} : Sw a s k → Sw b t l → Sw (nodeE 8 [a, b]) (wMin ++ 40 :: (s ++ 44 :: 32 :: (t ++ [41]))) ((1, wMin) :: (4, [40]) :: (k ++ (4, [44]) :: (l ++ [(4, [41])])))
  | max {a b : Xp} {s t : List UInt8} {k l : List (Nat × List UInt8)} : Sw a s k → Sw b t l → Sw (nodeE 9 [a, b]) (wMax ++ 40 :: (s ++ 44 :: 32 :: (t ++ [41]))) ((1, wMax) :: (4, [40]) :: (k ++ (4, [44]) :: (l ++ [(4, [41])])))
  | ite {a b c : Xp} {s t u : List UInt8} {k l m : List (Nat × List UInt8)} : Sw a s k → Sw b t l → Sw c u m →
      Sw (nodeE 10 [a, b, c]) (40 :: (wIf ++ 32 :: (s ++ 32 :: (wThen ++ 32 :: (t ++ 32 :: (wElse ++ 32 :: (u ++ [41]))))))) ((4, [40]) :: (1, wIf) :: (k ++ (1, wThen) :: (l ++ (1, wElse) :: (m ++ [(4, [41])]))))
  | not {a : Xp} {s : List UInt8} {k : List (Nat × List UInt8)} : Sw a s k → Sw (nodeE 15 [a]) (40 :: (wNot ++ 32 :: (s ++ [41]))) ((4, [40]) :: (1, wNot) :: (k ++ [(4, [41])]))
  | two {a b : Xp} {s t w : List UInt8} {k l : List (Nat × List UInt8)} {q n o : Nat} : Sw a s k → OpW w q n o → Sw b t l →
      Sw (nodeE o [a, b]) (40 :: (s ++ 32 :: (w ++ 32 :: (t ++ [41])))) ((4, [40]) :: (k ++ (q, w) :: (l ++ [(4, [41])])))
theorem lx_in {k l : List (Nat × List UInt8)} {s t : List UInt8} (h : LxD k s) (h2 : LxA l t) : LxA (k ++ l) (s ++ 32 :: t) := lx_then h (lx_cat lx_blank h2) (by decide)
theorem lx_shut {k : List (Nat × List UInt8)} {s : List UInt8} (h : LxD k s) : LxA (k ++ [(4, [41])]) (s ++ [41]) := lx_then h (lx_sign (by decide)) (by decide)
theorem lx_open {k : List (Nat × List UInt8)} {s : List UInt8} (h : LxA k s) : LxA ((4, [40]) :: k) (40 :: s) := lx_cat (lx_sign (c := 40) (by decide)) h
theorem lx_comma {k l : List (Nat × List UInt8)} {s t : List UInt8} (h : LxD k s) (h2 : LxA l t) : LxA (k ++ (4, [44]) :: l) (s ++ 44 :: 32 :: t) :=
  lx_then (k2 := (4, [44]) :: l) h (lx_cat (lx_sign (c := 44) (by decide)) (lx_cat lx_blank h2)) (by decide)
theorem sw_lx {e : Xp} {s : List UInt8} {k : List (Nat × List UInt8)} (h : Sw e s k) : LxD k s := by
  induction h with
  | num hk _ => exact lx_word hk (by decide)
  | mon hk _ => exact lx_word hk (by decide)
  | var hk _ _ => exact lx_word hk (by decide)
  | min _ _ ia ib => exact (lx_then (k1 := [(1, wMin)]) (lx_word (by decide) (by decide)) (lx_open (lx_comma ia (lx_shut ib))) (by decide)).d
  | max _ _ ia ib => exact (lx_then (k1 := [(1, wMax)]) (lx_word (by decide) (by decide)) (lx_open (lx_comma ia (lx_shut ib))) (by decide)).d
  | ite _ _ _ ia ib ic =>
    exact (lx_open (lx_in (k := [(1, wIf)]) (lx_word (by decide) (by decide)) (lx_in ia (lx_in (k := [(1, wThen)]) (lx_word (by decide) (by decide)) (lx_in ib (lx_in (k := [(1, wElse)]) (lx_word (by decide) (by decide)) (lx_shut ic))))))).d
  | not _ ia => exact (lx_open (lx_in (k := [(1, wNot)]) (lx_word (by decide) (by decide)) (lx_shut ia))).d
  | two _ hw _ ia ib => exact (lx_open (lx_in ia (lx_in hw.lx (lx_shut ib)))).d
theorem onL_app (line : Nat) (k l : List (Nat × List UInt8)) : onL line (k ++ l) = onL line k ++ onL line l := by unfold onL; rw [List.map_append]
theorem onL_cons (line q : Nat) (t : List UInt8) (l : List (Nat × List UInt8)) : onL line ((q, t) :: l) = ⟨q, line, t⟩ :: onL line l := rfl
theorem sw_sh {e : Xp} {s : List UInt8} {k : List (Nat × List UInt8)} (line : Nat) (h : Sw e s k) : Sh e (onL line k) := by
  have ne : ∀ {t w : List UInt8} {q : Nat}, kindF t = q → kindF w ≠ q → t ≠ w := by rintro t w q h1 h2 rfl; exact h2 h1
  induction h with
  | num hk hc => exact .num rfl hc (ne hk (by decide)) (ne hk (by decide))
  | mon hk hc => exact .mon rfl hc (ne hk (by decide)) (ne hk (by decide))
  | var hk hv h0 => exact .var rfl hv h0
  | min _ _ ia ib => simp only [onL_cons, onL_app]; exact .min rfl rfl rfl rfl rfl ia ib
  | max _ _ ia ib => simp only [onL_cons, onL_app]; exact .max rfl rfl rfl rfl rfl ia ib
  | ite _ _ _ ia ib ic => simp only [onL_cons, onL_app]; exact .ite rfl rfl rfl rfl rfl rfl ia ib ic
  | not _ ia => simp only [onL_cons, onL_app]; exact .not rfl rfl rfl rfl ia
  | two _ hw _ ia ib => simp only [onL_cons, onL_app]; exact .two rfl rfl (hw.tok line) rfl ia ib
theorem sw_count {e : Xp} {s : List UInt8} {k : List (Nat × List UInt8)} (h : Sw e s k) : k.length ≤ 5 * cntE e ∧ s.length ≤ 20 * cntE e := by
  have kl : ∀ {t : List UInt8} {q : Nat}, kindF t = q → q = 2 ∨ q = 3 → t.length ≤ 20 := by
    intro t q h hq
    cases t with
    | nil => simp
    | cons c r =>
      unfold kindF at h
      simp only at h
      split at h
      · omega
      · split at h
        · split at h <;> omega
        · split at h
          · omega
          · split at h
            · omega
            · split at h
              · omega
              · omega
  have vl : ∀ {t : List UInt8} {n : Nat}, varF t = n → n ≠ 0 → t.length ≤ 20 := by
    intro t n h h0
    unfold varF at h
    split at h
    · next e => rw [e]; decide
    · split at h
      · next e => rw [e]; decide
      · split at h
        · next e => rw [e]; decide
        · split at h
          · next e => rw [e]; decide
          · omega
  induction h with
  | num hk hc => have := kl hk (.inl rfl); simp only [leafE, cntE, cntL, List.length_cons, List.length_nil]; omega
  | mon hk hc => have := kl hk (.inr rfl); simp only [leafE, cntE, cntL, List.length_cons, List.length_nil]; omega
  | var hk hv h0 => have := vl hv h0; simp only [leafE, cntE, cntL, List.length_cons, List.length_nil]; omega
  | min _ _ ia ib => simp only [nodeE, cntE, cntL, List.length_cons, List.length_nil, List.length_append, wMin]; omega
  | max _ _ ia ib => simp only [nodeE, cntE, cntL, List.length_cons, List.length_nil, List.length_append, wMax]; omega
  | ite _ _ _ ia ib ic => simp only [nodeE, cntE, cntL, List.length_cons, List.length_nil, List.length_append, wIf, wThen, wElse]; omega
  | not _ ia => simp only [nodeE, cntE, cntL, List.length_cons, List.length_nil, List.length_append, wNot]; omega
  | two _ hw _ ia ib =>
    rename_i w _ _ _ _ _ _ _
    have : ∀ {w : List UInt8} {q n o : Nat}, OpW w q n o → w.length ≤ 3 := by intro w q n o h; cases h <;> decide
    have := this hw
    simp only [nodeE, cntE, cntL, List.length_cons, List.length_nil, List.length_append]; omega
/-- the source is read as this expression, whole -/
theorem sw_read {e : Xp} {s : List UInt8} {k : List (Nat × List UInt8)} (h : Sw e s k) (hc : cntE e ≤ 200) : (toksF 1 0 s).2 = (0, 0) ∧ G .expr (toksF 1 0 s).1 (.ok [e] []) := by
  have hn := (sw_count h).1
  rw [lx_all (sw_lx h) (by omega) 1]
  refine ⟨rfl, ?_⟩
  have hs := sw_sh 1 h
  have := g_expr (sh_read hs []) hs.first.1 hs.first.2 (fun n => rfl)
  rw [List.append_nil] at this; exact this
end Go.Proofs.YtlkefcbkpohpgaaDoor
