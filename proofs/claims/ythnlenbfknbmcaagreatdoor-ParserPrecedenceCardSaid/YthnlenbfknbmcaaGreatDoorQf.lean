/-
  The reference's lexer and the program's give the same.
-/
import Derived.Test.YthnlenbfknbmcaaGreatDoorQe
import Derived.Laws.StructEq
import Derived.Deep.QuietTactic
import Derived.BigQuiet
import Derived.Lib.AppendStr
import Derived.Lib.BufferRead
import Derived.Test.YthnlenbfknbmcaaGreatDoorQa
namespace Go.Proofs.YthnlenbfknbmcaaGreatDoor
open Go.RowKit Go.Shelf
set_option maxRecDepth 100000

theorem tok_held : Tryz.prog.stoodInHeld 87 = false := by kernel_rfl
theorem neq_tok (a b c d : Int) (x y : ByteArray) (w : World) : (binOp .neq 87 (.agg #[.int .i64 a, .int .i64 b, .string x]) (.agg #[.int .i64 c, .int .i64 d, .string y])).run Tryz.prog w = .ok (.bool (!(a == c && b == d && x.toList == y.toList))) w := by
  have hu : Tryz.prog.underlying 87 = some (.struct (Tryz.prog.fieldsOf 87)) := by kernel_rfl
  simp only [binOp]
  by_cases h1 : a = c <;> by_cases h2 : b = d <;> by_cases h3 : x.toList = y.toList <;> simp [Op.equal, Op.maxDepth, run_equalIn_struct _ _ _ _ _ hu tok_held, Op.eqFields, go_sem, h1, h2, h3]
theorem neq_rt (x y : RT) (w : World) : (binOp .neq 87 (.agg #[.int .i64 x.k, .int .i64 x.n, .string ⟨x.t.toArray⟩]) (.agg #[.int .i64 y.k, .int .i64 y.n, .string ⟨y.t.toArray⟩])).run Tryz.prog w = .ok (.bool (!decide (x = y))) w := by
  rw [neq_tok, Lib.toList_data, Lib.toList_data]
  congr 3
  rw [Bool.eq_iff_iff]
  obtain ⟨a, b, c⟩ := x
  obtain ⟨d, e, f⟩ := y
  simp [and_assoc]

end Go.Proofs.YthnlenbfknbmcaaGreatDoor
namespace Go.Proofs.YthnlenbfknbmcaaGreatDoor
open Go.RowKit Go.Shelf
set_option maxRecDepth 100000

theorem ladd_zero (a : Addr) : a.add 0 = a := by unfold Addr.add; split <;> simp_all
end Go.Proofs.YthnlenbfknbmcaaGreatDoor
namespace Go.Proofs.YthnlenbfknbmcaaGreatDoor
open Go.RowKit Go.Shelf
set_option maxRecDepth 100000

def refL (i : Nat) (line : Int) (acc : List UInt8) : List RT → List UInt8 × Nat
  | [] => if 20000 < acc.length then ([], 2) else (acc, 0)
  | x :: r => if 20001 < x.n ∨ 20000 < acc.length then ([], 2) else refL (i + 1) x.n (acc ++ (if 0 < i ∧ x.n = line then [32] else List.replicate (x.n - line).toNat 10) ++ x.t) r
theorem ref_far {i : Nat} {line : Int} {acc : List UInt8} (h : 20000 < acc.length) : ∀ l, refL i line acc l = ([], 2)
  | [] => by rw [refL, if_pos h]
  | x :: r => by rw [refL, if_pos (.inr h)]
theorem kind_len {t : List UInt8} (h : kindF t ≠ 0) : 1 ≤ t.length := by
  cases t with
  | nil => exact absurd rfl h
  | cons c r => simp
theorem ref_join : ∀ (l : List RT) (i : Nat) (line : Int) (acc : List UInt8), acc.length ≤ 20000 → 1 ≤ line → line - 1 ≤ acc.length → rightR line l = true → refL i line acc l = joinL i line acc l
  | [], i, line, acc, h, _, _, _ => by rw [refL, joinL, if_neg (by omega)]
  | x :: r, i, line, acc, h, h1, h2, hr => by
    simp only [rightR, Bool.and_eq_true, decide_eq_true_eq] at hr
    obtain ⟨⟨⟨r1, r2⟩, r3⟩, r4⟩ := hr
    have ht : 1 ≤ x.t.length := kind_len (by omega)
    rw [refL, joinL]
    by_cases hn : 20001 < x.n
    · rw [if_pos (.inl hn), if_pos]
      unfold gapT
      by_cases hg : x.n - line = 0 ∧ 0 < i
      · omega
      · rw [if_neg hg, List.length_replicate]; omega
    · have hg : gapT i (x.n - line) = if 0 < i ∧ x.n = line then [32] else List.replicate (x.n - line).toNat 10 := by
        unfold gapT
        by_cases hb : 0 < i ∧ x.n = line
        · rw [if_pos hb, if_pos ⟨by omega, hb.1⟩]
        · rw [if_neg hb, if_neg (fun h => hb ⟨h.2, by omega⟩), show min (x.n - line).toNat 20000 = (x.n - line).toNat by omega]
      rw [if_neg (by omega), ← hg]
      by_cases hov : 20000 < acc.length + (gapT i (x.n - line)).length + x.t.length
      · rw [if_pos hov, ref_far (by simp only [List.length_append]; omega)]
      · rw [if_neg hov]
        refine ref_join r (i + 1) x.n _ (by simp only [List.length_append]; omega) (by omega) ?_ r4
        simp only [List.length_append]
        rw [hg]
        by_cases hb : 0 < i ∧ x.n = line
        · rw [if_pos hb]; simp; omega
        · rw [if_neg hb, List.length_replicate]; omega
theorem refL_drop {i : Nat} {line : Int} {acc : List UInt8} {l : List RT} {k : Nat} (hk : k < l.length) : refL i line acc (l.drop k) =
    if 20001 < (l[k]).n ∨ 20000 < acc.length then ([], 2) else refL (i + 1) (l[k]).n (acc ++ (if 0 < i ∧ (l[k]).n = line then [32] else List.replicate ((l[k]).n - line).toNat 10) ++ (l[k]).t) (l.drop (k + 1)) := by
  rw [List.drop_eq_getElem_cons hk]; rfl
/-- an owned row of bytes -/
def RB (w : World) (base : Nat) (v : Value) (l : List UInt8) : Prop := w.ownsRow base 5 1 v l.length (Lib.byteCells l)
theorem rb_next {w1 : World} {base : Nat} {v' : Value} {l m : List UInt8} {n : Nat} {news : List Value} (h : w1.ownsRow base 5 1 v' n (Lib.byteCells l ++ news)) (hn : n = l.length + m.length) (hm : news = Lib.byteCells m) : RB w1 base v' (l ++ m) := by
  unfold RB
  rw [List.length_append, Lib.byteCells_append, ← hn, ← hm]; exact h
theorem Tryz.infoU8 : (Tryz.prog.info? 5).map (fun i => (i.zero, i.size, i.bytes)) = some (some (.int .u8 0), 1, 1) := by kernel_rfl
theorem run_text {w : World} {base : Nat} {v : Value} {l : List UInt8} (h : RB w base v l) : (convert 82 9 v).run Tryz.prog w = .ok (.string ⟨l.toArray⟩) w := by
  have hs : Tryz.prog.underlying 82 = some (.slice 5) := Tryz.underlying82
  have he : Tryz.prog.underlying 5 = some (.int .u8) := Tryz.underlying5
  have hd : Tryz.prog.underlying 9 = some .string := Tryz.underlying9
  obtain ⟨_, ⟨rfl, h0⟩ | ⟨g, cap, cur, rfl, _, hh, _, _, _, hct⟩⟩ := h
  · have hl : l = [] := by simpa using h0
    subst hl
    exact Lib.run_convert_nil_bytes w _ _ _ _ hs he hd
  · exact run_convert_bytes_back w _ _ _ _ _ l hs he hd (Lib.bytes_of_row hh (by simpa using hct))
theorem grown_tok {W W' : World} {B m k : Nat} {c : Array Value} {u : Value} {xs : List Value} (hk : W.heap[k]? = some (.cells c 87 (0, 0))) (hg : W.grownBy W' u.ownBlock) (ho : W.ownsRow B 5 1 u m xs) : W'.heap[k]? = some (.cells c 87 (0, 0)) :=
  (hg.block k (Array.getElem?_eq_some_iff.1 hk).1 (fun e => by
    obtain ⟨_, cur, hc⟩ := lown_row ho k e.symm
    rw [hk] at hc; cases hc)).trans hk
theorem rep_one (j : Nat) (acc : List UInt8) : acc ++ List.replicate j 10 ++ [10] = acc ++ List.replicate (j + 1) 10 := by
  rw [List.append_assoc]; congr 1; exact (List.replicate_succ' (n := j) (a := (10 : UInt8))).symm

end Go.Proofs.YthnlenbfknbmcaaGreatDoor
namespace Go.Proofs.YthnlenbfknbmcaaGreatDoor
open Go.RowKit Go.Shelf
set_option maxRecDepth 100000

theorem rt_inj {a b : Tok} (h : a.rt = b.rt) : a = b := by
  obtain ⟨k, n, t⟩ := a; obtain ⟨k', n', t'⟩ := b
  simp only [Tok.rt, RT.mk.injEq] at h
  obtain ⟨h1, h2, h3⟩ := h
  have : k = k' := by omega
  have : n = n' := by omega
  subst_vars; rfl
theorem map_rt : ∀ {a b : List Tok}, a.map Tok.rt = b.map Tok.rt → a = b
  | [], [], _ => rfl
  | [], _ :: _, h => by simp at h
  | _ :: _, [], h => by simp at h
  | x :: a, y :: b, h => by
    simp only [List.map_cons, List.cons.injEq] at h
    rw [rt_inj h.1, map_rt h.2]
theorem right_map : ∀ (l : List Tok) (line : Nat), rightR (line : Int) (l.map Tok.rt) = true ↔ RightF line l
  | [], line => by simp [rightR, RightF]
  | x :: r, line => by
    have ih := right_map r x.n
    have e : x.rt.n = (x.n : Int) := rfl
    have e2 : x.rt.k = (x.k : Int) := rfl
    have e3 : x.rt.t = x.t := rfl
    simp only [List.map_cons, rightR, RightF, Bool.and_eq_true, decide_eq_true_eq, e, e2, e3]
    rw [ih]
    constructor
    · rintro ⟨⟨⟨h1, h2⟩, h3⟩, h4⟩
      have h5 : x.k = kindF x.t := by omega
      exact ⟨by rw [← h5]; omega, h5, by omega, h4⟩
    · rintro ⟨h1, h2, h3, h4⟩
      exact ⟨⟨⟨by omega, by omega⟩, by omega⟩, h4⟩
theorem right_nat : ∀ (l : List RT) (line : Nat), rightR (line : Int) l = true → ∃ m : List Tok, l = m.map Tok.rt
  | [], _, _ => ⟨[], rfl⟩
  | ⟨k, n, t⟩ :: r, line, h => by
    simp only [rightR, Bool.and_eq_true, decide_eq_true_eq] at h
    obtain ⟨⟨⟨h1, h2⟩, h3⟩, h4⟩ := h
    obtain ⟨n', rfl⟩ : ∃ n' : Nat, n = n' := ⟨n.toNat, by omega⟩
    obtain ⟨m, hm⟩ := right_nat r n' h4
    exact ⟨⟨kindF t, n', t⟩ :: m, by rw [List.map_cons, ← hm, h3]; rfl⟩
theorem can_nat {l : List RT} (h : canF l = true) : ∃ m : List Tok, l = m.map Tok.rt ∧ RightF 1 m ∧ m.length ≤ 5000 := by
  unfold canF at h
  rw [Bool.and_eq_true, decide_eq_true_eq] at h
  obtain ⟨m, rfl⟩ := right_nat l 1 h.2
  exact ⟨m, rfl, (right_map m 1).1 h.2, by simpa using h.1⟩
theorem can_map {m : List Tok} (h : RightF 1 m) (hl : m.length ≤ 5000) : canF (m.map Tok.rt) = true := by
  unfold canF
  rw [Bool.and_eq_true, decide_eq_true_eq]
  exact ⟨by simpa using hl, (right_map m 1).2 h⟩
theorem join_map : ∀ (m : List Tok) (i line : Nat) (acc : List UInt8), acc.length ≤ 20000 → RightF line m → joinL i (line : Int) acc (m.map Tok.rt) =
    if 20000 < (acc ++ joinS (i == 0) line m).length then ([], 2) else (acc ++ joinS (i == 0) line m, 0)
  | [], i, line, acc, h, _ => by
    rw [joinS, List.append_nil, if_neg (by omega)]; rfl
  | x :: r, i, line, acc, h, hr => by
    obtain ⟨h1, h2, h3, h4⟩ := hr
    have ht : 1 ≤ x.t.length := kind_len h1
    have e : x.rt.n = (x.n : Int) := rfl
    have e3 : x.rt.t = x.t := rfl
    rw [List.map_cons, joinL, e, e3, joinS]
    have hg : (i == 0) = false ∧ x.n = line ∨ ¬((i == 0) = false ∧ x.n = line) := Classical.em _
    rcases hg with hg | hg
    · have hgt : gapT i ((x.n : Int) - (line : Int)) = [32] := by
        unfold gapT; rw [if_pos ⟨by omega, by have := hg.1; simp at this; omega⟩]
      rw [hgt, if_pos hg]
      by_cases hov : 20000 < acc.length + [(32 : UInt8)].length + x.t.length
      · rw [if_pos hov, if_pos (by simp only [List.length_append] at *; omega)]
      · rw [if_neg hov, join_map r (i + 1) x.n _ (by simp only [List.length_append]; omega) h4]
        have : (i + 1 == 0) = false := rfl
        rw [this, List.append_assoc, List.append_assoc]
    · have hgt : gapT i ((x.n : Int) - (line : Int)) = List.replicate (min (x.n - line) 20000) 10 := by
        unfold gapT
        rw [if_neg (fun hh => hg ⟨by simp; omega, by omega⟩)]
        congr 2; omega
      rw [hgt, if_neg hg, List.length_replicate]
      by_cases hov : 20000 < acc.length + min (x.n - line) 20000 + x.t.length
      · rw [if_pos hov, if_pos (by simp only [List.length_append, List.length_replicate]; omega)]
      · rw [if_neg hov, show min (x.n - line) 20000 = x.n - line by omega, join_map r (i + 1) x.n _ (by simp only [List.length_append, List.length_replicate]; omega) h4]
        have : (i + 1 == 0) = false := rfl
        rw [this, List.append_assoc, List.append_assoc]

theorem tok_zero {s : List UInt8} (h : (tokP s).2.1 = 0) : s.length ≤ 20000 ∧ tokP s = toksF 1 0 s ∧ (tokP s).2.2 = 0 ∧ RightF 1 (tokP s).1 ∧ (tokP s).1.length ≤ 5000 := by
  unfold tokP at h ⊢
  by_cases hl : 20000 < s.length
  · rw [if_pos hl] at h; simp at h
  · rw [if_neg hl] at h ⊢
    have := (toks_right 1 0 s (by omega)).1 h
    exact ⟨by omega, rfl, this.1, this.2.1, by omega⟩
theorem tok_bad {s : List UInt8} (h : (tokP s).2.1 ≠ 0) : (tokP s).1 = [] := by
  unfold tokP at h ⊢
  by_cases hl : 20000 < s.length
  · rw [if_pos hl]
  · rw [if_neg hl] at h ⊢; exact ((toks_right 1 0 s (by omega)).2 h).1
theorem kind_le (t : List UInt8) : kindF t ≤ 4 := by
  cases t with
  | nil => exact Nat.zero_le _
  | cons c r =>
    unfold kindF
    simp only
    split
    · omega
    · split
      · split <;> omega
      · split
        · omega
        · split
          · omega
          · split
            · omega
            · split <;> omega
theorem rest_len : ∀ (b : Bool) (s : List UInt8), (restF b s).length ≤ s.length
  | _, [] => by simp [restF]
  | b, c :: r => by
    rw [restF]
    split
    · have := rest_len true r; simp only [List.length_cons]; omega
    · have := rest_len false r
      split <;> simp only [List.length_append, List.length_cons, List.length_nil] <;> omega
theorem flat_mem {l : List Tok} {x : Tok} (h : x ∈ l) : x.t.length ≤ (l.flatMap (·.t)).length := by
  induction l with
  | nil => cases h
  | cons y r ih =>
    rw [List.flatMap_cons, List.length_append]
    rcases List.mem_cons.1 h with rfl | h
    · omega
    · have := ih h; omega
theorem nl_len (s : List UInt8) : nl s ≤ s.length := List.count_le_length
theorem tok_fine (s : List UInt8) : ∀ x ∈ (tokP s).1, x.k ≤ 4 ∧ x.k = kindF x.t ∧ x.n ≤ 1 + nl s ∧ 1 + nl s ≤ 20001 ∧ x.t.length ≤ 20000 := by
  intro x hx
  by_cases h : (tokP s).2.1 = 0
  · obtain ⟨h1, h2, h3, h4, h5⟩ := tok_zero h
    have hkk : ∀ (l : List Tok) (line : Nat), RightF line l → ∀ y ∈ l, y.k = kindF y.t := by
      intro l
      induction l with
      | nil => intro _ _ y hy; cases hy
      | cons a r ih =>
        intro line hr y hy
        rcases List.mem_cons.1 hy with rfl | hy
        · exact hr.2.1
        · exact ih _ hr.2.2.2 y hy
    have hk := hkk _ _ h4 x hx
    have hle := kind_le x.t
    rw [h2] at hx h
    have hn := (toks_lines 1 0 s).1 x hx
    have hf := flat_mem hx
    rw [toks_texts 1 0 s h] at hf
    have := rest_len false s
    have := nl_len s
    exact ⟨by omega, hk, hn, by omega, by omega⟩
  · rw [tok_bad h] at hx; cases hx
theorem tok_count (s : List UInt8) : (tokP s).1.length ≤ 5000 := by
  by_cases h : (tokP s).2.1 = 0
  · exact (tok_zero h).2.2.2.2
  · rw [tok_bad h]; exact Nat.zero_le _
theorem tok_rs (s : List UInt8) : RS ((tokP s).1.map Tok.rt) := by
  intro x hx
  obtain ⟨y, hy, rfl⟩ := List.mem_map.1 hx
  have := tok_fine s y hy
  have e1 : y.rt.k = (y.k : Int) := rfl
  have e2 : y.rt.n = (y.n : Int) := rfl
  have e3 : y.rt.t = y.t := rfl
  unfold I64
  rw [e1, e2, e3]
  omega

/-! ### There and back -/
theorem join_read {l : List RT} (h : (joinP l).2 = 0) : (tokP (joinP l).1).2.1 = 0 ∧ (tokP (joinP l).1).2.2 = 0 ∧ (tokP (joinP l).1).1.map Tok.rt = l := by
  by_cases hc : canF l = true
  · obtain ⟨m, rfl, hr, hm⟩ := can_nat hc
    have hj : joinP (m.map Tok.rt) = joinL 0 1 [] (m.map Tok.rt) := by unfold joinP; rw [if_pos hc]
    have hq := join_map m 0 1 [] (by simp) hr
    rw [hj] at h ⊢
    have e : ((1 : Nat) : Int) = 1 := rfl
    rw [e] at hq
    rw [hq] at h ⊢
    by_cases hov : 20000 < ([] ++ joinS (0 == 0) 1 m).length
    · rw [if_pos hov] at h; simp at h
    · rw [if_neg hov]
      have ht : tokP (joinS true 1 m) = (m, 0, 0) := by
        unfold tokP
        rw [if_neg (by simpa using hov), toks_join m true 1 0 hr (by omega)]
      have e2 : (([] : List UInt8) ++ joinS (0 == 0) 1 m) = joinS true 1 m := rfl
      simp only [e2, ht]
      exact ⟨trivial, trivial, trivial⟩
  · have : joinP l = ([], 1) := by unfold joinP; rw [if_neg hc]
    rw [this] at h; simp at h
theorem join_fail {l : List RT} (h : (joinP l).2 ≠ 0) : (joinP l).1 = [] ∧ decide ((joinP l).2 = 1) = !canF l := by
  by_cases hc : canF l = true
  · obtain ⟨m, rfl, hr, hm⟩ := can_nat hc
    have hj : joinP (m.map Tok.rt) = joinL 0 1 [] (m.map Tok.rt) := by unfold joinP; rw [if_pos hc]
    have hq := join_map m 0 1 [] (by simp) hr
    have e : ((1 : Nat) : Int) = 1 := rfl
    rw [e] at hq
    rw [hj] at h ⊢
    rw [hq] at h ⊢
    by_cases hov : 20000 < ([] ++ joinS (0 == 0) 1 m).length
    · rw [if_pos hov, hc]; exact ⟨rfl, rfl⟩
    · rw [if_neg hov] at h; exact absurd rfl h
  · have : joinP l = ([], 1) := by unfold joinP; rw [if_neg hc]
    rw [this]
    refine ⟨rfl, ?_⟩
    have : canF l = false := by simpa using hc
    rw [this]; rfl
theorem join_again {s : List UInt8} (hs : s.length ≤ 1000) (h : (tokP s).2.1 = 0) : (joinP ((tokP s).1.map Tok.rt)).2 = 0 := by
  obtain ⟨h1, h2, h3, h4, h5⟩ := tok_zero h
  have hc := can_map h4 h5
  have hj : joinP ((tokP s).1.map Tok.rt) = joinL 0 1 [] ((tokP s).1.map Tok.rt) := by unfold joinP; rw [if_pos hc]
  have hq := join_map (tokP s).1 0 1 [] (by simp) h4
  have e : ((1 : Nat) : Int) = 1 := rfl
  rw [e] at hq
  rw [hj, hq]
  have hl := join_len 1 0 s true 1 (Nat.le_refl _)
  rw [← h2] at hl
  have e2 : (([] : List UInt8) ++ joinS (0 == 0) 1 (tokP s).1) = joinS true 1 (tokP s).1 := rfl
  rw [e2, if_neg (by omega)]

/-! ### Parts -/
def shiftF (m : Nat) (y : List Tok × Nat × Nat) : List Tok × Nat × Nat := (y.1.map (fun x => ⟨x.k, x.n + m, x.t⟩), y.2.1, if y.2.1 = 0 then 0 else y.2.2 + m)
theorem shift_cons (m k n : Nat) (t : List UInt8) (y : List Tok × Nat × Nat) : shiftF m (consF ⟨k, n, t⟩ y) = consF ⟨k, n + m, t⟩ (shiftF m y) := by
  unfold shiftF consF
  by_cases hy : y.2.1 = 0
  · simp [hy]
  · simp [hy]
theorem toks_shift (line cnt : Nat) (s : List UInt8) : ∀ m cnt2, cnt + s.length ≤ 5000 → cnt2 + s.length ≤ 5000 → toksF (line + m) cnt2 s = shiftF m (toksF line cnt s) := by
  refine toks_cases (fun line cnt s => ∀ m cnt2, cnt + s.length ≤ 5000 → cnt2 + s.length ≤ 5000 → toksF (line + m) cnt2 s = shiftF m (toksF line cnt s)) ?_ ?_ ?_ ?_ ?_ ?_ s.length line cnt s (Nat.le_refl _)
  · intro line cnt m cnt2 _ _; rw [toks_nil, toks_nil]; rfl
  · intro line cnt r ih m cnt2 h1 h2
    simp only [List.length_cons] at h1 h2
    rw [toks_blank, toks_blank, ih m cnt2 (by omega) (by omega)]
  · intro line cnt r ih m cnt2 h1 h2
    simp only [List.length_cons] at h1 h2
    rw [toks_feed, toks_feed, ← ih m cnt2 (by omega) (by omega), show line + m + 1 = line + 1 + m by omega]
  · intro line cnt r ih m cnt2 h1 h2
    simp only [List.length_cons] at h1 h2
    have := drop_len r
    rw [toks_note, toks_note, ih m cnt2 (by omega) (by omega)]
  · intro line cnt c r h1 h2 h3 hk m cnt2 hl1 hl2
    simp only [List.length_cons] at hl1 hl2
    rw [toks_eq _ _ h1 h2 h3, toks_eq _ _ h1 h2 h3]
    rcases hk with hk | hk
    · rw [if_pos hk, if_pos hk]; rfl
    · omega
  · intro line cnt c r h1 h2 h3 hk h5 ih m cnt2 hl1 hl2
    have hp := size_pos (s := c :: r) (by simp)
    have hc2 : cnt2 ≠ 5000 := by simp only [List.length_cons] at hl2; omega
    rw [toks_step _ _ h1 h2 h3 hk h5, toks_step _ _ h1 h2 h3 hk hc2, shift_cons, ih m (cnt2 + 1) (by rw [List.length_drop]; omega) (by rw [List.length_drop]; omega)]
theorem toks_e8 (line cnt : Nat) (s : List UInt8) : cnt + s.length ≤ 5000 → (toksF line cnt s).2.1 = 0 ∨ (toksF line cnt s).2.1 = 8 := by
  refine toks_cases (fun line cnt s => cnt + s.length ≤ 5000 → (toksF line cnt s).2.1 = 0 ∨ (toksF line cnt s).2.1 = 8) ?_ ?_ ?_ ?_ ?_ ?_ s.length line cnt s (Nat.le_refl _)
  · intro line cnt _; rw [toks_nil]; exact .inl rfl
  · intro line cnt r ih h; simp only [List.length_cons] at h; rw [toks_blank]; exact ih (by omega)
  · intro line cnt r ih h; simp only [List.length_cons] at h; rw [toks_feed]; exact ih (by omega)
  · intro line cnt r ih h; have := drop_len r; simp only [List.length_cons] at h; rw [toks_note]; exact ih (by omega)
  · intro line cnt c r h1 h2 h3 hk h
    simp only [List.length_cons] at h
    rw [toks_eq _ _ h1 h2 h3]
    rcases hk with hk | hk
    · rw [if_pos hk]; exact .inr rfl
    · omega
  · intro line cnt c r h1 h2 h3 hk h5 ih h
    have hp := size_pos (s := c :: r) (by simp)
    rw [toks_step _ _ h1 h2 h3 hk h5]
    have := ih (by rw [List.length_drop]; omega)
    generalize toksF line (cnt + 1) ((c :: r).drop (sizeF (c :: r))) = y at *
    unfold consF
    by_cases hy : y.2.1 = 0
    · rw [if_pos hy]; exact .inl rfl
    · rw [if_neg hy]; exact this
def byTok (m : Nat) (x : RT) : RT := ⟨x.k, x.n + m, x.t⟩
theorem parts_bad {s t : List UInt8} (hs : s.length ≤ 500) (ht : t.length ≤ 500) (h : (tokP s).2.1 ≠ 0) : tokP (s ++ 10 :: t) = tokP s := by
  have e1 : tokP s = toksF 1 0 s := by unfold tokP; rw [if_neg (by omega)]
  have e2 : tokP (s ++ 10 :: t) = toksF 1 0 (s ++ 10 :: t) := by unfold tokP; rw [if_neg (by simp only [List.length_append, List.length_cons]; omega)]
  rw [e1] at h ⊢
  rw [e2, toks_parts t 1 0 s (by omega), if_neg h]
theorem parts_ok {s t : List UInt8} (hs : s.length ≤ 500) (ht : t.length ≤ 500) (h : (tokP s).2.1 = 0) : tokP (s ++ 10 :: t) = appF (tokP s).1 (shiftF (nl s + 1) (tokP t)) := by
  have e1 : tokP s = toksF 1 0 s := by unfold tokP; rw [if_neg (by omega)]
  have e3 : tokP t = toksF 1 0 t := by unfold tokP; rw [if_neg (by omega)]
  have e2 : tokP (s ++ 10 :: t) = toksF 1 0 (s ++ 10 :: t) := by unfold tokP; rw [if_neg (by simp only [List.length_append, List.length_cons]; omega)]
  have hcn := toks_count 1 0 s
  rw [e1] at h ⊢
  rw [e2, toks_parts t 1 0 s (by omega), if_pos h, e3, show 1 + nl s + 1 = 1 + (nl s + 1) by omega, toks_shift 1 0 t (nl s + 1) _ (by omega) (by omega)]
theorem parts_far {s t : List UInt8} (hs : s.length ≤ 500) (ht : t.length ≤ 500) (h : (tokP s).2.1 = 0) (h2 : (tokP t).2.1 ≠ 0) : tokP (s ++ 10 :: t) = ([], (tokP t).2.1, (tokP t).2.2 + (nl s + 1)) := by
  rw [parts_ok hs ht h]
  unfold appF shiftF
  simp [h2]
theorem parts_both {s t : List UInt8} (hs : s.length ≤ 500) (ht : t.length ≤ 500) (h : (tokP s).2.1 = 0) (h2 : (tokP t).2.1 = 0) :
    (tokP (s ++ 10 :: t)).2.1 = 0 ∧ (tokP (s ++ 10 :: t)).2.2 = 0 ∧ (tokP (s ++ 10 :: t)).1.map Tok.rt = (tokP s).1.map Tok.rt ++ ((tokP t).1.map Tok.rt).map (byTok (nl s + 1)) := by
  rw [parts_ok hs ht h]
  unfold appF shiftF
  simp only [h2, if_pos, List.map_append, List.map_map, true_and]
  congr 1

/-! ### Kinds -/
theorem kinds_bad {s : List UInt8} (hs : s.length ≤ 1000) (h : (tokP s).2.1 ≠ 0) : (tokP s).2.1 = 8 ∧ 1 ≤ (tokP s).2.2 ∧ (tokP s).2.2 ≤ nl s + 1 := by
  have e1 : tokP s = toksF 1 0 s := by unfold tokP; rw [if_neg (by omega)]
  rw [e1] at h ⊢
  have a1 := toks_e8 1 0 s (by omega)
  have a2 := ((toks_right 1 0 s (by omega)).2 h).2
  have a3 := (toks_lines 1 0 s).2 h
  omega
theorem kinds_text {s : List UInt8} (h : (tokP s).2.1 = 0) : (tokP s).1.flatMap (·.t) = restF false s := by
  have e := (tok_zero h).2.1
  have h' := h
  rw [e] at h'
  rw [e]; exact toks_texts 1 0 s h'
theorem kinds_right {s : List UInt8} (h : (tokP s).2.1 = 0) : canF ((tokP s).1.map Tok.rt) = true := can_map (tok_zero h).2.2.2.1 (tok_zero h).2.2.2.2

/-! ### Blanks -/
theorem wide_len (m : Nat) (hm : m ≤ 3) : ∀ s : List UInt8, (wideF m s).length ≤ 4 * s.length
  | [] => by simp [wideF]
  | c :: r => by
    have := wide_len m hm r
    rw [wide_cons]
    split <;> simp only [List.length_cons, List.length_append, List.length_replicate] <;> omega
theorem long_len (k : Bool) : ∀ (i : Bool) (s : List UInt8), (longF k i s).length ≤ 8 * s.length
  | i, [] => by simp [longF]
  | i, c :: r => by
    have := long_len k ((i || c == 35) && c != 10) r
    have hg : (gapF k).length ≤ 7 := by cases k <;> simp [gapF]
    rw [long_cons]
    split <;> simp only [List.length_cons, List.length_append] <;> omega
theorem blanks_wide {s : List UInt8} {m : Nat} (hs : s.length ≤ 1000) (hm : m ≤ 3) : tokP (wideF m s) = tokP s := by
  have := wide_len m hm s
  unfold tokP
  rw [if_neg (by omega), if_neg (by omega), toks_wide]
def flatR (x : RT) : RT := ⟨x.k, 0, x.t⟩
theorem blanks_long {s : List UInt8} (k : Bool) (hs : s.length ≤ 1000) : (tokP s).2.1 = (tokP (longF k false s)).2.1 ∧ ((tokP s).1.map Tok.rt).map flatR = ((tokP (longF k false s)).1.map Tok.rt).map flatR := by
  have := long_len k false s
  unfold tokP
  rw [if_neg (by omega), if_neg (by omega)]
  obtain ⟨h1, h2⟩ := toks_long k 1 0 s 1
  refine ⟨h2.symm, ?_⟩
  have hm : ∀ l : List Tok, (l.map Tok.rt).map flatR = (l.map (fun x => (x.k, x.t))).map (fun p => (⟨(p.1 : Nat), 0, p.2⟩ : RT)) := by
    intro l; simp only [List.map_map]; rfl
  rw [hm, hm, h1]
end Go.Proofs.YthnlenbfknbmcaaGreatDoor
namespace Go.Proofs.YthnlenbfknbmcaaGreatDoor
open Go.RowKit Go.Shelf
set_option maxRecDepth 100000

def toksG : Nat → Nat → Nat → List UInt8 → List Tok × Nat × Nat
  | _, _, _, [] => ([], 0, 0)
  | 0, _, _, _ :: _ => ([], 0, 0)
  | f + 1, line, cnt, c :: r => if c = 32 then toksG f line cnt r else if c = 10 then toksG f (line + 1) cnt r else if c = 35 then toksG f line cnt (r.dropWhile (· != 10))
    else if kindF ((c :: r).take (sizeF (c :: r))) = 0 then ([], 8, line) else if cnt = 5000 then ([], 2, line) else
      consF ⟨kindF ((c :: r).take (sizeF (c :: r))), line, (c :: r).take (sizeF (c :: r))⟩ (toksG f line (cnt + 1) ((c :: r).drop (sizeF (c :: r))))
theorem toks_fuel : ∀ (f line cnt : Nat) (s : List UInt8), s.length ≤ f → toksF line cnt s = toksG f line cnt s
  | f, line, cnt, [], _ => by rw [toks_nil]; cases f <;> rfl
  | 0, _, _, _ :: _, h => by simp at h
  | f + 1, line, cnt, c :: r, h => by
    simp only [List.length_cons] at h
    rw [toksG]
    by_cases h1 : c = 32
    · subst h1; rw [if_pos rfl, toks_blank, toks_fuel f _ _ _ (by omega)]
    rw [if_neg h1]
    by_cases h2 : c = 10
    · subst h2; rw [if_pos rfl, toks_feed, toks_fuel f _ _ _ (by omega)]
    rw [if_neg h2]
    by_cases h3 : c = 35
    · subst h3; have := drop_len r; rw [if_pos rfl, toks_note, toks_fuel f _ _ _ (by omega)]
    have hp := size_pos (s := c :: r) (by simp)
    rw [if_neg h3, toks_eq _ _ h1 h2 h3, toks_fuel f _ _ _ (by rw [List.length_drop]; simp only [List.length_cons]; omega)]
abbrev src1 : List UInt8 := [114, 97, 116, 101, 32, 49, 50, 32, 35, 32, 104, 105, 103, 104, 10, 112, 114, 105, 99, 101, 32, 57, 57, 46, 53, 48, 59]
abbrev src2 : List UInt8 := [97, 10, 49, 48, 48, 48, 48, 48, 48, 48, 46, 48, 49]
abbrev src3 : List UInt8 := [49, 46, 53]
abbrev want : List RT := [⟨1, 1, [114, 97, 116, 101]⟩, ⟨2, 1, [49, 50]⟩, ⟨1, 2, [112, 114, 105, 99, 101]⟩, ⟨3, 2, [57, 57, 46, 53, 48]⟩, ⟨4, 2, [59]⟩]
abbrev txt1 : List UInt8 := [114, 97, 116, 101, 32, 49, 50, 10, 112, 114, 105, 99, 101, 32, 57, 57, 46, 53, 48, 32, 59]
theorem tk1 : (tokP src1).1.map Tok.rt = want ∧ (tokP src1).2 = (0, 0) := by
  unfold tokP; rw [if_neg (by decide), toks_fuel 40 1 0 src1 (by decide)]; decide +kernel
theorem tk2 : (tokP src2).2 = (8, 2) := by
  unfold tokP; rw [if_neg (by decide), toks_fuel 40 1 0 src2 (by decide)]; decide +kernel
theorem tk3 : (tokP src3).2 = (8, 1) := by
  unfold tokP; rw [if_neg (by decide), toks_fuel 40 1 0 src3 (by decide)]; decide +kernel
theorem jn1 : joinP want = (txt1, 0) := by decide +kernel
theorem jn2 : joinP [⟨0, 0, []⟩] = ([], 1) := by decide +kernel
theorem want_rs : RS want := by rw [← tk1.1]; exact tok_rs _
theorem zero_rs : RS [⟨0, 0, []⟩] := by intro x hx; rw [List.mem_singleton.1 hx]; exact ⟨⟨by decide, by decide⟩, ⟨by decide, by decide⟩, by simp⟩
theorem toks_new (w : World) (l : List RT) (hi : RS l) (hl : 1 ≤ l.length) (hl2 : l.length ≤ 1000) : Toks (w.alloc (.cells (l.flatMap rtC).toArray 87)) (.slice (some ⟨w.heap.size, 0, none⟩) l.length l.length) l := by
  refine (toks_of_own (base := w.heap.size) (n := l.length) ⟨by rw [lenT], .inr ⟨w.heap.size, l.length, (l.flatMap rtC).toArray, rfl, Nat.le_refl _, by simp only [World.alloc, Array.getElem?_push_size], Nat.le_refl _, by unfold maxLen; omega, ?_, ?_⟩⟩ hi (by omega)).2
  · rw [List.size_toArray, lenT]
  · show List.take (l.length * 3) (l.flatMap rtC) = _
    rw [← lenT l, List.take_length]

/-- the tokens of a source, as a law holds them -/
def TokR (s : List UInt8) (w : World) (e : Ending) (w' : World) : Prop := ∃ v, e = .returned (.tuple #[v, .int .i64 (tokP s).2.1, .int .i64 (tokP s).2.2]) ∧ Toks w' v ((tokP s).1.map Tok.rt) ∧
  w'.ownsRow w.heap.size 87 3 v ((tokP s).1.map Tok.rt).length (((tokP s).1.map Tok.rt).flatMap rtC) ∧ Below w.heap.size w w'
theorem tokR_of {s : List UInt8} {w w' : World} {e : Ending} (h : TokEnd s w e w') : TokR s w e w' := by
  obtain ⟨v, he, ho, hb⟩ := h
  have hn := tok_count s
  refine ⟨v, he, (toks_of_own ho (tok_rs s) (by rw [List.length_map]; omega)).2, by rw [List.length_map]; exact ho, hb⟩
theorem tok_any (s : List UInt8) (w : World) (hL : Lay w) : Calls Tryz.prog 23 #[.string ⟨s.toArray⟩] w (TokR s w) := (toks_any s w hL).mono fun _ _ h => tokR_of h
theorem rtok_any (s : List UInt8) (w : World) : Calls Tryz.prog 27 #[.string ⟨s.toArray⟩] w (TokR s w) := (rtoks_any s w).mono fun _ _ h => tokR_of h

end Go.Proofs.YthnlenbfknbmcaaGreatDoor
