/-
  The grammar, plain.
-/
import Derived.Test.YthnlenbfknbmcaaGreatDoorQa
import Derived.Test.YthnlenbfknbmcaaGreatDoorQf
import Derived.Lib.ItoaNum
namespace Go.Proofs.YthnlenbfknbmcaaGreatDoor

/-- what may stand behind a word or a number -/
def sepB (b : List UInt8) : Prop := ∀ c r, b = c :: r → letB c = false ∧ digB c = false ∧ c ≠ 46
theorem sep_nil : sepB [] := fun c r h => by cases h
theorem size_sign {c : UInt8} (h : sgnB c = true) (b : List UInt8) : sizeF (c :: b) = 1 := by
  have hc : letB c = false ∧ digB c = false := by
    have : ∀ x ∈ signs, letB x = false ∧ digB x = false := by decide
    exact this c (by simpa [sgnB] using h)
  have hn : nDig (c :: b) = 0 := by unfold nDig; rw [List.takeWhile_cons, if_neg (by rw [hc.2]; simp)]; rfl
  unfold sizeF
  simp only
  rw [if_neg (by rw [hc.1]; simp), if_pos hn]
theorem size_word {t b : List UInt8} (h : kindF t ≠ 0) (hb : sepB b) : sizeF (t ++ b) = t.length := by
  rcases kind_shape h with ⟨c, rfl, hc⟩ | hl | hd | ⟨A, B, rfl, hA, hB⟩
  · exact size_sign hc b
  · cases t with
    | nil => exact absurd rfl h
    | cons c r =>
      have hcl : letB c = true := hl c (by simp)
      have htw : (c :: (r ++ b)).takeWhile letB = c :: r := tw_gap (a := c :: r) hl (fun c r e => (hb c r e).1)
      show sizeF (c :: (r ++ b)) = _
      unfold sizeF
      simp only
      rw [if_pos hcl, nLet, htw]
  · cases t with
    | nil => exact absurd rfl h
    | cons c r =>
      have hcd : digB c = true := hd c (by simp)
      have hcl : letB c = false := by
        unfold digB at hcd; unfold letB; simp at hcd ⊢; omega
      have htw : (c :: (r ++ b)).takeWhile digB = c :: r := tw_gap (a := c :: r) hd (fun c r e => (hb c r e).2.1)
      have hn : nDig (c :: (r ++ b)) = (c :: r).length := by rw [nDig, htw]
      have hp : (c :: (r ++ b))[(c :: r).length]? ≠ some 46 := by
        show ((c :: r) ++ b)[(c :: r).length]? ≠ some 46
        rw [get_app rfl]
        cases b with
        | nil => simp
        | cons d q => intro e; exact (hb d q rfl).2.2 (Option.some.inj e)
      show sizeF (c :: (r ++ b)) = _
      unfold sizeF
      simp only
      rw [if_neg (by rw [hcl]; simp), hn, if_neg (by simp), if_neg hp]
  · cases A with
    | nil =>
      exfalso
      apply h
      unfold kindF
      have h1 : sgnB 46 = false := by decide
      have h2 : nDig ([] ++ 46 :: B) = 0 := by unfold nDig; simp [digB]
      simp only [List.nil_append] at h2 ⊢
      rw [if_neg (by rw [h1]; simp), if_neg (by decide), if_pos (.inl (by rw [h2]; omega))]
    | cons c r =>
      have hcd : digB c = true := hA c (by simp)
      have hcl : letB c = false := by
        unfold digB at hcd; unfold letB; simp at hcd ⊢; omega
      have e : (c :: r) ++ 46 :: B ++ b = (c :: r) ++ (46 :: (B ++ b)) := by simp
      rw [e]
      have htw : ((c :: r) ++ (46 :: (B ++ b))).takeWhile digB = c :: r := tw_gap hA (fun d q e => by cases e; decide)
      have hn : nDig ((c :: r) ++ (46 :: (B ++ b))) = (c :: r).length := by rw [nDig, htw]
      have hp : ((c :: r) ++ (46 :: (B ++ b)))[(c :: r).length]? = some 46 := get_app rfl
      have hdr : ((c :: r) ++ (46 :: (B ++ b))).drop ((c :: r).length + 1) = B ++ b := by rw [List.drop_append, List.drop_eq_nil_of_le (by omega), List.nil_append, show (c :: r).length + 1 - (c :: r).length = 1 by omega]; rfl
      have hB2 : nDig (B ++ b) = B.length := by rw [nDig, tw_gap hB (fun c r e => (hb c r e).2.1)]
      have hu : ∀ s : List UInt8, s = c :: (r ++ (46 :: (B ++ b))) → sizeF s = if letB c then nLet s else if nDig s = 0 then 1 else if s[nDig s]? = some 46 then nDig s + 1 + nDig (s.drop (nDig s + 1)) else nDig s := by
        rintro s rfl; rfl
      have hu2 := hu ((c :: r) ++ 46 :: (B ++ b)) rfl
      rw [hu2, if_neg (by rw [hcl]; simp), hn, if_neg (by simp), if_pos hp, hdr, hB2]
      simp only [List.length_append, List.length_cons]; omega
theorem toks_text {t b : List UInt8} (line cnt : Nat) (hk : kindF t ≠ 0) (hs : sizeF (t ++ b) = t.length) (hc : cnt ≠ 5000) : toksF line cnt (t ++ b) = consF ⟨kindF t, line, t⟩ (toksF line (cnt + 1) b) := by
  cases t with
  | nil => exact absurd rfl hk
  | cons c r =>
    obtain ⟨h1, h2, h3⟩ := kind_bytes hk c (by simp)
    have htk : (c :: (r ++ b)).take (sizeF (c :: (r ++ b))) = c :: r := by
      have : sizeF (c :: (r ++ b)) = (c :: r).length := hs
      rw [this]; exact List.take_left (l₁ := c :: r)
    have hdr : (c :: (r ++ b)).drop (sizeF (c :: (r ++ b))) = b := by
      have : sizeF (c :: (r ++ b)) = (c :: r).length := hs
      rw [this]; exact List.drop_left (l₁ := c :: r)
    have := toks_step line cnt (c := c) (r := r ++ b) h1 h2 h3 (by rw [htk]; exact hk) hc
    rw [htk, hdr] at this
    exact this

/-- kinds and texts as tokens on a line -/
def onL (line : Nat) (ks : List (Nat × List UInt8)) : List Tok := ks.map fun p => ⟨p.1, line, p.2⟩
/-- the text is read as these tokens, whatever stands behind it -/
def LxA (ks : List (Nat × List UInt8)) (s : List UInt8) : Prop := ∀ line cnt b, cnt + ks.length ≤ 5000 → toksF line cnt (s ++ b) = appF (onL line ks) (toksF line (cnt + ks.length) b)
/-- .. if what stands behind it is no letter, digit or point -/
def LxD (ks : List (Nat × List UInt8)) (s : List UInt8) : Prop := ∀ line cnt b, sepB b → cnt + ks.length ≤ 5000 → toksF line cnt (s ++ b) = appF (onL line ks) (toksF line (cnt + ks.length) b)
theorem LxA.d {ks : List (Nat × List UInt8)} {s : List UInt8} (h : LxA ks s) : LxD ks s := fun line cnt b _ hc => h line cnt b hc
theorem app_app (l m : List Tok) (y : List Tok × Nat × Nat) : appF l (appF m y) = appF (l ++ m) y := by
  unfold appF
  by_cases h : y.2.1 = 0
  · simp [h]
  · simp [h]
theorem app_one (x : Tok) (y : List Tok × Nat × Nat) : appF [x] y = consF x y := by unfold appF consF; rfl
theorem lx_nil : LxA [] [] := fun line cnt b hc => (app_nil (by simpa using hc)).symm
theorem lx_blank : LxA [] [32] := fun line cnt b hc => by
  show toksF line cnt (32 :: b) = _
  rw [toks_blank]; exact (app_nil (by simpa using hc)).symm
theorem lx_sign {c : UInt8} (h : sgnB c = true) : LxA [(4, [c])] [c] := fun line cnt b hc => by
  have hk : kindF [c] = 4 := by unfold kindF; simp only; rw [if_pos ⟨rfl, h⟩]
  simp only [List.length_cons, List.length_nil] at hc
  rw [toks_text line cnt (by rw [hk]; decide) (size_sign h b) (by omega), hk]
  exact (app_one _ _).symm
theorem lx_word {t : List UInt8} {k : Nat} (hk : kindF t = k) (h0 : k ≠ 0) : LxD [(k, t)] t := fun line cnt b hb hc => by
  simp only [List.length_cons, List.length_nil] at hc
  rw [toks_text line cnt (by rw [hk]; exact h0) (size_word (by rw [hk]; exact h0) hb) (by omega), hk]
  exact (app_one _ _).symm
theorem lx_cat {k1 k2 : List (Nat × List UInt8)} {s1 s2 : List UInt8} (h1 : LxA k1 s1) (h2 : LxA k2 s2) : LxA (k1 ++ k2) (s1 ++ s2) := fun line cnt b hc => by
  rw [List.length_append] at hc
  rw [List.append_assoc, h1 line cnt (s2 ++ b) (by omega), h2 line _ b (by omega), app_app, List.length_append, Nat.add_assoc]
  unfold onL; rw [List.map_append]
theorem lx_catD {k1 k2 : List (Nat × List UInt8)} {s1 s2 : List UInt8} (h1 : LxA k1 s1) (h2 : LxD k2 s2) : LxD (k1 ++ k2) (s1 ++ s2) := fun line cnt b hb hc => by
  rw [List.length_append] at hc
  rw [List.append_assoc, h1 line cnt (s2 ++ b) (by omega), h2 line _ b hb (by omega), app_app, List.length_append, Nat.add_assoc]
  unfold onL; rw [List.map_append]
/-- a word, and behind it what begins with a sign or a blank -/
theorem lx_then {k1 k2 : List (Nat × List UInt8)} {s1 s2 : List UInt8} {c : UInt8} (h1 : LxD k1 s1) (h2 : LxA k2 (c :: s2)) (hc : letB c = false ∧ digB c = false ∧ c ≠ 46) : LxA (k1 ++ k2) (s1 ++ c :: s2) := fun line cnt b hcn => by
  rw [List.length_append] at hcn
  rw [List.append_assoc, h1 line cnt (c :: s2 ++ b) (fun d r e => by cases e; exact hc) (by omega), h2 line _ b (by omega), app_app, List.length_append, Nat.add_assoc]
  unfold onL; rw [List.map_append]
theorem lx_all {ks : List (Nat × List UInt8)} {s : List UInt8} (h : LxD ks s) (hl : ks.length ≤ 5000) (line : Nat) : toksF line 0 s = (onL line ks, 0, 0) := by
  have := h line 0 [] sep_nil (by omega)
  rw [List.append_nil, toks_nil] at this
  rw [this]; unfold appF; simp
end Go.Proofs.YthnlenbfknbmcaaGreatDoor
namespace Go.Proofs.YthnlenbfknbmcaaGreatDoor

inductive Xp where
  | mk (op n : Int) (kids : List Xp)
instance : Inhabited Xp := ⟨.mk 0 0 []⟩
def leafE (o n : Int) : Xp := .mk o n []
def nodeE (o : Int) (l : List Xp) : Xp := .mk o 0 l
/-- a word, a number, an expression -/
inductive Item where
  | lit (w : List UInt8)
  | num
  | ex
inductive Cat where
  | seq (l : List Item)
  | expr
  | lvl (n : Nat)
  | tail (n : Nat) (e : Xp)
  | atom
/-- what was read and what is left, or where the token stands that cannot follow -/
inductive Res where
  | ok (l : List Xp) (r : List Tok)
  | bad (r : List Tok)
def Res.app (es : List Xp) : Res → Res
  | .ok l r => .ok (es ++ l) r
  | .bad r => .bad r
def Res.nod (o : Int) : Res → Res
  | .ok l r => .ok [nodeE o l] r
  | .bad r => .bad r
def wIf : List UInt8 := [105, 102]
def wThen : List UInt8 := [116, 104, 101, 110]
def wElse : List UInt8 := [101, 108, 115, 101]
def wNot : List UInt8 := [110, 111, 116]
def wMin : List UInt8 := [109, 105, 110]
def wMax : List UInt8 := [109, 97, 120]
def wOr : List UInt8 := [111, 114]
def wAnd : List UInt8 := [97, 110, 100]
def wOpen : List UInt8 := [40]
def wShut : List UInt8 := [41]
def wComma : List UInt8 := [44]
def ifI : List Item := [.ex, .lit wThen, .ex, .lit wElse, .ex]
def twoI : List Item := [.lit wOpen, .ex, .lit wComma, .ex, .lit wShut]
def brI : List Item := [.ex, .lit wShut]
def isT (w : List UInt8) : List Tok → Bool
  | [] => false
  | x :: _ => x.t == w
/-- the number of a variable, or 0 -/
def varF (t : List UInt8) : Nat :=
  if t = [110, 105, 103, 104, 116, 115] then 1 else if t = [112, 101, 114, 115, 111, 110, 115] then 2 else if t = [110, 105, 103, 104, 116] then 3 else if t = [119, 101, 101, 107, 100, 97, 121] then 4 else 0
/-- the operator of a level (1: or, 2: and, 3: comparisons, 4: sums, 5: products), or 0 -/
def opL (n : Nat) : List Tok → Nat
  | [] => 0
  | x :: _ => if n = 1 ∧ x.t = wOr then 14 else if n = 2 ∧ x.t = wAnd then 13 else if n = 3 ∧ x.t = [60] then 11 else if n = 3 ∧ x.t = [61] then 12
    else if n = 4 ∧ x.t = [43] then 4 else if n = 4 ∧ x.t = [45] then 5 else if n = 5 ∧ x.t = [42] then 6 else if n = 5 ∧ x.t = [47] then 7 else 0
def after (v : Option Res) (k : List Xp → List Tok → Option Res) : Option Res :=
  match v with
  | none => none
  | some (.bad r) => some (.bad r)
  | some (.ok l r) => k l r
/-- one step of the reading -/
def stepP (rec : Cat → List Tok → Option Res) : Cat → List Tok → Option Res
  | .seq [], ts => some (.ok [] ts)
  | .seq (.lit w :: is), ts => if isT w ts then rec (.seq is) ts.tail else some (.bad ts)
  | .seq (.num :: is), ts => (match ts with
    | [] => some (.bad [])
    | x :: r => if x.k = 2 then after (rec (.seq is) r) fun l r => some (.ok (leafE 1 (cents x.t) :: l) r) else some (.bad (x :: r)))
  | .seq (.ex :: is), ts => after (rec .expr ts) fun es r => after (rec (.seq is) r) fun l r => some (.ok (es ++ l) r)
  | .expr, ts => if isT wIf ts then after (rec (.seq ifI) ts.tail) fun l r => some (.ok [nodeE 10 l] r) else rec (.lvl 1) ts
  | .lvl n, ts => if 5 < n then rec .atom ts else if n = 3 ∧ isT wNot ts = true then after (rec (.lvl 3) ts.tail) fun l r => some (.ok [nodeE 15 l] r)
      else after (rec (.lvl (n + 1)) ts) fun l r => rec (.tail n (l.headD default)) r
  | .tail n e, ts => if opL n ts = 0 then some (.ok [e] ts) else after (rec (.lvl (n + 1)) ts.tail) fun l r => if n = 3 then some (.ok [nodeE (opL n ts) (e :: l)] r) else rec (.tail n (nodeE (opL n ts) (e :: l))) r
  | .atom, ts => (match ts with
    | [] => some (.bad [])
    | x :: r => if x.k = 2 then some (.ok [leafE 1 (cents x.t)] r) else if x.k = 3 then some (.ok [leafE 2 (cents x.t)] r) else if varF x.t ≠ 0 then some (.ok [leafE 3 (varF x.t)] r)
      else if x.t = wMin then after (rec (.seq twoI) r) fun l r => some (.ok [nodeE 8 l] r) else if x.t = wMax then after (rec (.seq twoI) r) fun l r => some (.ok [nodeE 9 l] r)
      else if x.t = wOpen then rec (.seq brI) r else some (.bad (x :: r)))
def run : Nat → Cat → List Tok → Option Res
  | 0, _, _ => none
  | f + 1, c, ts => stepP (run f) c ts
/-- what is read, with fuel enough -/
def G (c : Cat) (ts : List Tok) (a : Res) : Prop := ∃ f, run f c ts = some a

theorem after_mono {v v' : Option Res} {k k' : List Xp → List Tok → Option Res} (hv : ∀ a, v = some a → v' = some a) (hk : ∀ l r a, k l r = some a → k' l r = some a) : ∀ a, after v k = some a → after v' k' = some a := by
  intro a h
  cases hv0 : v with
  | none => rw [hv0] at h; cases h
  | some b =>
    rw [hv0] at h
    rw [hv b hv0]
    cases b with
    | bad r => exact h
    | ok l r => exact hk l r a h
theorem step_mono {rec rec' : Cat → List Tok → Option Res} (h : ∀ c ts a, rec c ts = some a → rec' c ts = some a) : ∀ c ts a, stepP rec c ts = some a → stepP rec' c ts = some a := by
  intro c ts a ha
  match c with
  | .seq [] => exact ha
  | .seq (.lit w :: is) =>
    simp only [stepP] at ha ⊢
    split
    · next hc => rw [if_pos hc] at ha; exact h _ _ _ ha
    · next hc => rw [if_neg hc] at ha; exact ha
  | .seq (.num :: is) =>
    cases ts with
    | nil => exact ha
    | cons x r =>
      simp only [stepP] at ha ⊢
      split
      · next hc => rw [if_pos hc] at ha; exact after_mono (h _ _) (fun _ _ _ h => h) a ha
      · next hc => rw [if_neg hc] at ha; exact ha
  | .seq (.ex :: is) => exact after_mono (h _ _) (fun l r a => after_mono (h _ _) (fun _ _ _ h => h) a) a ha
  | .expr =>
    simp only [stepP] at ha ⊢
    split
    · next hc => rw [if_pos hc] at ha; exact after_mono (h _ _) (fun _ _ _ h => h) a ha
    · next hc => rw [if_neg hc] at ha; exact h _ _ _ ha
  | .lvl n =>
    simp only [stepP] at ha ⊢
    split
    · next hc => rw [if_pos hc] at ha; exact h _ _ _ ha
    · next hc =>
      rw [if_neg hc] at ha
      split
      · next hd => rw [if_pos hd] at ha; exact after_mono (h _ _) (fun _ _ _ h => h) a ha
      · next hd => rw [if_neg hd] at ha; exact after_mono (h _ _) (fun _ _ _ h2 => h _ _ _ h2) a ha
  | .tail n e =>
    simp only [stepP] at ha ⊢
    split
    · next hc => rw [if_pos hc] at ha; exact ha
    · next hc =>
      rw [if_neg hc] at ha
      refine after_mono (h _ _) (fun l r b hb => ?_) a ha
      split
      · next hd => rw [if_pos hd] at hb; exact hb
      · next hd => rw [if_neg hd] at hb; exact h _ _ _ hb
  | .atom =>
    cases ts with
    | nil => exact ha
    | cons x r =>
      simp only [stepP] at ha ⊢
      split
      · next hc => rw [if_pos hc] at ha; exact ha
      · next h1 =>
        rw [if_neg h1] at ha
        split
        · next hc => rw [if_pos hc] at ha; exact ha
        · next h2 =>
          rw [if_neg h2] at ha
          split
          · next hc => rw [if_pos hc] at ha; exact ha
          · next h3 =>
            rw [if_neg h3] at ha
            split
            · next hc => rw [if_pos hc] at ha; exact after_mono (h _ _) (fun _ _ _ h => h) a ha
            · next h4 =>
              rw [if_neg h4] at ha
              split
              · next hc => rw [if_pos hc] at ha; exact after_mono (h _ _) (fun _ _ _ h => h) a ha
              · next h5 =>
                rw [if_neg h5] at ha
                split
                · next hc => rw [if_pos hc] at ha; exact h _ _ _ ha
                · next hc => rw [if_neg hc] at ha; exact ha
theorem run_more : ∀ (f : Nat) (c : Cat) (ts : List Tok) (a : Res), run f c ts = some a → run (f + 1) c ts = some a
  | 0, _, _, _, h => by cases h
  | f + 1, c, ts, a, h => step_mono (run_more f) c ts a h
theorem run_le {f g : Nat} (h : f ≤ g) {c : Cat} {ts : List Tok} {a : Res} (hr : run f c ts = some a) : run g c ts = some a := by
  induction h with
  | refl => exact hr
  | step _ ih => exact run_more _ _ _ _ ih
theorem G.det {c : Cat} {ts : List Tok} {a b : Res} (ha : G c ts a) (hb : G c ts b) : a = b := by
  obtain ⟨f, hf⟩ := ha
  obtain ⟨g, hg⟩ := hb
  have h1 := run_le (Nat.le_max_left f g) hf
  rw [run_le (Nat.le_max_right f g) hg] at h1
  exact (Option.some.inj h1).symm
end Go.Proofs.YthnlenbfknbmcaaGreatDoor
namespace Go.Proofs.YthnlenbfknbmcaaGreatDoor

def Res.rest : Res → List Tok
  | .ok _ r => r
  | .bad r => r
theorem after_cases {v : Option Res} {k : List Xp → List Tok → Option Res} {a : Res} (h : after v k = some a) : (∃ r, v = some (.bad r) ∧ a = .bad r) ∨ ∃ l r, v = some (.ok l r) ∧ k l r = some a := by
  cases v with
  | none => cases h
  | some b =>
    cases b with
    | bad r => exact .inl ⟨r, rfl, (Option.some.inj h).symm⟩
    | ok l r => exact .inr ⟨l, r, rfl, h⟩
theorem after_suf {ts ts2 : List Tok} {v : Option Res} {k : List Xp → List Tok → Option Res} {a : Res} (h : after v k = some a) (hs : ts2 <:+ ts) (hv : ∀ b, v = some b → b.rest <:+ ts2) (hk : ∀ l r, k l r = some a → a.rest <:+ r) : a.rest <:+ ts := by
  rcases after_cases h with ⟨r, hr, rfl⟩ | ⟨l, r, hr, hkk⟩
  · exact (hv _ hr).trans hs
  · exact (hk l r hkk).trans ((hv _ hr).trans hs)
theorem tail_suf (ts : List Tok) : ts.tail <:+ ts := List.tail_suffix ts
theorem ok_suf {x : Res} {l : List Xp} {r : List Tok} (h : some (Res.ok l r) = some x) : x.rest <:+ r := by cases h; exact List.suffix_refl _
theorem step_suf {rec : Cat → List Tok → Option Res} (h : ∀ c ts a, rec c ts = some a → a.rest <:+ ts) : ∀ c ts a, stepP rec c ts = some a → a.rest <:+ ts := by
  intro c ts a ha
  match c with
  | .seq [] => exact ok_suf ha
  | .seq (.lit w :: is) =>
    simp only [stepP] at ha
    split at ha
    · exact (h _ _ _ ha).trans (tail_suf ts)
    · cases ha; exact List.suffix_refl _
  | .seq (.num :: is) =>
    cases ts with
    | nil => cases ha; exact List.suffix_refl _
    | cons x r =>
      simp only [stepP] at ha
      split at ha
      · exact after_suf ha (tail_suf (x :: r)) (fun b hb => h _ _ _ hb) (fun l r h => ok_suf h)
      · cases ha; exact List.suffix_refl _
  | .seq (.ex :: is) => exact after_suf ha (List.suffix_refl _) (fun b hb => h _ _ _ hb) (fun l r h2 => after_suf h2 (List.suffix_refl _) (fun b hb => h _ _ _ hb) (fun _ _ h => ok_suf h))
  | .expr =>
    simp only [stepP] at ha
    split at ha
    · exact after_suf ha (tail_suf ts) (fun b hb => h _ _ _ hb) (fun l r h => ok_suf h)
    · exact h _ _ _ ha
  | .lvl n =>
    simp only [stepP] at ha
    split at ha
    · exact h _ _ _ ha
    · split at ha
      · exact after_suf ha (tail_suf ts) (fun b hb => h _ _ _ hb) (fun l r h => ok_suf h)
      · exact after_suf ha (List.suffix_refl _) (fun b hb => h _ _ _ hb) (fun l r h2 => h _ _ _ h2)
  | .tail n e =>
    simp only [stepP] at ha
    split at ha
    · exact ok_suf ha
    · refine after_suf ha (tail_suf ts) (fun b hb => h _ _ _ hb) (fun l r h2 => ?_)
      split at h2
      · exact ok_suf h2
      · exact h _ _ _ h2
  | .atom =>
    cases ts with
    | nil => cases ha; exact List.suffix_refl _
    | cons x r =>
      simp only [stepP] at ha
      have hx : r <:+ x :: r := tail_suf (x :: r)
      split at ha
      · exact (ok_suf ha).trans hx
      · split at ha
        · exact (ok_suf ha).trans hx
        · split at ha
          · exact (ok_suf ha).trans hx
          · split at ha
            · exact after_suf ha hx (fun b hb => h _ _ _ hb) (fun l r h => ok_suf h)
            · split at ha
              · exact after_suf ha hx (fun b hb => h _ _ _ hb) (fun l r h => ok_suf h)
              · split at ha
                · exact (h _ _ _ ha).trans hx
                · cases ha; exact List.suffix_refl _
theorem run_suf : ∀ (f : Nat) (c : Cat) (ts : List Tok) (a : Res), run f c ts = some a → a.rest <:+ ts
  | 0, _, _, _, h => by cases h
  | f + 1, c, ts, a, h => step_suf (run_suf f) c ts a h
theorem G.suf {c : Cat} {ts : List Tok} {a : Res} (h : G c ts a) : a.rest <:+ ts := by obtain ⟨f, hf⟩ := h; exact run_suf f c ts a hf

/-- of nothing only nothing is read -/
def wants : Cat → Bool
  | .seq [] => false
  | .tail _ _ => false
  | _ => true
theorem step_none {rec : Cat → List Tok → Option Res} (h : ∀ c l r, wants c = true → rec c [] ≠ some (.ok l r)) : ∀ c l r, wants c = true → stepP rec c [] ≠ some (.ok l r) := by
  intro c l r hw ha
  match c with
  | .seq [] => cases hw
  | .seq (.lit w :: is) => cases ha
  | .seq (.num :: is) => cases ha
  | .seq (.ex :: is) =>
    rcases after_cases ha with ⟨q, hq, hb⟩ | ⟨l2, r2, hq, _⟩
    · cases hb
    · exact h .expr l2 r2 rfl hq
  | .expr => exact h (.lvl 1) l r rfl ha
  | .lvl n =>
    simp only [stepP] at ha
    split at ha
    · exact h .atom l r rfl ha
    · split at ha
      · next hd => cases hd.2
      · rcases after_cases ha with ⟨q, hq, hb⟩ | ⟨l2, r2, hq, _⟩
        · cases hb
        · exact h (.lvl (n + 1)) l2 r2 rfl hq
  | .tail n e => cases hw
  | .atom => cases ha
theorem run_none : ∀ (f : Nat) (c : Cat) (l : List Xp) (r : List Tok), wants c = true → run f c [] ≠ some (.ok l r)
  | 0, _, _, _, _ => by intro h; cases h
  | f + 1, c, l, r, hw => step_none (run_none f) c l r hw

/-- nothing that follows is looked at -/
def closedI : List Item → Bool
  | [] => true
  | .ex :: [] => false
  | _ :: is => closedI is
def closed : Cat → Bool
  | .seq is => closedI is
  | .atom => true
  | .lvl n => decide (5 < n)
  | _ => false
def stopT (us : List Tok) : Prop := ∀ n, opL n us = 0
theorem isT_app {w : List UInt8} {ts us : List Tok} (h : ts ≠ []) : isT w (ts ++ us) = isT w ts := by cases ts with | nil => exact absurd rfl h | cons x r => rfl
theorem tail_app {ts us : List Tok} (h : ts ≠ []) : (ts ++ us).tail = ts.tail ++ us := by cases ts with | nil => exact absurd rfl h | cons x r => rfl
theorem op_app {n : Nat} {ts us : List Tok} (h : ts ≠ []) : opL n (ts ++ us) = opL n ts := by cases ts with | nil => exact absurd rfl h | cons x r => rfl
theorem isT_ne {w : List UInt8} {ts : List Tok} (h : isT w ts = true) : ts ≠ [] := by rintro rfl; cases h
theorem op_ne {n : Nat} {ts : List Tok} (h : opL n ts ≠ 0) : ts ≠ [] := by rintro rfl; exact h rfl
theorem suf_ne {r ts : List Tok} (h : r <:+ ts) (hr : r ≠ []) : ts ≠ [] := by rintro rfl; exact hr (List.suffix_nil.1 h)
theorem after_ok {v : Option Res} {k : List Xp → List Tok → Option Res} {l : List Xp} {r : List Tok} (h : after v k = some (.ok l r)) : ∃ l2 r2, v = some (.ok l2 r2) ∧ k l2 r2 = some (.ok l r) := by
  rcases after_cases h with ⟨q, _, hb⟩ | h
  · cases hb
  · exact h
theorem after_mk {v : Option Res} {k : List Xp → List Tok → Option Res} {l : List Xp} {r : List Tok} (h : v = some (.ok l r)) : after v k = k l r := by rw [h]; rfl
variable {us : List Tok}
theorem step_app {rec : Cat → List Tok → Option Res} (hs : ∀ c ts a, rec c ts = some a → a.rest <:+ ts) (hn : ∀ c l r, wants c = true → rec c [] ≠ some (.ok l r))
    (h : ∀ c ts l r, rec c ts = some (.ok l r) → (r ≠ [] ∨ closed c = true ∨ stopT us) → rec c (ts ++ us) = some (.ok l (r ++ us))) :
    ∀ c ts l r, stepP rec c ts = some (.ok l r) → (r ≠ [] ∨ closed c = true ∨ stopT us) → stepP rec c (ts ++ us) = some (.ok l (r ++ us)) := by
  intro c ts l r ha hc
  have hnn : wants c = true → ts ≠ [] := by rintro hw rfl; exact step_none hn c l r hw ha
  match c with
  | .seq [] => cases ha; rfl
  | .seq (.lit w :: is) =>
    have ht := hnn rfl
    simp only [stepP] at ha ⊢
    rw [isT_app ht, tail_app ht]
    split
    · next hi =>
      rw [if_pos hi] at ha
      exact h _ _ _ _ ha (by rcases hc with hc | hc | hc; exact .inl hc; exact .inr (.inl hc); exact .inr (.inr hc))
    · next hi => rw [if_neg hi] at ha; cases ha
  | .seq (.num :: is) =>
    cases ts with
    | nil => exact absurd rfl (hnn rfl)
    | cons x q =>
      simp only [stepP, List.cons_append] at ha ⊢
      split
      · next hi =>
        rw [if_pos hi] at ha
        obtain ⟨l2, r2, h1, h2⟩ := after_ok ha
        cases h2
        rw [after_mk (h _ _ _ _ h1 (by rcases hc with hc | hc | hc; exact .inl hc; exact .inr (.inl hc); exact .inr (.inr hc)))]
      · next hi => rw [if_neg hi] at ha; cases ha
  | .seq (.ex :: is) =>
    simp only [stepP] at ha ⊢
    obtain ⟨l1, r1, h1, h2⟩ := after_ok ha
    obtain ⟨l2, r2, h3, h4⟩ := after_ok h2
    cases h4
    have hc1 : r1 ≠ [] ∨ stopT us := by
      rcases hc with hc | hc | hc
      · exact .inl (suf_ne (hs _ _ _ h3) hc)
      · cases is with
        | nil => cases hc
        | cons i is =>
          left; rintro rfl
          exact hn _ _ _ rfl h3
      · exact .inr hc
    have hc2 : r ≠ [] ∨ closed (.seq is) = true ∨ stopT us := by
      rcases hc with hc | hc | hc
      · exact .inl hc
      · cases is with
        | nil => cases hc
        | cons i is => exact .inr (.inl hc)
      · exact .inr (.inr hc)
    rw [after_mk (h _ _ _ _ h1 (hc1.elim .inl (fun h => .inr (.inr h)))), after_mk (h _ _ _ _ h3 hc2)]
  | .expr =>
    have ht := hnn rfl
    have hc2 : r ≠ [] ∨ stopT us := by rcases hc with hc | hc | hc; exact .inl hc; cases hc; exact .inr hc
    simp only [stepP] at ha ⊢
    rw [isT_app ht, tail_app ht]
    split
    · next hi =>
      rw [if_pos hi] at ha
      obtain ⟨l1, r1, h1, h2⟩ := after_ok ha
      cases h2
      rw [after_mk (h _ _ _ _ h1 (hc2.elim .inl (fun h => .inr (.inr h))))]
    · next hi => rw [if_neg hi] at ha; exact h _ _ _ _ ha (hc2.elim .inl (fun h => .inr (.inr h)))
  | .lvl n =>
    have ht := hnn rfl
    simp only [stepP] at ha ⊢
    rw [isT_app ht, tail_app ht]
    split
    · next hi => rw [if_pos hi] at ha; exact h _ _ _ _ ha (.inr (.inl rfl))
    · next hi =>
      rw [if_neg hi] at ha
      have hc2 : r ≠ [] ∨ stopT us := by
        rcases hc with hc | hc | hc
        · exact .inl hc
        · exact absurd (of_decide_eq_true hc) hi
        · exact .inr hc
      split
      · next hd =>
        rw [if_pos hd] at ha
        obtain ⟨l1, r1, h1, h2⟩ := after_ok ha
        cases h2
        rw [after_mk (h _ _ _ _ h1 (hc2.elim .inl (fun h => .inr (.inr h))))]
      · next hd =>
        rw [if_neg hd] at ha
        obtain ⟨l1, r1, h1, h2⟩ := after_ok ha
        rw [after_mk (h _ _ _ _ h1 (hc2.elim (fun hr => .inl (suf_ne (hs _ _ _ h2) hr)) (fun h => .inr (.inr h))))]
        exact h _ _ _ _ h2 (hc2.elim .inl (fun h => .inr (.inr h)))
  | .tail n e =>
    have hc2 : r ≠ [] ∨ stopT us := by rcases hc with hc | hc | hc; exact .inl hc; cases hc; exact .inr hc
    by_cases h0 : opL n ts = 0
    · simp only [stepP] at ha ⊢
      rw [if_pos h0] at ha
      cases ha
      have h0' : opL n (ts ++ us) = 0 := by
        by_cases ht : ts = []
        · subst ht
          rcases hc2 with h | h
          · exact absurd rfl h
          · exact h n
        · rw [op_app ht]; exact h0
      rw [if_pos h0']
    · have ht := op_ne h0
      simp only [stepP] at ha ⊢
      rw [op_app ht, tail_app ht, if_neg h0]
      rw [if_neg h0] at ha
      obtain ⟨l1, r1, h1, h2⟩ := after_ok ha
      split at h2
      · next h3 =>
        cases h2
        rw [after_mk (h _ _ _ _ h1 (hc2.elim .inl (fun h => .inr (.inr h)))), if_pos h3]
      · next h3 =>
        rw [after_mk (h _ _ _ _ h1 (hc2.elim (fun hr => .inl (suf_ne (hs _ _ _ h2) hr)) (fun h => .inr (.inr h)))), if_neg h3]
        exact h _ _ _ _ h2 (hc2.elim .inl (fun h => .inr (.inr h)))
  | .atom =>
    cases ts with
    | nil => exact absurd rfl (hnn rfl)
    | cons x q =>
      simp only [stepP, List.cons_append] at ha ⊢
      split
      · next hi => rw [if_pos hi] at ha; cases ha; rfl
      · next hi =>
        rw [if_neg hi] at ha
        split
        · next h2 => rw [if_pos h2] at ha; cases ha; rfl
        · next h2 =>
          rw [if_neg h2] at ha
          split
          · next h3 => rw [if_pos h3] at ha; cases ha; rfl
          · next h3 =>
            rw [if_neg h3] at ha
            split
            · next h4 =>
              rw [if_pos h4] at ha
              obtain ⟨l1, r1, g1, g2⟩ := after_ok ha
              cases g2
              rw [after_mk (h _ _ _ _ g1 (.inr (.inl rfl)))]
            · next h4 =>
              rw [if_neg h4] at ha
              split
              · next h5 =>
                rw [if_pos h5] at ha
                obtain ⟨l1, r1, g1, g2⟩ := after_ok ha
                cases g2
                rw [after_mk (h _ _ _ _ g1 (.inr (.inl rfl)))]
              · next h5 =>
                rw [if_neg h5] at ha
                split
                · next h6 => rw [if_pos h6] at ha; exact h _ _ _ _ ha (.inr (.inl rfl))
                · next h6 => rw [if_neg h6] at ha; cases ha
theorem run_app : ∀ (f : Nat) (c : Cat) (ts : List Tok) (l : List Xp) (r : List Tok), run f c ts = some (.ok l r) → (r ≠ [] ∨ closed c = true ∨ stopT us) → run f c (ts ++ us) = some (.ok l (r ++ us))
  | 0, _, _, _, _, h, _ => by cases h
  | f + 1, c, ts, l, r, h, hc => step_app (run_suf f) (fun c l r hw => run_none f c l r hw) (run_app f) c ts l r h hc
theorem G.app {c : Cat} {ts : List Tok} {l : List Xp} {r : List Tok} (h : G c ts (.ok l r)) (hc : r ≠ [] ∨ closed c = true ∨ stopT us) : G c (ts ++ us) (.ok l (r ++ us)) := by
  obtain ⟨f, hf⟩ := h; exact ⟨f, run_app f c ts l r hf hc⟩

/-! ### The rules -/
variable {c c1 c2 : Cat} {ts t1 t2 r : List Tok} {a a1 a2 : Res} {x : Tok} {is : List Item} {w : List UInt8}
theorem g_mk0 (h : ∀ rec, stepP rec c ts = some a) : G c ts a := ⟨1, h _⟩
theorem g_mk1 (h1 : G c1 t1 a1) (h : ∀ rec : Cat → List Tok → Option Res, rec c1 t1 = some a1 → stepP rec c ts = some a) : G c ts a := by
  obtain ⟨f, hf⟩ := h1; exact ⟨f + 1, h _ hf⟩
theorem g_mk2 (h1 : G c1 t1 a1) (h2 : G c2 t2 a2) (h : ∀ rec : Cat → List Tok → Option Res, rec c1 t1 = some a1 → rec c2 t2 = some a2 → stepP rec c ts = some a) : G c ts a := by
  obtain ⟨f, hf⟩ := h1; obtain ⟨g, hg⟩ := h2
  exact ⟨max f g + 1, h _ (run_le (Nat.le_max_left f g) hf) (run_le (Nat.le_max_right f g) hg)⟩
theorem g_nil : G (.seq []) ts (.ok [] ts) := g_mk0 fun _ => rfl
theorem g_lit (hx : x.t = w) (h : G (.seq is) r a) : G (.seq (.lit w :: is)) (x :: r) a := g_mk1 h fun rec hr => by
  simp only [stepP]; rw [if_pos (by simp [isT, hx])]; exact hr
theorem g_litBad (h : isT w ts = false) : G (.seq (.lit w :: is)) ts (.bad ts) := g_mk0 fun _ => by simp only [stepP]; rw [if_neg (by simp [h])]
theorem g_num {l : List Xp} {r2 : List Tok} (hx : x.k = 2) (h : G (.seq is) r (.ok l r2)) : G (.seq (.num :: is)) (x :: r) (.ok (leafE 1 (cents x.t) :: l) r2) := g_mk1 h fun rec hr => by
  simp only [stepP]; rw [if_pos hx, after_mk hr]
theorem g_numLater {r2 : List Tok} (hx : x.k = 2) (h : G (.seq is) r (.bad r2)) : G (.seq (.num :: is)) (x :: r) (.bad r2) := g_mk1 h fun rec hr => by
  simp only [stepP]; rw [if_pos hx, hr]; rfl
theorem g_numBad (hx : x.k ≠ 2) : G (.seq (.num :: is)) (x :: r) (.bad (x :: r)) := g_mk0 fun _ => by simp only [stepP]; rw [if_neg hx]
theorem g_numEnd : G (.seq (.num :: is)) [] (.bad []) := g_mk0 fun _ => rfl
theorem g_ex {es l : List Xp} {r2 : List Tok} (h1 : G .expr ts (.ok es r)) (h2 : G (.seq is) r (.ok l r2)) : G (.seq (.ex :: is)) ts (.ok (es ++ l) r2) := g_mk2 h1 h2 fun rec g1 g2 => by
  simp only [stepP]; rw [after_mk g1, after_mk g2]
theorem g_exLater {es : List Xp} {r2 : List Tok} (h1 : G .expr ts (.ok es r)) (h2 : G (.seq is) r (.bad r2)) : G (.seq (.ex :: is)) ts (.bad r2) := g_mk2 h1 h2 fun rec g1 g2 => by
  simp only [stepP]; rw [after_mk g1, g2]; rfl
theorem g_exBad (h1 : G .expr ts (.bad r)) : G (.seq (.ex :: is)) ts (.bad r) := g_mk1 h1 fun rec g1 => by simp only [stepP]; rw [g1]; rfl
theorem g_if {l : List Xp} {r2 : List Tok} (hx : x.t = wIf) (h : G (.seq ifI) r (.ok l r2)) : G .expr (x :: r) (.ok [nodeE 10 l] r2) := g_mk1 h fun rec hr => by
  simp only [stepP]; rw [if_pos (by simp [isT, hx])]; show after (rec (.seq ifI) r) _ = _; rw [after_mk hr]
theorem g_ifBad {r2 : List Tok} (hx : x.t = wIf) (h : G (.seq ifI) r (.bad r2)) : G .expr (x :: r) (.bad r2) := g_mk1 h fun rec hr => by
  simp only [stepP]; rw [if_pos (by simp [isT, hx])]; show after (rec (.seq ifI) r) _ = _; rw [hr]; rfl
theorem g_any (hx : isT wIf ts = false) (h : G (.lvl 1) ts a) : G .expr ts a := g_mk1 h fun rec hr => by simp only [stepP]; rw [if_neg (by simp [hx])]; exact hr
theorem g_atom {n : Nat} (hn : 5 < n) (h : G .atom ts a) : G (.lvl n) ts a := g_mk1 h fun rec hr => by simp only [stepP]; rw [if_pos hn]; exact hr
theorem g_not {l : List Xp} {r2 : List Tok} (hx : x.t = wNot) (h : G (.lvl 3) r (.ok l r2)) : G (.lvl 3) (x :: r) (.ok [nodeE 15 l] r2) := g_mk1 h fun rec hr => by
  simp only [stepP]; rw [if_neg (by decide), if_pos ⟨trivial, by simp [isT, hx]⟩]; show after (rec (.lvl 3) r) _ = _; rw [after_mk hr]
theorem g_notBad {r2 : List Tok} (hx : x.t = wNot) (h : G (.lvl 3) r (.bad r2)) : G (.lvl 3) (x :: r) (.bad r2) := g_mk1 h fun rec hr => by
  simp only [stepP]; rw [if_neg (by decide), if_pos ⟨trivial, by simp [isT, hx]⟩]; show after (rec (.lvl 3) r) _ = _; rw [hr]; rfl
theorem g_lvl {n : Nat} {e : Xp} (hn : n ≤ 5) (hx : n = 3 → isT wNot ts = false) (h1 : G (.lvl (n + 1)) ts (.ok [e] r)) (h2 : G (.tail n e) r a) : G (.lvl n) ts a := g_mk2 h1 h2 fun rec g1 g2 => by
  simp only [stepP]; rw [if_neg (by omega), if_neg (by rintro ⟨h3, h4⟩; rw [hx h3] at h4; cases h4), after_mk g1]; exact g2
theorem g_lvlBad {n : Nat} (hn : n ≤ 5) (hx : n = 3 → isT wNot ts = false) (h1 : G (.lvl (n + 1)) ts (.bad r)) : G (.lvl n) ts (.bad r) := g_mk1 h1 fun rec g1 => by
  simp only [stepP]; rw [if_neg (by omega), if_neg (by rintro ⟨h3, h4⟩; rw [hx h3] at h4; cases h4), g1]; rfl
theorem g_end {n : Nat} {e : Xp} (h : opL n ts = 0) : G (.tail n e) ts (.ok [e] ts) := g_mk0 fun _ => by simp only [stepP]; rw [if_pos h]
theorem g_more {n : Nat} {e b : Xp} (ho : opL n (x :: r) ≠ 0) (hn : n ≠ 3) (h1 : G (.lvl (n + 1)) r (.ok [b] t1)) (h2 : G (.tail n (nodeE (opL n (x :: r)) [e, b])) t1 a) : G (.tail n e) (x :: r) a := g_mk2 h1 h2 fun rec g1 g2 => by
  simp only [stepP]; rw [if_neg ho]; show after (rec (.lvl (n + 1)) r) _ = _; rw [after_mk g1, if_neg hn]; exact g2
theorem g_one {e b : Xp} (ho : opL 3 (x :: r) ≠ 0) (h1 : G (.lvl 4) r (.ok [b] t1)) : G (.tail 3 e) (x :: r) (.ok [nodeE (opL 3 (x :: r)) [e, b]] t1) := g_mk1 h1 fun rec g1 => by
  simp only [stepP]; rw [if_neg ho]; show after (rec (.lvl 4) r) _ = _; rw [after_mk g1, if_pos trivial]
theorem g_moreBad {n : Nat} {e : Xp} (ho : opL n (x :: r) ≠ 0) (h1 : G (.lvl (n + 1)) r (.bad t1)) : G (.tail n e) (x :: r) (.bad t1) := g_mk1 h1 fun rec g1 => by
  simp only [stepP]; rw [if_neg ho]; show after (rec (.lvl (n + 1)) r) _ = _; rw [g1]; rfl
end Go.Proofs.YthnlenbfknbmcaaGreatDoor
namespace Go.Proofs.YthnlenbfknbmcaaGreatDoor

variable {ts r us A B C L : List Tok} {x y z : Tok} {a : Res} {e : Xp}
theorem g_aNum (hx : x.k = 2) : G .atom (x :: r) (.ok [leafE 1 (cents x.t)] r) := g_mk0 fun _ => by simp only [stepP]; rw [if_pos hx]
theorem g_aMon (hx : x.k = 3) : G .atom (x :: r) (.ok [leafE 2 (cents x.t)] r) := g_mk0 fun _ => by simp only [stepP]; rw [if_neg (by omega), if_pos hx]
theorem g_aVar (h2 : x.k ≠ 2) (h3 : x.k ≠ 3) (hx : varF x.t ≠ 0) : G .atom (x :: r) (.ok [leafE 3 (varF x.t)] r) := g_mk0 fun _ => by simp only [stepP]; rw [if_neg h2, if_neg h3, if_pos hx]
theorem g_aMin {l : List Xp} {r2 : List Tok} (h2 : x.k ≠ 2) (h3 : x.k ≠ 3) (hx : x.t = wMin) (h : G (.seq twoI) r (.ok l r2)) : G .atom (x :: r) (.ok [nodeE 8 l] r2) := g_mk1 h fun rec hr => by
  simp only [stepP]; rw [if_neg h2, if_neg h3, if_neg (by rw [hx]; decide), if_pos hx, after_mk hr]
theorem g_aMinBad {r2 : List Tok} (h2 : x.k ≠ 2) (h3 : x.k ≠ 3) (hx : x.t = wMin) (h : G (.seq twoI) r (.bad r2)) : G .atom (x :: r) (.bad r2) := g_mk1 h fun rec hr => by
  simp only [stepP]; rw [if_neg h2, if_neg h3, if_neg (by rw [hx]; decide), if_pos hx, hr]; rfl
theorem g_aMax {l : List Xp} {r2 : List Tok} (h2 : x.k ≠ 2) (h3 : x.k ≠ 3) (hx : x.t = wMax) (h : G (.seq twoI) r (.ok l r2)) : G .atom (x :: r) (.ok [nodeE 9 l] r2) := g_mk1 h fun rec hr => by
  simp only [stepP]; rw [if_neg h2, if_neg h3, if_neg (by rw [hx]; decide), if_neg (by rw [hx]; decide), if_pos hx, after_mk hr]
theorem g_aMaxBad {r2 : List Tok} (h2 : x.k ≠ 2) (h3 : x.k ≠ 3) (hx : x.t = wMax) (h : G (.seq twoI) r (.bad r2)) : G .atom (x :: r) (.bad r2) := g_mk1 h fun rec hr => by
  simp only [stepP]; rw [if_neg h2, if_neg h3, if_neg (by rw [hx]; decide), if_neg (by rw [hx]; decide), if_pos hx, hr]; rfl
theorem g_aOpen (h2 : x.k ≠ 2) (h3 : x.k ≠ 3) (hx : x.t = wOpen) (h : G (.seq brI) r a) : G .atom (x :: r) a := g_mk1 h fun rec hr => by
  simp only [stepP]; rw [if_neg h2, if_neg h3, if_neg (by rw [hx]; decide), if_neg (by rw [hx]; decide), if_neg (by rw [hx]; decide), if_pos hx]; exact hr
theorem g_aBad (h2 : x.k ≠ 2) (h3 : x.k ≠ 3) (hv : varF x.t = 0) (h4 : x.t ≠ wMin) (h5 : x.t ≠ wMax) (h6 : x.t ≠ wOpen) : G .atom (x :: r) (.bad (x :: r)) := g_mk0 fun _ => by
  simp only [stepP]; rw [if_neg h2, if_neg h3, if_neg (by rw [hv]; decide), if_neg h4, if_neg h5, if_neg h6]
theorem g_aEnd : G .atom [] (.bad []) := g_mk0 fun _ => rfl

theorem opF_cons (n : Nat) : opL n (x :: r) = if n = 1 ∧ x.t = wOr then 14 else if n = 2 ∧ x.t = wAnd then 13 else if n = 3 ∧ x.t = [60] then 11 else if n = 3 ∧ x.t = [61] then 12
    else if n = 4 ∧ x.t = [43] then 4 else if n = 4 ∧ x.t = [45] then 5 else if n = 5 ∧ x.t = [42] then 6 else if n = 5 ∧ x.t = [47] then 7 else 0 := rfl
/-- from a level to a lower one, if no operator follows -/
theorem g_down {m : Nat} (h : G (.lvl m) ts (.ok [e] r)) (hn : isT wNot ts = false) : ∀ k n, n + k = m → m ≤ 6 → (∀ j, n ≤ j → j < m → opL j r = 0) → G (.lvl n) ts (.ok [e] r)
  | 0, n, hk, _, _ => by obtain rfl : n = m := by omega
                         exact h
  | k + 1, n, hk, hm, hj => by
    have ih := g_down h hn k (n + 1) (by omega) hm (fun j h1 h2 => hj j (by omega) h2)
    exact g_lvl (by omega) (fun _ => hn) ih (g_end (hj n (Nat.le_refl _) (by omega)))
theorem g_lev {n : Nat} (h : G .atom ts (.ok [e] r)) (hn : isT wNot ts = false) (hn6 : n ≤ 6) (hj : ∀ j, n ≤ j → opL j r = 0) : G (.lvl n) ts (.ok [e] r) :=
  g_down (g_atom (n := 6) (by decide) h) hn (6 - n) n (by omega) (Nat.le_refl _) (fun j h1 _ => hj j h1)
theorem g_expr (h : G .atom ts (.ok [e] r)) (hn : isT wNot ts = false) (hi : isT wIf ts = false) (hj : stopT r) : G .expr ts (.ok [e] r) := g_any hi (g_lev h hn (by omega) (fun j _ => hj j))
theorem stop_text (h : x.t = wShut ∨ x.t = wComma ∨ x.t = wThen ∨ x.t = wElse) : stopT (x :: r) := by
  intro n
  rcases h with h | h | h | h <;> rw [opF_cons, h] <;> simp [wShut, wComma, wThen, wElse, wOr, wAnd]
/-- an operator: its level, the node's Op -/
inductive OpT : Tok → Nat → Nat → Prop where
  | or {x : Tok} : x.t = wOr → OpT x 1 14
  | and {x : Tok} : x.t = wAnd → OpT x 2 13
  | less {x : Tok} : x.t = [60] → OpT x 3 11
  | equal {x : Tok} : x.t = [61] → OpT x 3 12
  | add {x : Tok} : x.t = [43] → OpT x 4 4
  | sub {x : Tok} : x.t = [45] → OpT x 4 5
  | mul {x : Tok} : x.t = [42] → OpT x 5 6
  | div {x : Tok} : x.t = [47] → OpT x 5 7
theorem OpT.op {n o : Nat} (h : OpT x n o) : opL n (x :: r) = o := by
  cases h with
  | or h => rw [opF_cons, h]; rfl
  | and h => rw [opF_cons, h]; rfl
  | less h => rw [opF_cons, h]; rfl
  | equal h => rw [opF_cons, h]; rfl
  | add h => rw [opF_cons, h]; rfl
  | sub h => rw [opF_cons, h]; rfl
  | mul h => rw [opF_cons, h]; rfl
  | div h => rw [opF_cons, h]; rfl
theorem OpT.other {n o : Nat} (h : OpT x n o) {m : Nat} (hm : m ≠ n) : opL m (x :: r) = 0 := by
  cases h with
  | or h => rw [opF_cons, h]; simp [wOr, wAnd, hm]
  | and h => rw [opF_cons, h]; simp [wOr, wAnd, hm]
  | less h => rw [opF_cons, h]; simp [wOr, wAnd, hm]
  | equal h => rw [opF_cons, h]; simp [wOr, wAnd, hm]
  | add h => rw [opF_cons, h]; simp [wOr, wAnd, hm]
  | sub h => rw [opF_cons, h]; simp [wOr, wAnd, hm]
  | mul h => rw [opF_cons, h]; simp [wOr, wAnd, hm]
  | div h => rw [opF_cons, h]; simp [wOr, wAnd, hm]
theorem OpT.pos {n o : Nat} (h : OpT x n o) : o ≠ 0 ∧ 1 ≤ n ∧ n ≤ 5 := by cases h <;> decide

/-- the tokens of an expression all parts of which stand in brackets -/
inductive Sh : Xp → List Tok → Prop where
  | num {x : Tok} {n : Nat} : x.k = 2 → cents x.t = n → x.t ≠ wIf → x.t ≠ wNot → Sh (leafE 1 n) [x]
  | mon {x : Tok} {n : Nat} : x.k = 3 → cents x.t = n → x.t ≠ wIf → x.t ≠ wNot → Sh (leafE 2 n) [x]
  | var {x : Tok} {n : Nat} : x.k = 1 → varF x.t = n → n ≠ 0 → Sh (leafE 3 n) [x]
  | min {x y z u : Tok} {a b : Xp} {A B : List Tok} : x.k = 1 → x.t = wMin → y.t = wOpen → z.t = wComma → u.t = wShut → Sh a A → Sh b B → Sh (nodeE 8 [a, b]) (x :: y :: (A ++ z :: (B ++ [u])))
  | max {x y z u : Tok} {a b : Xp} {A B : List Tok} : x.k = 1 → x.t = wMax → y.t = wOpen → z.t = wComma → u.t = wShut → Sh a A → Sh b B → Sh (nodeE 9 [a, b]) (x :: y :: (A ++ z :: (B ++ [u])))
  | ite {x y z u v : Tok} {a b c : Xp} {A B C : List Tok} : x.k = 4 → x.t = wOpen → y.t = wIf → z.t = wThen → u.t = wElse → v.t = wShut → Sh a A → Sh b B → Sh c C → Sh (nodeE 10 [a, b, c]) (x :: y :: (A ++ z :: (B ++ u :: (C ++ [v]))))
  | not {x y z : Tok} {a : Xp} {A : List Tok} : x.k = 4 → x.t = wOpen → y.t = wNot → z.t = wShut → Sh a A → Sh (nodeE 15 [a]) (x :: y :: (A ++ [z]))
  | two {x y z : Tok} {n o : Nat} {a b : Xp} {A B : List Tok} : x.k = 4 → x.t = wOpen → OpT y n o → z.t = wShut → Sh a A → Sh b B → Sh (nodeE o [a, b]) (x :: (A ++ y :: (B ++ [z])))
theorem Sh.first (h : Sh e A) : isT wNot (A ++ us) = false ∧ isT wIf (A ++ us) = false := by
  have key : ∀ {x : Tok} {t : List Tok}, x.t ≠ wNot → x.t ≠ wIf → isT wNot (x :: t) = false ∧ isT wIf (x :: t) = false := by
    intro x t h1 h2; exact ⟨beq_eq_false_iff_ne.2 h1, beq_eq_false_iff_ne.2 h2⟩
  cases h with
  | num _ _ h1 h2 => exact key h2 h1
  | mon _ _ h1 h2 => exact key h2 h1
  | var _ hv h0 =>
    refine key ?_ ?_
    · intro e; rw [e] at hv; exact h0 (hv.symm.trans (by decide))
    · intro e; rw [e] at hv; exact h0 (hv.symm.trans (by decide))
  | min _ h _ _ _ _ _ => exact key (by rw [h]; decide) (by rw [h]; decide)
  | max _ h _ _ _ _ _ => exact key (by rw [h]; decide) (by rw [h]; decide)
  | ite _ h _ _ _ _ _ _ _ => exact key (by rw [h]; decide) (by rw [h]; decide)
  | not _ h _ _ _ => exact key (by rw [h]; decide) (by rw [h]; decide)
  | two _ h _ _ _ _ => exact key (by rw [h]; decide) (by rw [h]; decide)
theorem g_binary {n o : Nat} {a b : Xp} (hy : OpT y n o) (ha : G .atom ts (.ok [a] (y :: L))) (hn : isT wNot ts = false) (hb : G .atom L (.ok [b] r)) (hn2 : isT wNot L = false) (hr : stopT r) :
    G (.lvl n) ts (.ok [nodeE o [a, b]] r) := by
  obtain ⟨h0, h1, h5⟩ := hy.pos
  have hA : G (.lvl (n + 1)) ts (.ok [a] (y :: L)) := g_lev ha hn (by omega) (fun j hj => hy.other (by omega))
  have hB : G (.lvl (n + 1)) L (.ok [b] r) := g_lev hb hn2 (by omega) (fun j _ => hr j)
  have ho : opL n (y :: L) = o := hy.op
  refine g_lvl h5 (fun _ => hn) hA ?_
  by_cases h3 : n = 3
  · subst h3
    have := g_one (e := a) (by rw [ho]; exact h0) hB
    rw [ho] at this; exact this
  · refine g_more (by rw [ho]; exact h0) h3 hB ?_
    rw [ho]; exact g_end (hr n)
theorem sh_read : ∀ {e : Xp} {A : List Tok}, Sh e A → ∀ us, G .atom (A ++ us) (.ok [e] us) := by
  intro e A h
  have ex : ∀ {e : Xp} {A : List Tok}, Sh e A → (∀ us, G .atom (A ++ us) (.ok [e] us)) → ∀ us, stopT us → G .expr (A ++ us) (.ok [e] us) :=
    fun h ih us hs => g_expr (ih us) h.first.1 h.first.2 hs
  have two : ∀ {y z u : Tok} {a b : Xp} {A B : List Tok}, y.t = wOpen → z.t = wComma → u.t = wShut → Sh a A → Sh b B → (∀ us, G .atom (A ++ us) (.ok [a] us)) → (∀ us, G .atom (B ++ us) (.ok [b] us)) →
      ∀ us, G (.seq twoI) (y :: (A ++ z :: (B ++ [u])) ++ us) (.ok [a, b] us) := by
    intro y z u a b A B hy hz hu hA hB ia ib us
    have e : y :: (A ++ z :: (B ++ [u])) ++ us = y :: (A ++ z :: (B ++ u :: us)) := by simp
    rw [e]
    exact g_lit hy (g_ex (es := [a]) (ex hA ia _ (stop_text (.inr (.inl hz)))) (g_lit hz (g_ex (es := [b]) (ex hB ib _ (stop_text (.inl hu))) (g_lit hu g_nil))))
  induction h with
  | num hk hc _ _ => intro us; subst hc; exact g_aNum hk
  | mon hk hc _ _ => intro us; subst hc; exact g_aMon hk
  | var hk hv h0 => intro us; subst hv; exact g_aVar (by omega) (by omega) h0
  | min hk hx hy hz hu hA hB ia ib => intro us; exact g_aMin (by omega) (by omega) hx (two hy hz hu hA hB ia ib us)
  | max hk hx hy hz hu hA hB ia ib => intro us; exact g_aMax (by omega) (by omega) hx (two hy hz hu hA hB ia ib us)
  | @ite x y z u v a b c A B C hk hx hy hz hu hv hA hB hC ia ib ic =>
    intro us
    have e : x :: y :: (A ++ z :: (B ++ u :: (C ++ [v]))) ++ us = x :: y :: (A ++ z :: (B ++ u :: (C ++ v :: us))) := by simp
    rw [e]
    refine g_aOpen (by omega) (by omega) hx (g_ex (es := [nodeE 10 [a, b, c]]) (l := []) (r := v :: us) ?_ (g_lit hv g_nil))
    exact g_if hy (g_ex (es := [a]) (ex hA ia _ (stop_text (.inr (.inr (.inl hz))))) (g_lit hz (g_ex (es := [b]) (ex hB ib _ (stop_text (.inr (.inr (.inr hu))))) (g_lit hu (g_ex (es := [c]) (ex hC ic _ (stop_text (.inl hv))) g_nil)))))
  | @not x y z a A hk hx hy hz hA ia =>
    intro us
    have e : x :: y :: (A ++ [z]) ++ us = x :: y :: (A ++ z :: us) := by simp
    rw [e]
    refine g_aOpen (by omega) (by omega) hx (g_ex (es := [nodeE 15 [a]]) (l := []) (r := z :: us) ?_ (g_lit hz g_nil))
    have hs : stopT (z :: us) := stop_text (.inl hz)
    have h3 : G (.lvl 3) (y :: (A ++ z :: us)) (.ok [nodeE 15 [a]] (z :: us)) := g_not hy (g_lev (ia _) hA.first.1 (by omega) (fun j _ => hs j))
    have h2 : G (.lvl 2) (y :: (A ++ z :: us)) (.ok [nodeE 15 [a]] (z :: us)) := g_lvl (by omega) (fun h => by cases h) h3 (g_end (hs 2))
    have h1 : G (.lvl 1) (y :: (A ++ z :: us)) (.ok [nodeE 15 [a]] (z :: us)) := g_lvl (by omega) (fun h => by cases h) h2 (g_end (hs 1))
    exact g_any (by show (y.t == wIf) = false; rw [hy]; decide) h1
  | @two x y z n o a b A B hk hx hy hz hA hB ia ib =>
    intro us
    have e : x :: (A ++ y :: (B ++ [z])) ++ us = x :: (A ++ y :: (B ++ z :: us)) := by simp
    rw [e]
    refine g_aOpen (by omega) (by omega) hx (g_ex (es := [nodeE o [a, b]]) (l := []) (r := z :: us) ?_ (g_lit hz g_nil))
    have hs : stopT (z :: us) := stop_text (.inl hz)
    have hb := g_binary hy (ia _) hA.first.1 (ib (z :: us)) hB.first.1 hs
    obtain ⟨_, h1, h5⟩ := hy.pos
    exact g_any hA.first.2 (g_down hb hA.first.1 (n - 1) 1 (by omega) (by omega) (fun j _ _ => hs j))
end Go.Proofs.YthnlenbfknbmcaaGreatDoor
namespace Go.Proofs.YthnlenbfknbmcaaGreatDoor

def Res.mp (g : Tok → Tok) : Res → Res
  | .ok l r => .ok l (r.map g)
  | .bad r => .bad (r.map g)
section
variable {g : Tok → Tok} (hk : ∀ x, (g x).k = x.k) (ht : ∀ x, (g x).t = x.t)
include ht in
theorem isT_map (w : List UInt8) (ts : List Tok) : isT w (ts.map g) = isT w ts := by cases ts with | nil => rfl | cons x r => simp only [List.map_cons, isT, ht]
include ht in
theorem op_map (n : Nat) (ts : List Tok) : opL n (ts.map g) = opL n ts := by cases ts with | nil => rfl | cons x r => simp only [List.map_cons, opL, ht]
theorem tail_map (ts : List Tok) : (ts.map g).tail = ts.tail.map g := by cases ts <;> rfl
theorem after_map {v v' : Option Res} {k k' : List Xp → List Tok → Option Res} (hv : v' = v.map (Res.mp g)) (hkk : ∀ l r, k' l (r.map g) = (k l r).map (Res.mp g)) : after v' k' = (after v k).map (Res.mp g) := by
  subst hv
  cases v with
  | none => rfl
  | some b =>
    cases b with
    | bad r => rfl
    | ok l r => exact hkk l r
include hk ht in
theorem step_map {rec : Cat → List Tok → Option Res} (h : ∀ c ts, rec c (ts.map g) = (rec c ts).map (Res.mp g)) : ∀ c ts, stepP rec c (ts.map g) = (stepP rec c ts).map (Res.mp g) := by
  intro c ts
  match c with
  | .seq [] => rfl
  | .seq (.lit w :: is) =>
    simp only [stepP]
    rw [isT_map ht, tail_map]
    split
    · exact h _ _
    · rfl
  | .seq (.num :: is) =>
    cases ts with
    | nil => rfl
    | cons x r =>
      simp only [stepP, List.map_cons, hk, ht]
      split
      · exact after_map (h _ _) (fun l r => rfl)
      · rfl
  | .seq (.ex :: is) => exact after_map (h _ _) (fun l r => after_map (h _ _) (fun l r => rfl))
  | .expr =>
    simp only [stepP]
    rw [isT_map ht, tail_map]
    split
    · exact after_map (h _ _) (fun l r => rfl)
    · exact h _ _
  | .lvl n =>
    simp only [stepP]
    rw [isT_map ht, tail_map]
    split
    · exact h _ _
    · split
      · exact after_map (h _ _) (fun l r => rfl)
      · exact after_map (h _ _) (fun l r => h _ _)
  | .tail n e =>
    simp only [stepP]
    rw [op_map ht, tail_map]
    split
    · rfl
    · refine after_map (h _ _) (fun l r => ?_)
      split
      · rfl
      · exact h _ _
  | .atom =>
    cases ts with
    | nil => rfl
    | cons x r =>
      simp only [stepP, List.map_cons, hk, ht]
      split
      · rfl
      · split
        · rfl
        · split
          · rfl
          · split
            · exact after_map (h _ _) (fun l r => rfl)
            · split
              · exact after_map (h _ _) (fun l r => rfl)
              · split
                · exact h _ _
                · rfl
include hk ht in
theorem run_map : ∀ (f : Nat) (c : Cat) (ts : List Tok), run f c (ts.map g) = (run f c ts).map (Res.mp g)
  | 0, _, _ => rfl
  | f + 1, c, ts => step_map hk ht (run_map f) c ts
include hk ht in
theorem G.map {c : Cat} {ts : List Tok} {a : Res} (h : G c ts a) : G c (ts.map g) (a.mp g) := by
  obtain ⟨f, hf⟩ := h
  exact ⟨f, by rw [run_map hk ht, hf]; rfl⟩
end

/-! ### How many words -/
def wRate : List UInt8 := [114, 97, 116, 101]
def cw (ts : List Tok) : Nat := ts.countP fun x => x.t == wRate
def litsI : List Item → Nat
  | [] => 0
  | .lit w :: is => litsI is + if w = wRate then 1 else 0
  | _ :: is => litsI is
def lits : Cat → Nat
  | .seq is => litsI is
  | _ => 0
def okT (ts : List Tok) : Prop := ∀ x ∈ ts, x.k = 2 ∨ x.k = 3 → x.t ≠ wRate
theorem okT.suf {ts r : List Tok} (h : okT ts) (hs : r <:+ ts) : okT r := fun x hx => h x (hs.mem hx)
theorem cw_cons (x : Tok) (r : List Tok) : cw (x :: r) = cw r + if x.t = wRate then 1 else 0 := by
  unfold cw; rw [List.countP_cons]; congr 1; by_cases h : x.t = wRate <;> simp [h]
theorem cw_other {x : Tok} {r : List Tok} (h : x.t ≠ wRate) : cw (x :: r) = cw r := by rw [cw_cons, if_neg h]; rfl
theorem cw_tail {ts : List Tok} {w : List UInt8} (h : isT w ts = true) : cw ts = cw ts.tail + if w = wRate then 1 else 0 := by
  cases ts with
  | nil => cases h
  | cons x r =>
    have hx : x.t = w := by simpa [isT] using h
    rw [cw_cons, hx]; rfl
theorem op_text {n : Nat} {ts : List Tok} (h : opL n ts ≠ 0) : cw ts = cw ts.tail := by
  cases ts with
  | nil => rfl
  | cons x r =>
    refine cw_other fun e => h ?_
    rw [opF_cons, e]; simp [wRate, wOr, wAnd]
theorem step_cw {rec : Cat → List Tok → Option Res} (hs : ∀ c ts a, rec c ts = some a → a.rest <:+ ts) (h : ∀ c ts l r, rec c ts = some (.ok l r) → okT ts → cw ts = cw r + lits c) :
    ∀ c ts l r, stepP rec c ts = some (.ok l r) → okT ts → cw ts = cw r + lits c := by
  intro c ts l r ha ho
  match c with
  | .seq [] => cases ha; rfl
  | .seq (.lit w :: is) =>
    simp only [stepP] at ha
    split at ha
    · next hi =>
      rw [cw_tail hi, h _ _ _ _ ha (ho.suf (tail_suf ts))]
      simp only [lits, litsI]; omega
    · cases ha
  | .seq (.num :: is) =>
    cases ts with
    | nil => cases ha
    | cons x q =>
      simp only [stepP] at ha
      split at ha
      · next hi =>
        obtain ⟨l2, r2, h1, h2⟩ := after_ok ha
        cases h2
        rw [cw_other (ho x (by simp) (.inl hi)), h _ _ _ _ h1 (ho.suf (tail_suf (x :: q)))]; rfl
      · cases ha
  | .seq (.ex :: is) =>
    obtain ⟨l1, r1, h1, h2⟩ := after_ok ha
    obtain ⟨l2, r2, h3, h4⟩ := after_ok h2
    cases h4
    have e1 := h _ _ _ _ h1 ho
    have e2 := h _ _ _ _ h3 (ho.suf (hs _ _ _ h1))
    simp only [lits, litsI] at e1 e2 ⊢; omega
  | .expr =>
    simp only [stepP] at ha
    split at ha
    · next hi =>
      obtain ⟨l1, r1, h1, h2⟩ := after_ok ha
      cases h2
      rw [cw_tail hi, h _ _ _ _ h1 (ho.suf (tail_suf ts))]; rfl
    · have e1 := h _ _ _ _ ha ho
      exact e1
  | .lvl n =>
    simp only [stepP] at ha
    split at ha
    · have e1 := h _ _ _ _ ha ho
      exact e1
    · split at ha
      · next hd =>
        obtain ⟨l1, r1, h1, h2⟩ := after_ok ha
        cases h2
        rw [cw_tail hd.2, h _ _ _ _ h1 (ho.suf (tail_suf ts))]; rfl
      · obtain ⟨l1, r1, h1, h2⟩ := after_ok ha
        have e1 := h _ _ _ _ h1 ho
        have e2 := h _ _ _ _ h2 (ho.suf (hs _ _ _ h1))
        simp only [lits] at e1 e2 ⊢; omega
  | .tail n e =>
    simp only [stepP] at ha
    split at ha
    · cases ha; rfl
    · next h0 =>
      obtain ⟨l1, r1, h1, h2⟩ := after_ok ha
      have hs1 : okT ts.tail := ho.suf (tail_suf ts)
      have e1 := h _ _ _ _ h1 hs1
      rw [op_text h0]
      split at h2
      · cases h2; exact e1
      · have e2 := h _ _ _ _ h2 (hs1.suf (hs _ _ _ h1))
        simp only [lits] at e1 e2 ⊢; omega
  | .atom =>
    cases ts with
    | nil => cases ha
    | cons x q =>
      simp only [stepP] at ha
      have hq : okT q := ho.suf (tail_suf (x :: q))
      split at ha
      · next h2 => cases ha; exact cw_other (ho x (by simp) (.inl h2))
      · split at ha
        · next h3 => cases ha; exact cw_other (ho x (by simp) (.inr h3))
        · split at ha
          · next hv => cases ha; exact cw_other fun e => hv (by rw [e]; decide)
          · split at ha
            · next hm =>
              obtain ⟨l1, r1, g1, g2⟩ := after_ok ha
              cases g2
              rw [cw_other (by rw [hm]; decide), h _ _ _ _ g1 hq]; rfl
            · split at ha
              · next hm =>
                obtain ⟨l1, r1, g1, g2⟩ := after_ok ha
                cases g2
                rw [cw_other (by rw [hm]; decide), h _ _ _ _ g1 hq]; rfl
              · split at ha
                · next hm => rw [cw_other (by rw [hm]; decide), h _ _ _ _ ha hq]; rfl
                · cases ha
theorem run_cw : ∀ (f : Nat) (c : Cat) (ts : List Tok) (l : List Xp) (r : List Tok), run f c ts = some (.ok l r) → okT ts → cw ts = cw r + lits c
  | 0, _, _, _, _, h, _ => by cases h
  | f + 1, c, ts, l, r, h, ho => step_cw (run_suf f) (run_cw f) c ts l r h ho
theorem G.cw {c : Cat} {ts : List Tok} {l : List Xp} {r : List Tok} (h : G c ts (.ok l r)) (ho : okT ts) : cw ts = Go.Proofs.YthnlenbfknbmcaaGreatDoor.cw r + lits c := by obtain ⟨f, hf⟩ := h; exact run_cw f c ts l r hf ho
end Go.Proofs.YthnlenbfknbmcaaGreatDoor
namespace Go.Proofs.YthnlenbfknbmcaaGreatDoor

def wLevel : List UInt8 := [108, 101, 118, 101, 108]
def wKind : List UInt8 := [107, 105, 110, 100]
def wNights : List UInt8 := [110, 105, 103, 104, 116, 115]
def wTo : List UInt8 := [116, 111]
def wStay : List UInt8 := [115, 116, 97, 121]
def wArrive : List UInt8 := [97, 114, 114, 105, 118, 101]
def wKeep : List UInt8 := [107, 101, 101, 112]
def wPart : List UInt8 := [37]
def wWhen : List UInt8 := [119, 104, 101, 110]
def wPrice : List UInt8 := [112, 114, 105, 99, 101]
def wStop : List UInt8 := [59]
def rateI : List Item := [.lit wRate, .num, .lit wLevel, .num, .lit wKind, .num, .lit wNights, .num, .lit wTo, .num, .lit wStay, .num, .lit wTo, .num, .lit wArrive, .num, .lit wKeep, .num, .lit wPart, .lit wWhen, .ex, .lit wPrice, .ex, .lit wStop]
theorem rate_closed : closed (.seq rateI) = true := rfl
theorem rate_lits : lits (.seq rateI) = 1 := by decide

/-! ### Well-formed expressions -/
/-- a node by itself -/
def nodeB (o n : Int) (k : Nat) : Bool :=
  if o = 1 then decide (k = 0) && decide (0 ≤ n) && decide (n ≤ 999999999) else if o = 2 then decide (k = 0) && decide (0 ≤ n) && decide (n ≤ 1000000000) else if o = 3 then decide (k = 0) && decide (1 ≤ n) && decide (n ≤ 4)
  else if o = 15 then decide (k = 1) && decide (n = 0) else if o = 10 then decide (k = 3) && decide (n = 0) else decide (4 ≤ o) && decide (o ≤ 14) && decide (k = 2) && decide (n = 0)
mutual
def okE : Xp → Bool
  | .mk o n kids => nodeB o n kids.length && okL kids
def okL : List Xp → Bool
  | [] => true
  | e :: r => okE e && okL r
end
mutual
def cntE : Xp → Nat
  | .mk _ _ kids => 1 + cntL kids
def cntL : List Xp → Nat
  | [] => 0
  | e :: r => cntE e + cntL r
end
mutual
def depE : Xp → Nat
  | .mk _ _ kids => 1 + depL kids
def depL : List Xp → Nat
  | [] => 0
  | e :: r => max (depE e) (depL r)
end
def validF (e : Xp) : Bool := okE e && decide (cntE e ≤ 200) && decide (depE e ≤ 30)
def validR (l : List Xp) : Bool := validF (l.getD 9 default) && validF (l.getD 10 default)

/-! ### Rates -/
inductive RRes where
  | ok (l : List (List Xp))
  | err (e : Nat) (r : List Tok)
def RRes.mp (g : Tok → Tok) : RRes → RRes
  | .ok l => .ok l
  | .err e r => .err e (r.map g)
/-- the rates from here on, behind so many; an error (1: not well-formed, 2: too many, 8: a token that cannot follow), and where -/
inductive RR : Nat → List Tok → RRes → Prop where
  | nil {c : Nat} : RR c [] (.ok [])
  | lim {c : Nat} {ts : List Tok} : isT wRate ts = true → c = 100 → RR c ts (.err 2 ts)
  | syn {c : Nat} {ts r : List Tok} : ts ≠ [] → ¬ (isT wRate ts = true ∧ c = 100) → G (.seq rateI) ts (.bad r) → RR c ts (.err 8 r)
  | arg {c : Nat} {ts r : List Tok} {l : List Xp} : ts ≠ [] → ¬ (isT wRate ts = true ∧ c = 100) → G (.seq rateI) ts (.ok l r) → validR l = false → RR c ts (.err 1 ts)
  | more {c : Nat} {ts r : List Tok} {l : List Xp} {ls : List (List Xp)} : ts ≠ [] → ¬ (isT wRate ts = true ∧ c = 100) → G (.seq rateI) ts (.ok l r) → validR l = true → RR (c + 1) r (.ok ls) → RR c ts (.ok (l :: ls))
  | later {c e : Nat} {ts r q : List Tok} {l : List Xp} : ts ≠ [] → ¬ (isT wRate ts = true ∧ c = 100) → G (.seq rateI) ts (.ok l r) → validR l = true → RR (c + 1) r (.err e q) → RR c ts (.err e q)
theorem ok_inj {l l2 : List Xp} {r r2 : List Tok} (h : Res.ok l r = .ok l2 r2) : l = l2 ∧ r = r2 := by cases h; exact ⟨rfl, rfl⟩
theorem RR.det {c : Nat} {ts : List Tok} {a b : RRes} (h : RR c ts a) : RR c ts b → a = b := by
  induction h generalizing b with
  | nil =>
    intro h2
    cases h2 with
    | nil => rfl
    | lim h => cases h
    | syn h => exact absurd rfl h
    | arg h => exact absurd rfl h
    | more h => exact absurd rfl h
    | later h => exact absurd rfl h
  | lim h hc =>
    intro h2
    cases h2 with
    | nil => cases h
    | lim _ _ => rfl
    | syn _ hn => exact absurd ⟨h, hc⟩ hn
    | arg _ hn => exact absurd ⟨h, hc⟩ hn
    | more _ hn => exact absurd ⟨h, hc⟩ hn
    | later _ hn => exact absurd ⟨h, hc⟩ hn
  | syn h hn hg =>
    intro h2
    cases h2 with
    | nil => exact absurd rfl h
    | lim h3 hc => exact absurd ⟨h3, hc⟩ hn
    | syn _ _ g2 => cases hg.det g2; rfl
    | arg _ _ g2 => cases hg.det g2
    | more _ _ g2 => cases hg.det g2
    | later _ _ g2 => cases hg.det g2
  | arg h hn hg hv =>
    intro h2
    cases h2 with
    | nil => exact absurd rfl h
    | lim h3 hc => exact absurd ⟨h3, hc⟩ hn
    | syn _ _ g2 => cases hg.det g2
    | arg _ _ g2 => rfl
    | more _ _ g2 hv2 => obtain ⟨rfl, rfl⟩ := ok_inj (hg.det g2); rw [hv] at hv2; cases hv2
    | later _ _ g2 hv2 => obtain ⟨rfl, rfl⟩ := ok_inj (hg.det g2); rw [hv] at hv2; cases hv2
  | more h hn hg hv _ ih =>
    intro h2
    cases h2 with
    | lim h3 hc => exact absurd ⟨h3, hc⟩ hn
    | nil => exact absurd rfl h
    | syn _ _ g2 => cases hg.det g2
    | arg _ _ g2 hv2 => obtain ⟨rfl, rfl⟩ := ok_inj (hg.det g2); rw [hv] at hv2; cases hv2
    | more _ _ g2 _ h3 => obtain ⟨rfl, rfl⟩ := ok_inj (hg.det g2); cases ih h3; rfl
    | later _ _ g2 _ h3 => obtain ⟨rfl, rfl⟩ := ok_inj (hg.det g2); cases ih h3
  | later h hn hg hv _ ih =>
    intro h2
    cases h2 with
    | lim h3 hc => exact absurd ⟨h3, hc⟩ hn
    | nil => exact absurd rfl h
    | syn _ _ g2 => cases hg.det g2
    | arg _ _ g2 hv2 => obtain ⟨rfl, rfl⟩ := ok_inj (hg.det g2); rw [hv] at hv2; cases hv2
    | more _ _ g2 _ h3 => obtain ⟨rfl, rfl⟩ := ok_inj (hg.det g2); cases ih h3
    | later _ _ g2 _ h3 => obtain ⟨rfl, rfl⟩ := ok_inj (hg.det g2); exact ih h3
/-- as many rates as there are words rate, all well-formed -/
theorem RR.count {c : Nat} {ts : List Tok} {ls : List (List Xp)} (h : RR c ts (.ok ls)) (ho : okT ts) : cw ts = ls.length ∧ ∀ l ∈ ls, validR l = true := by
  generalize ha : RRes.ok ls = a at h
  induction h generalizing ls with
  | nil => cases ha; exact ⟨rfl, fun l hl => by cases hl⟩
  | lim => cases ha
  | syn => cases ha
  | arg => cases ha
  | later => cases ha
  | more _ _ hg hv _ ih =>
    cases ha
    obtain ⟨h1, h2⟩ := ih (ho.suf hg.suf) rfl
    refine ⟨?_, fun l hl => ?_⟩
    · have := hg.cw ho
      rw [rate_lits, h1] at this; rw [this]; rfl
    · rcases List.mem_cons.1 hl with rfl | hl
      · exact hv
      · exact h2 l hl
theorem RR.from {c : Nat} {ts : List Tok} {ls : List (List Xp)} (h : RR c ts (.ok ls)) : ∀ d, d + ls.length ≤ 100 → RR d ts (.ok ls) := by
  generalize ha : RRes.ok ls = a at h
  induction h generalizing ls with
  | nil => cases ha; intro d _; exact .nil
  | lim => cases ha
  | syn => cases ha
  | arg => cases ha
  | later => cases ha
  | more h hn hg hv _ ih =>
    cases ha
    intro d hd
    simp only [List.length_cons] at hd
    exact .more h (fun hc => by omega) hg hv (ih rfl (d + 1) (by omega))
/-- a source behind another one -/
theorem RR.app {c : Nat} {ts us : List Tok} {ls ms : List (List Xp)} (h : RR c ts (.ok ls)) : RR (c + ls.length) us (.ok ms) → RR c (ts ++ us) (.ok (ls ++ ms)) := by
  generalize ha : RRes.ok ls = a at h
  induction h generalizing ls with
  | nil => cases ha; intro h2; exact h2
  | lim => cases ha
  | syn => cases ha
  | arg => cases ha
  | later => cases ha
  | @more c ts r l ls2 h hn hg hv _ ih =>
    cases ha
    intro h2
    refine .more (by simp [h]) (by rw [isT_app h]; exact hn) (hg.app (us := us) (.inr (.inl rate_closed))) hv (ih rfl ?_)
    simp only [List.length_cons] at h2
    rw [show c + 1 + ls2.length = c + (ls2.length + 1) by omega]; exact h2
theorem RR.map {g : Tok → Tok} (hk : ∀ x, (g x).k = x.k) (ht : ∀ x, (g x).t = x.t) {c : Nat} {ts : List Tok} {a : RRes} (h : RR c ts a) : RR c (ts.map g) (a.mp g) := by
  induction h with
  | nil => exact .nil
  | lim h hc => exact .lim (by rw [isT_map ht]; exact h) hc
  | syn h hn hg => exact .syn (by simp [h]) (by rw [isT_map ht]; exact hn) (hg.map hk ht)
  | arg h hn hg hv => exact .arg (by simp [h]) (by rw [isT_map ht]; exact hn) (hg.map hk ht) hv
  | more h hn hg hv _ ih => exact .more (by simp [h]) (by rw [isT_map ht]; exact hn) (hg.map hk ht) hv ih
  | later h hn hg hv _ ih => exact .later (by simp [h]) (by rw [isT_map ht]; exact hn) (hg.map hk ht) hv ih
theorem RR.err_at {c e : Nat} {ts q : List Tok} (h : RR c ts (.err e q)) : q <:+ ts ∧ ts ≠ [] ∧ (e = 1 ∨ e = 2 ∨ e = 8) := by
  generalize ha : RRes.err e q = a at h
  induction h generalizing e q with
  | nil => cases ha
  | lim h _ => cases ha; exact ⟨List.suffix_refl _, isT_ne h, .inr (.inl rfl)⟩
  | syn h _ hg => cases ha; exact ⟨hg.suf, h, .inr (.inr rfl)⟩
  | arg h => cases ha; exact ⟨List.suffix_refl _, h, .inl rfl⟩
  | more => cases ha
  | later h _ hg _ _ ih =>
    cases ha
    have := ih rfl
    exact ⟨this.1.trans hg.suf, h, this.2.2⟩
end Go.Proofs.YthnlenbfknbmcaaGreatDoor
namespace Go.Proofs.YthnlenbfknbmcaaGreatDoor

/-- an operator: its text, kind, level, the node's Op -/
inductive OpW : List UInt8 → Nat → Nat → Nat → Prop where
  | or : OpW wOr 1 1 14
  | and : OpW wAnd 1 2 13
  | less : OpW [60] 4 3 11
  | equal : OpW [61] 4 3 12
  | add : OpW [43] 4 4 4
  | sub : OpW [45] 4 4 5
  | mul : OpW [42] 4 5 6
  | div : OpW [47] 4 5 7
theorem OpW.lx {w : List UInt8} {k n o : Nat} (h : OpW w k n o) : LxD [(k, w)] w := by
  cases h with
  | or => exact lx_word (by decide) (by decide)
  | and => exact lx_word (by decide) (by decide)
  | less => exact (lx_sign (by decide)).d
  | equal => exact (lx_sign (by decide)).d
  | add => exact (lx_sign (by decide)).d
  | sub => exact (lx_sign (by decide)).d
  | mul => exact (lx_sign (by decide)).d
  | div => exact (lx_sign (by decide)).d
theorem OpW.tok {w : List UInt8} {k n o : Nat} (h : OpW w k n o) (line : Nat) : OpT ⟨k, line, w⟩ n o := by
  cases h with
  | or => exact .or rfl
  | and => exact .and rfl
  | less => exact .less rfl
  | equal => exact .equal rfl
  | add => exact .add rfl
  | sub => exact .sub rfl
  | mul => exact .mul rfl
  | div => exact .div rfl
/-- an expression, its source, the kinds and texts of this -/
inductive Sw : Xp → List UInt8 → List (Nat × List UInt8) → Prop where
  | num {t : List UInt8} {n : Nat} : kindF t = 2 → cents t = n → Sw (leafE 1 n) t [(2, t)]
  | mon {t : List UInt8} {n : Nat} : kindF t = 3 → cents t = n → Sw (leafE 2 n) t [(3, t)]
  | var {t : List UInt8} {n : Nat} : kindF t = 1 → varF t = n → n ≠ 0 → Sw (leafE 3 n) t [(1, t)]
  | min {a b : Xp} {s t : List UInt8} {k l : List (Nat × List UInt8)} : Sw a s k → Sw b t l → Sw (nodeE 8 [a, b]) (wMin ++ 40 :: (s ++ 44 :: 32 :: (t ++ [41]))) ((1, wMin) :: (4, [40]) :: (k ++ (4, [44]) :: (l ++ [(4, [41])])))
  | max {a b : Xp} {s t : List UInt8} {k l : List (Nat × List UInt8)} : Sw a s k → Sw b t l → Sw (nodeE 9 [a, b]) (wMax ++ 40 :: (s ++ 44 :: 32 :: (t ++ [41]))) ((1, wMax) :: (4, [40]) :: (k ++ (4, [44]) :: (l ++ [(4, [41])])))
  | ite {a b c : Xp} {s t u : List UInt8} {k l m : List (Nat × List UInt8)} : Sw a s k → Sw b t l → Sw c u m →
      Sw (nodeE 10 [a, b, c]) (40 :: (wIf ++ 32 :: (s ++ 32 :: (wThen ++ 32 :: (t ++ 32 :: (wElse ++ 32 :: (u ++ [41]))))))) ((4, [40]) :: (1, wIf) :: (k ++ (1, wThen) :: (l ++ (1, wElse) :: (m ++ [(4, [41])]))))
  | not {a : Xp} {s : List UInt8} {k : List (Nat × List UInt8)} : Sw a s k → Sw (nodeE 15 [a]) (40 :: (wNot ++ 32 :: (s ++ [41]))) ((4, [40]) :: (1, wNot) :: (k ++ [(4, [41])]))
  | two {a b : Xp} {s t w : List UInt8} {k l : List (Nat × List UInt8)} {q n o : Nat} : Sw a s k → OpW w q n o → Sw b t l →
      Sw (nodeE o [a, b]) (40 :: (s ++ 32 :: (w ++ 32 :: (t ++ [41])))) ((4, [40]) :: (k ++ (q, w) :: (l ++ [(4, [41])])))
theorem lx_in {k l : List (Nat × List UInt8)} {s t : List UInt8} (h : LxD k s) (h2 : LxA l t) : LxA (k ++ l) (s ++ 32 :: t) := lx_then h (lx_cat lx_blank h2) (by decide)
theorem lx_shut {k : List (Nat × List UInt8)} {s : List UInt8} (h : LxD k s) : LxA (k ++ [(4, [41])]) (s ++ [41]) := lx_then h (lx_sign (by decide)) (by decide)
theorem lx_open {k : List (Nat × List UInt8)} {s : List UInt8} (h : LxA k s) : LxA ((4, [40]) :: k) (40 :: s) := lx_cat (lx_sign (c := 40) (by decide)) h
theorem lx_comma {k l : List (Nat × List UInt8)} {s t : List UInt8} (h : LxD k s) (h2 : LxA l t) : LxA (k ++ (4, [44]) :: l) (s ++ 44 :: 32 :: t) :=
  lx_then (k2 := (4, [44]) :: l) h (lx_cat (lx_sign (c := 44) (by decide)) (lx_cat lx_blank h2)) (by decide)
theorem sw_lx {e : Xp} {s : List UInt8} {k : List (Nat × List UInt8)} (h : Sw e s k) : LxD k s := by
  induction h with
  | num hk _ => exact lx_word hk (by decide)
  | mon hk _ => exact lx_word hk (by decide)
  | var hk _ _ => exact lx_word hk (by decide)
  | min _ _ ia ib => exact (lx_then (k1 := [(1, wMin)]) (lx_word (by decide) (by decide)) (lx_open (lx_comma ia (lx_shut ib))) (by decide)).d
  | max _ _ ia ib => exact (lx_then (k1 := [(1, wMax)]) (lx_word (by decide) (by decide)) (lx_open (lx_comma ia (lx_shut ib))) (by decide)).d
  | ite _ _ _ ia ib ic =>
    exact (lx_open (lx_in (k := [(1, wIf)]) (lx_word (by decide) (by decide)) (lx_in ia (lx_in (k := [(1, wThen)]) (lx_word (by decide) (by decide)) (lx_in ib (lx_in (k := [(1, wElse)]) (lx_word (by decide) (by decide)) (lx_shut ic))))))).d
  | not _ ia => exact (lx_open (lx_in (k := [(1, wNot)]) (lx_word (by decide) (by decide)) (lx_shut ia))).d
  | two _ hw _ ia ib => exact (lx_open (lx_in ia (lx_in hw.lx (lx_shut ib)))).d
theorem onL_app (line : Nat) (k l : List (Nat × List UInt8)) : onL line (k ++ l) = onL line k ++ onL line l := by unfold onL; rw [List.map_append]
theorem onL_cons (line q : Nat) (t : List UInt8) (l : List (Nat × List UInt8)) : onL line ((q, t) :: l) = ⟨q, line, t⟩ :: onL line l := rfl
theorem sw_sh {e : Xp} {s : List UInt8} {k : List (Nat × List UInt8)} (line : Nat) (h : Sw e s k) : Sh e (onL line k) := by
  have ne : ∀ {t w : List UInt8} {q : Nat}, kindF t = q → kindF w ≠ q → t ≠ w := by rintro t w q h1 h2 rfl; exact h2 h1
  induction h with
  | num hk hc => exact .num rfl hc (ne hk (by decide)) (ne hk (by decide))
  | mon hk hc => exact .mon rfl hc (ne hk (by decide)) (ne hk (by decide))
  | var hk hv h0 => exact .var rfl hv h0
  | min _ _ ia ib => simp only [onL_cons, onL_app]; exact .min rfl rfl rfl rfl rfl ia ib
  | max _ _ ia ib => simp only [onL_cons, onL_app]; exact .max rfl rfl rfl rfl rfl ia ib
  | ite _ _ _ ia ib ic => simp only [onL_cons, onL_app]; exact .ite rfl rfl rfl rfl rfl rfl ia ib ic
  | not _ ia => simp only [onL_cons, onL_app]; exact .not rfl rfl rfl rfl ia
  | two _ hw _ ia ib => simp only [onL_cons, onL_app]; exact .two rfl rfl (hw.tok line) rfl ia ib
theorem sw_count {e : Xp} {s : List UInt8} {k : List (Nat × List UInt8)} (h : Sw e s k) : k.length ≤ 5 * cntE e ∧ s.length ≤ 20 * cntE e := by
  have kl : ∀ {t : List UInt8} {q : Nat}, kindF t = q → q = 2 ∨ q = 3 → t.length ≤ 20 := by
    intro t q h hq
    cases t with
    | nil => simp
    | cons c r =>
      unfold kindF at h
      simp only at h
      split at h
      · omega
      · split at h
        · split at h <;> omega
        · split at h
          · omega
          · split at h
            · omega
            · split at h
              · omega
              · omega
  have vl : ∀ {t : List UInt8} {n : Nat}, varF t = n → n ≠ 0 → t.length ≤ 20 := by
    intro t n h h0
    unfold varF at h
    split at h
    · next e => rw [e]; decide
    · split at h
      · next e => rw [e]; decide
      · split at h
        · next e => rw [e]; decide
        · split at h
          · next e => rw [e]; decide
          · omega
  induction h with
  | num hk hc => have := kl hk (.inl rfl); simp only [leafE, cntE, cntL, List.length_cons, List.length_nil]; omega
  | mon hk hc => have := kl hk (.inr rfl); simp only [leafE, cntE, cntL, List.length_cons, List.length_nil]; omega
  | var hk hv h0 => have := vl hv h0; simp only [leafE, cntE, cntL, List.length_cons, List.length_nil]; omega
  | min _ _ ia ib => simp only [nodeE, cntE, cntL, List.length_cons, List.length_nil, List.length_append, wMin]; omega
  | max _ _ ia ib => simp only [nodeE, cntE, cntL, List.length_cons, List.length_nil, List.length_append, wMax]; omega
  | ite _ _ _ ia ib ic => simp only [nodeE, cntE, cntL, List.length_cons, List.length_nil, List.length_append, wIf, wThen, wElse]; omega
  | not _ ia => simp only [nodeE, cntE, cntL, List.length_cons, List.length_nil, List.length_append, wNot]; omega
  | two _ hw _ ia ib =>
    rename_i w _ _ _ _ _ _ _
    have : ∀ {w : List UInt8} {q n o : Nat}, OpW w q n o → w.length ≤ 3 := by intro w q n o h; cases h <;> decide
    have := this hw
    simp only [nodeE, cntE, cntL, List.length_cons, List.length_nil, List.length_append]; omega
/-- the source is read as this expression, whole -/
theorem sw_read {e : Xp} {s : List UInt8} {k : List (Nat × List UInt8)} (h : Sw e s k) (hc : cntE e ≤ 200) : (toksF 1 0 s).2 = (0, 0) ∧ G .expr (toksF 1 0 s).1 (.ok [e] []) := by
  have hn := (sw_count h).1
  rw [lx_all (sw_lx h) (by omega) 1]
  refine ⟨rfl, ?_⟩
  have hs := sw_sh 1 h
  have := g_expr (sh_read hs []) hs.first.1 hs.first.2 (fun n => rfl)
  rw [List.append_nil] at this; exact this
end Go.Proofs.YthnlenbfknbmcaaGreatDoor
namespace Go.Proofs.YthnlenbfknbmcaaGreatDoor

/-- nothing of these levels follows -/
def Cl (n : Nat) (us : List Tok) : Prop := ∀ j, n ≤ j → opL j us = 0
theorem Cl.mono {n m : Nat} {us : List Tok} (h : Cl n us) (hm : n ≤ m) : Cl m us := fun j hj => h j (by omega)
/-- read on a level -/
def Rd (n : Nat) (e : Xp) (A : List Tok) : Prop := ∀ us, Cl n us → G (.lvl n) (A ++ us) (.ok [e] us)
/-- read behind the first one on a level -/
def Tl (n : Nat) (e : Xp) (T : List Tok) (e2 : Xp) : Prop := ∀ us, Cl n us → G (.tail n e) (T ++ us) (.ok [e2] us) ∧ Cl (n + 1) (T ++ us)
def Nn (A : List Tok) : Prop := ∀ us, isT wNot (A ++ us) = false
theorem sh_nn {e : Xp} {A : List Tok} (h : Sh e A) : Nn A := fun _ => h.first.1
theorem sh_rd {e : Xp} {A : List Tok} (h : Sh e A) (n : Nat) (hn : n ≤ 6) : Rd n e A := fun us hc => g_lev (sh_read h us) h.first.1 hn hc
theorem nn_app {A B : List Tok} (h : Nn A) : Nn (A ++ B) := fun us => by rw [List.append_assoc]; exact h _
theorem tl_nil {n : Nat} {e : Xp} : Tl n e [] e := fun us hc => ⟨g_end (hc n (Nat.le_refl _)), hc.mono (by omega)⟩
theorem tl_cons {n o : Nat} {e b e2 : Xp} {y : Tok} {B T : List Tok} (hy : OpT y n o) (hn : n ≠ 3) (hb : Rd (n + 1) b B) (ht : Tl n (nodeE o [e, b]) T e2) : Tl n e (y :: (B ++ T)) e2 := fun us hc => by
  obtain ⟨h1, h2⟩ := ht us hc
  refine ⟨?_, fun j hj => hy.other (by omega)⟩
  have e : y :: (B ++ T) ++ us = y :: (B ++ (T ++ us)) := by simp
  rw [e]
  have ho : opL n (y :: (B ++ (T ++ us))) = o := hy.op
  refine g_more (by rw [ho]; exact hy.pos.1) hn (hb _ h2) ?_
  rw [ho]; exact h1
theorem rd_tl {n : Nat} {e e2 : Xp} {A T : List Tok} (hn : n ≠ 3) (hn5 : n ≤ 5) (ha : Rd (n + 1) e A) (ht : Tl n e T e2) : Rd n e2 (A ++ T) := fun us hc => by
  obtain ⟨h1, h2⟩ := ht us hc
  rw [List.append_assoc]
  exact g_lvl hn5 (fun h => absurd h hn) (ha _ h2) h1
theorem rd_down {n : Nat} {e : Xp} {A : List Tok} (hn : n ≠ 3) (hn5 : n ≤ 5) (ha : Rd (n + 1) e A) : Rd n e A := by
  have := rd_tl hn hn5 ha tl_nil
  rw [List.append_nil] at this; exact this
theorem rd_down3 {e : Xp} {A : List Tok} (ha : Rd 4 e A) (hA : Nn A) : Rd 3 e A := fun us hc => g_lvl (by decide) (fun _ => hA us) (ha us (hc.mono (by decide))) (g_end (hc 3 (by decide)))
theorem rd_cmp {o : Nat} {a b : Xp} {y : Tok} {A B : List Tok} (hy : OpT y 3 o) (ha : Rd 4 a A) (hA : Nn A) (hb : Rd 4 b B) : Rd 3 (nodeE o [a, b]) (A ++ y :: B) := fun us hc => by
  have e : A ++ y :: B ++ us = A ++ y :: (B ++ us) := by simp
  rw [e]
  have ho : opL 3 (y :: (B ++ us)) = o := hy.op
  refine g_lvl (by decide) (fun _ => hA _) (ha _ (fun j hj => hy.other (by omega))) ?_
  have := g_one (e := a) (by rw [ho]; exact hy.pos.1) (hb us (hc.mono (by decide)))
  rw [ho] at this; exact this
theorem rd_not {a : Xp} {y : Tok} {A : List Tok} (hy : y.t = wNot) (ha : Rd 3 a A) : Rd 3 (nodeE 15 [a]) (y :: A) := fun us hc => g_not hy (ha us hc)
theorem cl_stop {us : List Tok} (h : stopT us) (n : Nat) : Cl n us := fun j _ => h j
/-- a whole expression -/
def Re (e : Xp) (A : List Tok) : Prop := ∀ us, stopT us → G .expr (A ++ us) (.ok [e] us)
theorem re_of {e : Xp} {A : List Tok} (h : Rd 1 e A) (hi : ∀ us, isT wIf (A ++ us) = false) : Re e A := fun us hs => g_any (hi us) (h us (cl_stop hs 1))
theorem re_sh {e : Xp} {A : List Tok} (h : Sh e A) : Re e A := re_of (sh_rd h 1 (by decide)) (fun _ => h.first.2)
theorem re_if {a b c : Xp} {A B C : List Tok} {x y z : Tok} (hx : x.t = wIf) (hy : y.t = wThen) (hz : z.t = wElse) (ha : Re a A) (hb : Re b B) (hc : Re c C) : Re (nodeE 10 [a, b, c]) (x :: (A ++ y :: (B ++ z :: C))) := fun us hs => by
  have e : x :: (A ++ y :: (B ++ z :: C)) ++ us = x :: (A ++ y :: (B ++ z :: (C ++ us))) := by simp
  rw [e]
  exact g_if hx (g_ex (es := [a]) (ha _ (stop_text (.inr (.inr (.inl hy))))) (g_lit hy (g_ex (es := [b]) (hb _ (stop_text (.inr (.inr (.inr hz))))) (g_lit hz (g_ex (es := [c]) (hc _ hs) g_nil)))))

section
variable {a b c d : Xp} {A B C D : List Tok} (ha : Sh a A) (hb : Sh b B) (hc : Sh c C) (hd : Sh d D)
include ha hb in
/-- a / b on its level -/
theorem rd_two5 {y : Tok} {o : Nat} (hy : OpT y 5 o) : Rd 5 (nodeE o [a, b]) (A ++ y :: (B ++ [])) := rd_tl (by decide) (by decide) (sh_rd ha 6 (by decide)) (tl_cons hy (by decide) (sh_rd hb 6 (by decide)) tl_nil)
variable {p q r s t u : Tok}
include ha hb hc hd in
/-- a + b * c < d - a / b -/
theorem prec_p (hp : OpT p 4 4) (hq : OpT q 5 6) (hr : OpT r 3 11) (hs : OpT s 4 5) (ht : OpT t 5 7) :
    Re (nodeE 11 [nodeE 4 [a, nodeE 6 [b, c]], nodeE 5 [d, nodeE 7 [a, b]]]) ((A ++ p :: ((B ++ q :: (C ++ [])) ++ [])) ++ r :: (D ++ s :: ((A ++ t :: (B ++ [])) ++ []))) := by
  have h1 : Rd 4 (nodeE 4 [a, nodeE 6 [b, c]]) (A ++ p :: ((B ++ q :: (C ++ [])) ++ [])) := rd_tl (by decide) (by decide) (sh_rd ha 5 (by decide)) (tl_cons hp (by decide) (rd_two5 hb hc hq) tl_nil)
  have h2 : Rd 4 (nodeE 5 [d, nodeE 7 [a, b]]) (D ++ s :: ((A ++ t :: (B ++ [])) ++ [])) := rd_tl (by decide) (by decide) (sh_rd hd 5 (by decide)) (tl_cons hs (by decide) (rd_two5 ha hb ht) tl_nil)
  have h3 := rd_cmp hr h1 (nn_app (sh_nn ha)) h2
  refine re_of (rd_down (by decide) (by decide) (rd_down (by decide) (by decide) h3)) (fun us => ?_)
  rw [List.append_assoc, List.append_assoc]; exact ha.first.2
include ha hb hc hd in
/-- not a = b and c or d and not not a -/
theorem prec_q (hp : p.t = wNot) (hq : OpT q 3 12) (hr : OpT r 2 13) (hs : OpT s 1 14) (ht : OpT t 2 13) (hu : u.t = wNot) {v : Tok} (hv : v.t = wNot) :
    Re (nodeE 14 [nodeE 13 [nodeE 15 [nodeE 12 [a, b]], c], nodeE 13 [d, nodeE 15 [nodeE 15 [a]]]]) ((p :: (A ++ q :: B) ++ r :: (C ++ [])) ++ s :: ((D ++ t :: ((u :: v :: A) ++ [])) ++ [])) := by
  have h1 : Rd 3 (nodeE 15 [nodeE 12 [a, b]]) (p :: (A ++ q :: B)) := rd_not hp (rd_cmp hq (sh_rd ha 4 (by decide)) (sh_nn ha) (sh_rd hb 4 (by decide)))
  have h2 : Rd 2 (nodeE 13 [nodeE 15 [nodeE 12 [a, b]], c]) (p :: (A ++ q :: B) ++ r :: (C ++ [])) := rd_tl (by decide) (by decide) h1 (tl_cons hr (by decide) (sh_rd hc 3 (by decide)) tl_nil)
  have h3 : Rd 3 (nodeE 15 [nodeE 15 [a]]) (u :: v :: A) := rd_not hu (rd_not hv (sh_rd ha 3 (by decide)))
  have h4 : Rd 2 (nodeE 13 [d, nodeE 15 [nodeE 15 [a]]]) (D ++ t :: ((u :: v :: A) ++ [])) := rd_tl (by decide) (by decide) (sh_rd hd 3 (by decide)) (tl_cons ht (by decide) h3 tl_nil)
  refine re_of (rd_tl (by decide) (by decide) h2 (tl_cons hs (by decide) h4 tl_nil)) (fun us => ?_)
  show (p.t == wIf) = false
  rw [hp]; decide
include ha hb hc hd in
/-- a - b + c - d -/
theorem prec_r (hp : OpT p 4 5) (hq : OpT q 4 4) (hr : OpT r 4 5) : Re (nodeE 5 [nodeE 4 [nodeE 5 [a, b], c], d]) (A ++ p :: (B ++ q :: (C ++ r :: (D ++ [])))) := by
  have h1 : Rd 4 (nodeE 5 [nodeE 4 [nodeE 5 [a, b], c], d]) (A ++ p :: (B ++ q :: (C ++ r :: (D ++ [])))) :=
    rd_tl (by decide) (by decide) (sh_rd ha 5 (by decide)) (tl_cons hp (by decide) (sh_rd hb 5 (by decide)) (tl_cons hq (by decide) (sh_rd hc 5 (by decide)) (tl_cons hr (by decide) (sh_rd hd 5 (by decide)) tl_nil)))
  refine re_of (rd_down (by decide) (by decide) (rd_down (by decide) (by decide) (rd_down3 h1 (nn_app (sh_nn ha))))) (fun us => ?_)
  rw [List.append_assoc]; exact ha.first.2
include ha hb hc hd in
/-- a / b * c or d or a -/
theorem prec_s (hp : OpT p 5 7) (hq : OpT q 5 6) (hr : OpT r 1 14) (hs : OpT s 1 14) : Re (nodeE 14 [nodeE 14 [nodeE 6 [nodeE 7 [a, b], c], d], a]) ((A ++ p :: (B ++ q :: (C ++ []))) ++ r :: (D ++ s :: (A ++ []))) := by
  have h1 : Rd 5 (nodeE 6 [nodeE 7 [a, b], c]) (A ++ p :: (B ++ q :: (C ++ []))) := rd_tl (by decide) (by decide) (sh_rd ha 6 (by decide)) (tl_cons hp (by decide) (sh_rd hb 6 (by decide)) (tl_cons hq (by decide) (sh_rd hc 6 (by decide)) tl_nil))
  have h2 := rd_down (n := 2) (by decide) (by decide) (rd_down3 (rd_down (n := 4) (by decide) (by decide) h1) (nn_app (sh_nn ha)))
  refine re_of (rd_tl (by decide) (by decide) h2 (tl_cons hr (by decide) (sh_rd hd 2 (by decide)) (tl_cons hs (by decide) (sh_rd ha 2 (by decide)) tl_nil))) (fun us => ?_)
  rw [List.append_assoc, List.append_assoc]; exact ha.first.2
include ha hb hc hd in
/-- if a then b else if c then d else a + b -/
theorem prec_t {x y z x2 y2 z2 : Tok} (hx : x.t = wIf) (hy : y.t = wThen) (hz : z.t = wElse) (hx2 : x2.t = wIf) (hy2 : y2.t = wThen) (hz2 : z2.t = wElse) (hp : OpT p 4 4) :
    Re (nodeE 10 [a, b, nodeE 10 [c, d, nodeE 4 [a, b]]]) (x :: (A ++ y :: (B ++ z :: (x2 :: (C ++ y2 :: (D ++ z2 :: (A ++ p :: (B ++ [])))))))) := by
  have h1 : Rd 4 (nodeE 4 [a, b]) (A ++ p :: (B ++ [])) := rd_tl (by decide) (by decide) (sh_rd ha 5 (by decide)) (tl_cons hp (by decide) (sh_rd hb 5 (by decide)) tl_nil)
  have h2 : Re (nodeE 4 [a, b]) (A ++ p :: (B ++ [])) := by
    refine re_of (rd_down (by decide) (by decide) (rd_down (by decide) (by decide) (rd_down3 h1 (nn_app (sh_nn ha))))) (fun us => ?_)
    rw [List.append_assoc]; exact ha.first.2
  exact re_if hx hy hz (re_sh ha) (re_sh hb) (re_if hx2 hy2 hz2 (re_sh hc) (re_sh hd) h2)
end
end Go.Proofs.YthnlenbfknbmcaaGreatDoor
namespace Go.Proofs.YthnlenbfknbmcaaGreatDoor

def zeroE : Xp := .mk 0 0 []
/-- the expression of a source, or an error -/
inductive EP : List UInt8 → Xp → Nat → Prop where
  | lex {s : List UInt8} : (tokP s).2.1 ≠ 0 → EP s zeroE (tokP s).2.1
  | bad {s : List UInt8} {r : List Tok} : (tokP s).2.1 = 0 → G .expr (tokP s).1 (.bad r) → EP s zeroE 8
  | left {s : List UInt8} {l : List Xp} {r : List Tok} : (tokP s).2.1 = 0 → G .expr (tokP s).1 (.ok l r) → r ≠ [] → EP s zeroE 8
  | arg {s : List UInt8} {e : Xp} : (tokP s).2.1 = 0 → G .expr (tokP s).1 (.ok [e] []) → validF e = false → EP s zeroE 1
  | ok {s : List UInt8} {e : Xp} : (tokP s).2.1 = 0 → G .expr (tokP s).1 (.ok [e] []) → validF e = true → EP s e 0
theorem EP.zero {s : List UInt8} {e : Xp} (h : EP s e 0) : (tokP s).2.1 = 0 ∧ G .expr (tokP s).1 (.ok [e] []) ∧ validF e = true := by
  generalize hk : (0 : Nat) = k at h
  cases h with
  | lex h => exact absurd hk.symm h
  | bad => cases hk
  | left => cases hk
  | arg => cases hk
  | ok h1 h2 h3 => exact ⟨h1, h2, h3⟩
theorem EP.det {s : List UInt8} {e e2 : Xp} {k k2 : Nat} (h : EP s e k) (h2 : EP s e2 k2) : e = e2 ∧ k = k2 := by
  have one : ∀ {a b : Xp} {r : List Tok}, Res.ok [a] [] = .ok [b] r → a = b := by rintro a b r h; cases h; rfl
  cases h with
  | lex h =>
    cases h2 with
    | lex _ => exact ⟨rfl, rfl⟩
    | bad h3 => exact absurd h3 h
    | left h3 => exact absurd h3 h
    | arg h3 => exact absurd h3 h
    | ok h3 => exact absurd h3 h
  | bad h g =>
    cases h2 with
    | lex h3 => exact absurd h h3
    | bad _ _ => exact ⟨rfl, rfl⟩
    | left _ g2 => cases g.det g2
    | arg _ g2 => cases g.det g2
    | ok _ g2 => cases g.det g2
  | left h g hr =>
    cases h2 with
    | lex h3 => exact absurd h h3
    | bad _ g2 => exact ⟨rfl, rfl⟩
    | left _ g2 => exact ⟨rfl, rfl⟩
    | arg _ g2 => cases g.det g2; exact absurd rfl hr
    | ok _ g2 => cases g.det g2; exact absurd rfl hr
  | arg h g hv =>
    cases h2 with
    | lex h3 => exact absurd h h3
    | bad _ g2 => cases g.det g2
    | left _ g2 hr => cases g.det g2; exact absurd rfl hr
    | arg _ g2 => exact ⟨rfl, rfl⟩
    | ok _ g2 hv2 => rw [one (g.det g2)] at hv; rw [hv] at hv2; cases hv2
  | ok h g hv =>
    cases h2 with
    | lex h3 => exact absurd h h3
    | bad _ g2 => cases g.det g2
    | left _ g2 hr => cases g.det g2; exact absurd rfl hr
    | arg _ g2 hv2 => rw [one (g.det g2)] at hv; rw [hv] at hv2; cases hv2
    | ok _ g2 => exact ⟨one (g.det g2), rfl⟩
/-- the line of a token, or of the last one -/
def lineAt (L q : List Tok) : Nat := match q with | x :: _ => x.n | [] => match L.getLast? with | some x => x.n | none => 0
/-- the rates of a source, or an error and its line -/
inductive RP : List UInt8 → List (List Xp) → Nat → Nat → Prop where
  | lex {s : List UInt8} : (tokP s).2.1 ≠ 0 → RP s [] (tokP s).2.1 (tokP s).2.2
  | ok {s : List UInt8} {ls : List (List Xp)} : (tokP s).2.1 = 0 → RR 0 (tokP s).1 (.ok ls) → RP s ls 0 0
  | err {s : List UInt8} {e : Nat} {q : List Tok} : (tokP s).2.1 = 0 → RR 0 (tokP s).1 (.err e q) → RP s [] e (lineAt (tokP s).1 q)
theorem RP.det {s : List UInt8} {a b : List (List Xp)} {e f n m : Nat} (h : RP s a e n) (h2 : RP s b f m) : a = b ∧ e = f ∧ n = m := by
  cases h with
  | lex h =>
    cases h2 with
    | lex _ => exact ⟨rfl, rfl, rfl⟩
    | ok h3 => exact absurd h3 h
    | err h3 => exact absurd h3 h
  | ok h g =>
    cases h2 with
    | lex h3 => exact absurd h h3
    | ok _ g2 => cases g.det g2; exact ⟨rfl, rfl, rfl⟩
    | err _ g2 => cases g.det g2
  | err h g =>
    cases h2 with
    | lex h3 => exact absurd h h3
    | ok _ g2 => cases g.det g2
    | err _ g2 => cases g.det g2; exact ⟨rfl, rfl, rfl⟩
theorem RP.zero {s : List UInt8} {a : List (List Xp)} {n : Nat} (h : RP s a 0 n) : (tokP s).2.1 = 0 ∧ RR 0 (tokP s).1 (.ok a) ∧ n = 0 := by
  generalize hk : (0 : Nat) = k at h
  cases h with
  | lex h => exact absurd hk.symm h
  | ok h g => exact ⟨h, g, rfl⟩
  | err h g => have := g.err_at.2.2; omega
theorem tok_okT (s : List UInt8) : okT (tokP s).1 := by
  intro x hx h e
  have := (tok_fine s x hx).2.1
  rw [e] at this
  have hk : kindF wRate = 1 := by decide
  omega
theorem last_mem {L : List Tok} {x : Tok} (h : L.getLast? = some x) : x ∈ L := List.mem_of_getLast? h
theorem line_mem {L q : List Tok} (hs : q <:+ L) (hL : L ≠ []) : ∃ x ∈ L, lineAt L q = x.n := by
  cases q with
  | cons x r => exact ⟨x, hs.mem (by simp), rfl⟩
  | nil =>
    cases hg : L.getLast? with
    | none => exact absurd (List.getLast?_eq_none_iff.1 hg) hL
    | some x => exact ⟨x, last_mem hg, by unfold lineAt; simp only [hg]⟩
theorem right_ge : ∀ {l : List Tok} {line : Nat}, RightF line l → ∀ x ∈ l, line ≤ x.n
  | y :: r, line, h, x, hx => by
    obtain ⟨_, _, h3, h4⟩ := h
    rcases List.mem_cons.1 hx with rfl | hx
    · exact h3
    · have := right_ge h4 x hx; omega
/-- P8.2 -/
theorem rates_words {s : List UInt8} {a : List (List Xp)} {n : Nat} (h : RP s a 0 n) : cw (tokP s).1 = a.length ∧ ∀ l ∈ a, validR l = true := h.zero.2.1.count (tok_okT s)
theorem rates_line {s : List UInt8} {a : List (List Xp)} {e n : Nat} (h : RP s a e n) (he : e ≠ 0) : a = [] ∧ (1 ≤ n ∧ n ≤ 1 + nl s ∨ n = 0 ∧ 20000 < s.length) := by
  cases h with
  | lex h =>
    refine ⟨rfl, ?_⟩
    unfold tokP at h ⊢
    by_cases hl : 20000 < s.length
    · rw [if_pos hl]; exact .inr ⟨rfl, hl⟩
    · rw [if_neg hl] at h ⊢
      exact .inl ⟨((toks_right 1 0 s (by omega)).2 h).2, (toks_lines 1 0 s).2 h⟩
  | ok => exact absurd rfl he
  | err h g =>
    obtain ⟨h1, h2, _⟩ := g.err_at
    obtain ⟨x, hx, hn⟩ := line_mem h1 h2
    rw [hn]
    exact ⟨rfl, .inl ⟨right_ge (tok_zero h).2.2.2.1 x hx, (tok_fine s x hx).2.2.1⟩⟩
/-! ### Moved lines -/
def mvT (m : Nat) (x : Tok) : Tok := ⟨x.k, x.n + m, x.t⟩
theorem mv_len {m : Nat} (L q : List Tok) (hL : q ≠ [] ∨ L ≠ []) : lineAt (L.map (mvT m)) (q.map (mvT m)) = lineAt L q + m := by
  cases q with
  | cons x r => rfl
  | nil =>
    unfold lineAt
    simp only [List.map_nil, List.getLast?_map]
    cases hg : L.getLast? with
    | none => rcases hL with h | h; exact absurd rfl h; exact absurd (List.getLast?_eq_none_iff.1 hg) h
    | some x => rfl
theorem feeds_tok {s : List UInt8} {m : Nat} (hs : s.length ≤ 1500) (hm : m ≤ 1000) : tokP (List.replicate m 10 ++ s) = shiftF m (tokP s) := by
  unfold tokP
  rw [if_neg (by rw [List.length_append, List.length_replicate]; omega), if_neg (by omega), toks_feeds, toks_shift 1 0 s m 0 (by omega) (by omega)]
/-- P8.7 -/
theorem rates_lines {s : List UInt8} {m : Nat} (hs : s.length ≤ 1500) (hm : m ≤ 1000) {a : List (List Xp)} {e n : Nat} (h : RP s a e n) : RP (List.replicate m 10 ++ s) a e (if e = 0 then 0 else n + m) := by
  have ht := feeds_tok hs hm
  have h1 : (tokP (List.replicate m 10 ++ s)).1 = (tokP s).1.map (mvT m) := by rw [ht]; rfl
  have h2 : (tokP (List.replicate m 10 ++ s)).2.1 = (tokP s).2.1 := by rw [ht]; rfl
  cases h with
  | lex h =>
    have h3 : (tokP (List.replicate m 10 ++ s)).2.2 = (tokP s).2.2 + m := by rw [ht]; unfold shiftF; simp only; rw [if_neg h]
    rw [if_neg h, ← h3, ← h2]
    exact .lex (by rw [h2]; exact h)
  | ok h g => exact .ok (by rw [h2]; exact h) (by rw [h1]; exact g.map (g := mvT m) (fun _ => rfl) (fun _ => rfl))
  | err h g =>
    have he := g.err_at
    rw [if_neg (by omega), ← mv_len _ _ (.inr he.2.1), ← h1]
    exact .err (by rw [h2]; exact h) (by rw [h1]; exact g.map (g := mvT m) (fun _ => rfl) (fun _ => rfl))
theorem both_tok {s t : List UInt8} (hs : s.length ≤ 1500) (ht : t.length ≤ 1500) (h : (tokP s).2.1 = 0) (h2 : (tokP t).2.1 = 0) :
    (tokP (s ++ 10 :: t)).2.1 = 0 ∧ (tokP (s ++ 10 :: t)).1 = (tokP s).1 ++ (tokP t).1.map (mvT (nl s + 1)) := by
  have e1 : tokP s = toksF 1 0 s := by unfold tokP; rw [if_neg (by omega)]
  have e3 : tokP t = toksF 1 0 t := by unfold tokP; rw [if_neg (by omega)]
  have e2 : tokP (s ++ 10 :: t) = toksF 1 0 (s ++ 10 :: t) := by unfold tokP; rw [if_neg (by simp only [List.length_append, List.length_cons]; omega)]
  have hcn := toks_count 1 0 s
  rw [e1] at h ⊢
  rw [e3] at h2 ⊢
  rw [e2, toks_parts t 1 0 s (by omega), if_pos h, show 1 + nl s + 1 = 1 + (nl s + 1) by omega, toks_shift 1 0 t (nl s + 1) _ (by omega) (by omega)]
  unfold appF shiftF
  simp only [h2, if_pos, true_and]
  rfl
/-- P8.3 -/
theorem rates_parts {s t : List UInt8} (hs : s.length ≤ 1500) (ht : t.length ≤ 1500) {a b : List (List Xp)} {n m : Nat} (h : RP s a 0 n) (h2 : RP t b 0 m) (hl : a.length + b.length ≤ 100) : RP (s ++ 10 :: t) (a ++ b) 0 0 := by
  obtain ⟨h3, g, _⟩ := h.zero
  obtain ⟨h4, g2, _⟩ := h2.zero
  obtain ⟨h5, h6⟩ := both_tok hs ht h3 h4
  refine .ok h5 ?_
  rw [h6]
  exact g.app ((g2.map (g := mvT (nl s + 1)) (fun _ => rfl) (fun _ => rfl)).from _ (by omega))
/-- P8.4: brackets around -/
theorem expr_around {s : List UInt8} (hs : s.length ≤ 1500) {e : Xp} (h : EP s e 0) : EP (40 :: 32 :: (s ++ [10, 41])) e 0 := by
  obtain ⟨h1, g, hv⟩ := h.zero
  have e1 : tokP s = toksF 1 0 s := by unfold tokP; rw [if_neg (by omega)]
  have e2 : tokP (40 :: 32 :: (s ++ [10, 41])) = toksF 1 0 (40 :: 32 :: (s ++ [10, 41])) := by unfold tokP; rw [if_neg (by simp only [List.length_append, List.length_cons, List.length_nil]; omega)]
  have hsh : toksF 1 1 s = toksF 1 0 s := by
    have := toks_shift 1 0 s 0 1 (by omega) (by omega)
    rw [Nat.add_zero] at this
    rw [this]
    have hz := (toks_right 1 0 s (by omega)).1 (by rw [← e1]; exact h1)
    rw [e1] at h1
    unfold shiftF
    rw [h1, if_pos rfl]
    have : ∀ l : List Tok, l.map (fun x => (⟨x.k, x.n + 0, x.t⟩ : Tok)) = l := fun l => List.map_id l
    rw [this]
    generalize toksF 1 0 s = y at *
    obtain ⟨y1, y2, y3⟩ := y
    simp only at h1 hz ⊢
    rw [h1, hz.1]
  have hcn := toks_count 1 0 s
  have hA := lx_sign (c := 40) (by decide) 1 0 (32 :: (s ++ [10, 41])) (by simp)
  have hB : toksF 1 1 (32 :: (s ++ [10, 41])) = appF (toksF 1 0 s).1 (toksF (1 + nl s + 1) (1 + (toksF 1 0 s).1.length) [41]) := by
    rw [toks_blank, toks_parts [41] 1 1 s (by omega), hsh, if_pos (by rw [← e1]; exact h1)]
  have hC := lx_sign (c := 41) (by decide) (1 + nl s + 1) (1 + (toksF 1 0 s).1.length) [] (by simp only [List.length_cons, List.length_nil]; omega)
  rw [List.append_nil, toks_nil] at hC
  have app_end2 : ∀ l : List Tok, appF l ([], 0, 0) = (l, 0, 0) := fun l => by unfold appF; simp
  rw [app_end2] at hC
  have hD : toksF 1 0 (40 :: 32 :: (s ++ [10, 41])) = (onL 1 [(4, [40])] ++ ((toksF 1 0 s).1 ++ onL (1 + nl s + 1) [(4, [41])]), 0, 0) := by
    have : toksF 1 0 (40 :: 32 :: (s ++ [10, 41])) = appF (onL 1 [(4, [40])]) (toksF 1 1 (32 :: (s ++ [10, 41]))) := hA
    rw [this, hB, hC]
    unfold appF; rfl
  refine .ok (by rw [e2, hD]) ?_ hv
  rw [e2, hD, ← e1]
  have hs2 : stopT (onL (1 + nl s + 1) [(4, [41])]) := stop_text (.inl rfl)
  have gx := g.app (us := onL (1 + nl s + 1) [(4, [41])]) (.inr (.inr hs2))
  refine g_expr (g_aOpen (by decide) (by decide) rfl (g_ex (es := [e]) (l := []) gx (g_lit rfl g_nil))) rfl rfl (fun n => rfl)
end Go.Proofs.YthnlenbfknbmcaaGreatDoor
namespace Go.Proofs.YthnlenbfknbmcaaGreatDoor

theorem lx_inD {k l : List (Nat × List UInt8)} {s t : List UInt8} (h : LxD k s) (h2 : LxD l t) : LxD (k ++ l) (s ++ 32 :: t) := fun line cnt b hb hc => by
  rw [List.length_append] at hc
  rw [List.append_assoc, h line cnt (32 :: t ++ b) (fun d r e => by cases e; decide) (by omega), List.cons_append, toks_blank, h2 line _ b hb (by omega), app_app, List.length_append, Nat.add_assoc]
  unfold onL; rw [List.map_append]
theorem lx_op {k l : List (Nat × List UInt8)} {s t w : List UInt8} {q n o : Nat} (h : LxD k s) (hw : OpW w q n o) (h2 : LxD l t) : LxD (k ++ (q, w) :: l) (s ++ 32 :: (w ++ 32 :: t)) := lx_inD h (lx_inD hw.lx h2)
theorem ep_of {s : List UInt8} {e : Xp} {k : List (Nat × List UInt8)} (h : LxD k s) (hk : k.length ≤ 5000) (hs : s.length ≤ 20000) (hr : Re e (onL 1 k)) (hv : validF e = true) : EP s e 0 := by
  have ht : tokP s = (onL 1 k, 0, 0) := by unfold tokP; rw [if_neg (by omega), lx_all h hk 1]
  refine .ok (by rw [ht]) ?_ hv
  rw [ht]
  have := hr [] (fun n => rfl)
  rw [List.append_nil] at this; exact this
/-- a small expression -/
def smallS (e : Xp) : Prop := okE e = true ∧ cntE e ≤ 8 ∧ depE e ≤ 8
theorem valid_of {e : Xp} (h : okE e = true) (hc : cntE e ≤ 200) (hd : depE e ≤ 30) : validF e = true := by unfold validF; rw [h, decide_eq_true hc, decide_eq_true hd]; rfl
theorem ok_two {o : Int} {a b : Xp} (ha : okE a = true) (hb : okE b = true) (h : nodeB o 0 2 = true) : okE (nodeE o [a, b]) = true := by
  unfold nodeE okE; simp only [List.length_cons, List.length_nil, okL, ha, hb]; rw [h]; rfl
theorem ok_not {a : Xp} (ha : okE a = true) : okE (nodeE 15 [a]) = true := by
  unfold nodeE okE; simp only [List.length_cons, List.length_nil, okL, ha]; rfl
theorem ok_if {a b c : Xp} (ha : okE a = true) (hb : okE b = true) (hc : okE c = true) : okE (nodeE 10 [a, b, c]) = true := by
  unfold nodeE okE; simp only [List.length_cons, List.length_nil, okL, ha, hb, hc]; rfl
section
variable {a b c d : Xp} {w x y z : List UInt8} {ka kb kc kd : List (Nat × List UInt8)} (ha : Sw a w ka) (hb : Sw b x kb) (hc : Sw c y kc) (hd : Sw d z kd) (sa : smallS a) (sb : smallS b) (sc : smallS c) (sd : smallS d)
include ha hb hc hd sa sb sc sd
theorem src_p : EP (w ++ 32 :: ([43] ++ 32 :: (x ++ 32 :: ([42] ++ 32 :: (y ++ 32 :: ([60] ++ 32 :: (z ++ 32 :: ([45] ++ 32 :: (w ++ 32 :: ([47] ++ 32 :: x)))))))))) (nodeE 11 [nodeE 4 [a, nodeE 6 [b, c]], nodeE 5 [d, nodeE 7 [a, b]]]) 0 := by
  have ca := sw_count ha
  have cb := sw_count hb
  have cc := sw_count hc
  have cd := sw_count hd
  obtain ⟨oa, na, da⟩ := sa
  obtain ⟨ob, nb, db⟩ := sb
  obtain ⟨oc, nc, dc⟩ := sc
  obtain ⟨od, nd, dd⟩ := sd
  refine ep_of (lx_op (sw_lx ha) .add (lx_op (sw_lx hb) .mul (lx_op (sw_lx hc) .less (lx_op (sw_lx hd) .sub (lx_op (sw_lx ha) .div (sw_lx hb)))))) ?_ ?_ ?_ ?_
  · simp only [List.length_append, List.length_cons]; omega
  · simp only [List.length_append, List.length_cons, List.length_nil]; omega
  · have := prec_p (sw_sh 1 ha) (sw_sh 1 hb) (sw_sh 1 hc) (sw_sh 1 hd) (OpW.add.tok 1) (OpW.mul.tok 1) (OpW.less.tok 1) (OpW.sub.tok 1) (OpW.div.tok 1)
    simpa only [onL_app, onL_cons, List.append_assoc, List.append_nil, List.cons_append] using this
  · refine valid_of (ok_two (ok_two oa (ok_two ob oc rfl) rfl) (ok_two od (ok_two oa ob rfl) rfl) rfl) ?_ ?_
    · simp only [nodeE, cntE, cntL]; omega
    · simp only [nodeE, depE, depL]; omega
theorem src_q : EP (wNot ++ 32 :: (w ++ 32 :: ([61] ++ 32 :: (x ++ 32 :: (wAnd ++ 32 :: (y ++ 32 :: (wOr ++ 32 :: (z ++ 32 :: (wAnd ++ 32 :: (wNot ++ 32 :: (wNot ++ 32 :: w))))))))))) (nodeE 14 [nodeE 13 [nodeE 15 [nodeE 12 [a, b]], c], nodeE 13 [d, nodeE 15 [nodeE 15 [a]]]]) 0 := by
  have ca := sw_count ha
  have cb := sw_count hb
  have cc := sw_count hc
  have cd := sw_count hd
  obtain ⟨oa, na, da⟩ := sa
  obtain ⟨ob, nb, db⟩ := sb
  obtain ⟨oc, nc, dc⟩ := sc
  obtain ⟨od, nd, dd⟩ := sd
  have hn : LxD [(1, wNot)] wNot := lx_word (by decide) (by decide)
  refine ep_of (lx_inD hn (lx_op (sw_lx ha) .equal (lx_op (sw_lx hb) .and (lx_op (sw_lx hc) .or (lx_op (sw_lx hd) .and (lx_inD hn (lx_inD hn (sw_lx ha)))))))) ?_ ?_ ?_ ?_
  · simp only [List.length_append, List.length_cons, List.length_nil]; omega
  · simp only [List.length_append, List.length_cons, List.length_nil, wNot, wAnd, wOr]; omega
  · have := prec_q (sw_sh 1 ha) (sw_sh 1 hb) (sw_sh 1 hc) (sw_sh 1 hd) (p := ⟨1, 1, wNot⟩) (u := ⟨1, 1, wNot⟩) (v := ⟨1, 1, wNot⟩) rfl (OpW.equal.tok 1) (OpW.and.tok 1) (OpW.or.tok 1) (OpW.and.tok 1) rfl rfl
    simpa only [onL_app, onL_cons, List.append_assoc, List.append_nil, List.cons_append, List.nil_append] using this
  · refine valid_of (ok_two (ok_two (ok_not (ok_two oa ob rfl)) oc rfl) (ok_two od (ok_not (ok_not oa)) rfl) rfl) ?_ ?_
    · simp only [nodeE, cntE, cntL]; omega
    · simp only [nodeE, depE, depL]; omega
theorem src_r : EP (w ++ 32 :: ([45] ++ 32 :: (x ++ 32 :: ([43] ++ 32 :: (y ++ 32 :: ([45] ++ 32 :: z)))))) (nodeE 5 [nodeE 4 [nodeE 5 [a, b], c], d]) 0 := by
  have ca := sw_count ha
  have cb := sw_count hb
  have cc := sw_count hc
  have cd := sw_count hd
  obtain ⟨oa, na, da⟩ := sa
  obtain ⟨ob, nb, db⟩ := sb
  obtain ⟨oc, nc, dc⟩ := sc
  obtain ⟨od, nd, dd⟩ := sd
  refine ep_of (lx_op (sw_lx ha) .sub (lx_op (sw_lx hb) .add (lx_op (sw_lx hc) .sub (sw_lx hd)))) ?_ ?_ ?_ ?_
  · simp only [List.length_append, List.length_cons]; omega
  · simp only [List.length_append, List.length_cons, List.length_nil]; omega
  · have := prec_r (sw_sh 1 ha) (sw_sh 1 hb) (sw_sh 1 hc) (sw_sh 1 hd) (OpW.sub.tok 1) (OpW.add.tok 1) (OpW.sub.tok 1)
    simpa only [onL_app, onL_cons, List.append_assoc, List.append_nil, List.cons_append] using this
  · refine valid_of (ok_two (ok_two (ok_two oa ob rfl) oc rfl) od rfl) ?_ ?_
    · simp only [nodeE, cntE, cntL]; omega
    · simp only [nodeE, depE, depL]; omega
theorem src_s : EP (w ++ 32 :: ([47] ++ 32 :: (x ++ 32 :: ([42] ++ 32 :: (y ++ 32 :: (wOr ++ 32 :: (z ++ 32 :: (wOr ++ 32 :: w)))))))) (nodeE 14 [nodeE 14 [nodeE 6 [nodeE 7 [a, b], c], d], a]) 0 := by
  have ca := sw_count ha
  have cb := sw_count hb
  have cc := sw_count hc
  have cd := sw_count hd
  obtain ⟨oa, na, da⟩ := sa
  obtain ⟨ob, nb, db⟩ := sb
  obtain ⟨oc, nc, dc⟩ := sc
  obtain ⟨od, nd, dd⟩ := sd
  refine ep_of (lx_op (sw_lx ha) .div (lx_op (sw_lx hb) .mul (lx_op (sw_lx hc) .or (lx_op (sw_lx hd) .or (sw_lx ha))))) ?_ ?_ ?_ ?_
  · simp only [List.length_append, List.length_cons]; omega
  · simp only [List.length_append, List.length_cons, List.length_nil, wOr]; omega
  · have := prec_s (sw_sh 1 ha) (sw_sh 1 hb) (sw_sh 1 hc) (sw_sh 1 hd) (OpW.div.tok 1) (OpW.mul.tok 1) (OpW.or.tok 1) (OpW.or.tok 1)
    simpa only [onL_app, onL_cons, List.append_assoc, List.append_nil, List.cons_append] using this
  · refine valid_of (ok_two (ok_two (ok_two (ok_two oa ob rfl) oc rfl) od rfl) oa rfl) ?_ ?_
    · simp only [nodeE, cntE, cntL]; omega
    · simp only [nodeE, depE, depL]; omega
theorem src_t : EP (wIf ++ 32 :: (w ++ 32 :: (wThen ++ 32 :: (x ++ 32 :: (wElse ++ 32 :: (wIf ++ 32 :: (y ++ 32 :: (wThen ++ 32 :: (z ++ 32 :: (wElse ++ 32 :: (w ++ 32 :: ([43] ++ 32 :: x)))))))))))) (nodeE 10 [a, b, nodeE 10 [c, d, nodeE 4 [a, b]]]) 0 := by
  have ca := sw_count ha
  have cb := sw_count hb
  have cc := sw_count hc
  have cd := sw_count hd
  obtain ⟨oa, na, da⟩ := sa
  obtain ⟨ob, nb, db⟩ := sb
  obtain ⟨oc, nc, dc⟩ := sc
  obtain ⟨od, nd, dd⟩ := sd
  have hI : LxD [(1, wIf)] wIf := lx_word (by decide) (by decide)
  have hT : LxD [(1, wThen)] wThen := lx_word (by decide) (by decide)
  have hE : LxD [(1, wElse)] wElse := lx_word (by decide) (by decide)
  refine ep_of (lx_inD hI (lx_inD (sw_lx ha) (lx_inD hT (lx_inD (sw_lx hb) (lx_inD hE (lx_inD hI (lx_inD (sw_lx hc) (lx_inD hT (lx_inD (sw_lx hd) (lx_inD hE (lx_op (sw_lx ha) .add (sw_lx hb)))))))))))) ?_ ?_ ?_ ?_
  · simp only [List.length_append, List.length_cons, List.length_nil]; omega
  · simp only [List.length_append, List.length_cons, List.length_nil, wIf, wThen, wElse]; omega
  · have := prec_t (sw_sh 1 ha) (sw_sh 1 hb) (sw_sh 1 hc) (sw_sh 1 hd) (x := ⟨1, 1, wIf⟩) (y := ⟨1, 1, wThen⟩) (z := ⟨1, 1, wElse⟩) (x2 := ⟨1, 1, wIf⟩) (y2 := ⟨1, 1, wThen⟩) (z2 := ⟨1, 1, wElse⟩) rfl rfl rfl rfl rfl rfl (OpW.add.tok 1)
    simpa only [onL_app, onL_cons, List.append_assoc, List.append_nil, List.cons_append, List.nil_append] using this
  · refine valid_of (ok_if oa ob (ok_if oc od (ok_two oa ob rfl))) ?_ ?_
    · simp only [nodeE, cntE, cntL]; omega
    · simp only [nodeE, depE, depL]; omega
end
/-- P8.4: the source in brackets -/
theorem src_show {e : Xp} {s : List UInt8} {k : List (Nat × List UInt8)} (h : Sw e s k) (hv : validF e = true) : EP s e 0 := by
  have hc : cntE e ≤ 200 := by unfold validF at hv; simp only [Bool.and_eq_true, decide_eq_true_eq] at hv; exact hv.1.2
  have := sw_count h
  exact ep_of (sw_lx h) (by omega) (by omega) (re_sh (sw_sh 1 h)) hv
end Go.Proofs.YthnlenbfknbmcaaGreatDoor
namespace Go.Proofs.YthnlenbfknbmcaaGreatDoor
set_option maxRecDepth 100000

theorem tdig (k : Nat) (h : k < 10) : digB (UInt8.ofNat (48 + k)) = true ∧ (UInt8.ofNat (48 + k)).toNat = 48 + k := by
  have e : (UInt8.ofNat (48 + k)).toNat = 48 + k := by simp; omega
  exact ⟨by unfold digB; rw [e]; simp; omega, e⟩
/-- the digits of a number: how many, that they are digits, what they say, and that no 0 stands ahead -/
theorem dec_all : ∀ (n : Nat), (∀ x ∈ Lib.decDigits n, digB x = true) ∧ cents (Lib.decDigits n) = n ∧ (∃ c r, Lib.decDigits n = c :: r ∧ (n ≠ 0 → c ≠ 48) ∧ (10 ≤ n ∨ r = [])) := by
  intro n
  induction n using Nat.strongRecOn with
  | _ n ih =>
    rw [Lib.decDigits]
    split
    · next h =>
      obtain ⟨h1, h2⟩ := tdig n h
      refine ⟨fun x hx => ?_, ?_, _, _, rfl, fun h0 he => ?_, .inr rfl⟩
      · rw [List.mem_singleton.1 hx]; exact h1
      · have := cents_snoc [] (UInt8.ofNat (48 + n))
        rw [List.nil_append, if_pos h1, h2] at this
        rw [this]; simp [cents]
      · rw [he] at h2
        have : (48 : UInt8).toNat = 48 := rfl
        omega
    · next h =>
      obtain ⟨g1, g2, c, r, g3, g4, g5⟩ := ih (n / 10) (by omega)
      obtain ⟨h1, h2⟩ := tdig (n % 10) (by omega)
      refine ⟨fun x hx => ?_, ?_, c, r ++ [UInt8.ofNat (48 + n % 10)], by rw [g3]; rfl, fun _ => g4 (by omega), .inl (by omega)⟩
      · rcases List.mem_append.1 hx with hx | hx
        · exact g1 x hx
        · rw [List.mem_singleton.1 hx]; exact h1
      · rw [cents_snoc, if_pos h1, h2, g2]; omega
theorem dec_size : ∀ (k u : Nat), u < 10 ^ (k + 1) → (Lib.decDigits u).length ≤ k + 1 := by
  intro k
  induction k with
  | zero => intro u h; rw [Lib.decDigits, dif_pos (by omega)]; simp
  | succ k ih =>
    intro u h
    rw [Lib.decDigits]
    split
    · simp
    · rw [List.length_append]
      have := ih (u / 10) (by rw [Nat.pow_succ] at h; omega)
      simp; omega
theorem dig_not {c : UInt8} (h : digB c = true) : letB c = false ∧ sgnB c = false ∧ c ≠ 46 := by
  have h1 : 48 ≤ c.toNat ∧ c.toNat ≤ 57 := by simpa [digB] using h
  refine ⟨by simp [letB]; omega, ?_, by rintro rfl; revert h1; decide⟩
  unfold sgnB
  rw [Bool.eq_false_iff]
  intro hs
  have : c ∈ signs := by simpa using hs
  simp only [signs, List.mem_cons, List.not_mem_nil, or_false] at this
  rcases this with rfl | rfl | rfl | rfl | rfl | rfl | rfl | rfl | rfl | rfl | rfl | rfl | rfl <;> revert h1 <;> decide
theorem ndig_all {s : List UInt8} (h : ∀ x ∈ s, digB x = true) : nDig s = s.length := by
  unfold nDig
  rw [show s.takeWhile digB = s by
    have := tw_gap (p := digB) (a := s) (b := []) h (by intro c r e; cases e)
    simpa using this]
/-- the text of a number -/
theorem num_kind (n : Nat) (h : n ≤ 999999999) : kindF (Lib.decDigits n) = 2 ∧ cents (Lib.decDigits n) = n := by
  obtain ⟨g1, g2, c, r, g3, g4, g5⟩ := dec_all n
  have hl := dec_size 8 n (by omega)
  refine ⟨?_, g2⟩
  have hn := ndig_all g1
  rw [g3] at g1 hl hn ⊢
  obtain ⟨k1, k2, _⟩ := dig_not (g1 c (by simp))
  unfold kindF
  simp only
  rw [if_neg (by rw [k2]; simp), if_neg (by rw [k1]; simp), if_neg ?_, if_pos hn]
  rw [hn]
  rintro (h1 | h1 | ⟨h1, h2⟩)
  · simp at h1
  · omega
  · rcases g5 with g5 | g5
    · exact g4 (by omega) h2
    · subst g5; simp at h1
/-- the text of an amount -/
def monT (a : Nat) : List UInt8 := Lib.decDigits (a / 100) ++ [46, UInt8.ofNat (48 + a / 10 % 10), UInt8.ofNat (48 + a % 10)]
theorem mon_kind (a : Nat) (h : a ≤ 1000000000) : kindF (monT a) = 3 ∧ cents (monT a) = a := by
  obtain ⟨g1, g2, c, r, g3, g4, g5⟩ := dec_all (a / 100)
  have hl := dec_size 7 (a / 100) (by omega)
  obtain ⟨h1, h2⟩ := tdig (a / 10 % 10) (by omega)
  obtain ⟨h3, h4⟩ := tdig (a % 10) (by omega)
  have hc : cents (monT a) = a := by
    unfold monT
    rw [show ∀ A : List UInt8, A ++ [46, UInt8.ofNat (48 + a / 10 % 10), UInt8.ofNat (48 + a % 10)] = ((A ++ [46]) ++ [UInt8.ofNat (48 + a / 10 % 10)]) ++ [UInt8.ofNat (48 + a % 10)] from fun A => by simp,
      cents_snoc, if_pos h3, h4, cents_snoc, if_pos h1, h2, cents_snoc, if_neg (by decide), g2]
    omega
  refine ⟨?_, hc⟩
  have hn : nDig (monT a) = (Lib.decDigits (a / 100)).length := by
    unfold nDig monT
    rw [tw_gap g1 (by intro c r e; cases e; decide)]
  have hx : (monT a)[(Lib.decDigits (a / 100)).length]? = some 46 := by unfold monT; simp
  have hz : (monT a).length = (Lib.decDigits (a / 100)).length + 3 := by unfold monT; simp
  have hd : nDig ((monT a).drop ((Lib.decDigits (a / 100)).length + 1)) = 2 := by
    unfold monT
    rw [List.drop_append, List.drop_eq_nil_of_le (by omega), show (Lib.decDigits (a / 100)).length + 1 - (Lib.decDigits (a / 100)).length = 1 by omega]
    simp only [List.nil_append, List.drop_succ_cons, List.drop_zero]
    exact ndig_all (by intro x hx; simp only [List.mem_cons, List.not_mem_nil, or_false] at hx; rcases hx with rfl | rfl <;> assumption)
  obtain ⟨q, hq⟩ : ∃ q, monT a = c :: q := ⟨_, by unfold monT; rw [g3]; rfl⟩
  have k0 := g1 c (by rw [g3]; simp)
  obtain ⟨k1, k2, _⟩ := dig_not k0
  rw [hq] at hn hx hz hd hc ⊢
  have hp : 1 ≤ (Lib.decDigits (a / 100)).length := by rw [g3]; simp
  unfold kindF
  simp only
  rw [if_neg (by rw [k2]; simp), if_neg (by rw [k1]; simp), if_neg ?_, if_neg (by rw [hn, hz]; omega), if_neg ?_, if_neg (by rw [hc]; omega)]
  · rw [hn, hz, hx, hd]; simp
  · rw [hn]
    rintro (e1 | e1 | ⟨e1, e2⟩)
    · omega
    · omega
    · rcases g5 with g5 | g5
      · exact g4 (by omega) e2
      · subst g5; rw [g3] at e1; simp at e1
end Go.Proofs.YthnlenbfknbmcaaGreatDoor
