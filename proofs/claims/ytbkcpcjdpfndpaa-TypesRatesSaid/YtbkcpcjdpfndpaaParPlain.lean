/-
  The parser, plain: the grammar as one function with fuel over the tokens that are left; more fuel changes nothing; what stands behind changes nothing. No program in sight (ahead of the landing).
-/
import Derived.Test.YtbkcpcjdpfndpaaLexMath5
namespace Go.Proofs.Ytbkcpcjdpfndpaa

inductive Xp where
  | mk (op n : Int) (kids : List Xp)
instance : Inhabited Xp := ⟨.mk 0 0 []⟩
def leafE (o n : Int) : Xp := .mk o n []
def nodeE (o : Int) (l : List Xp) : Xp := .mk o 0 l
/-- a word, a number, an expression -/
inductive Item where
  | lit (w : List UInt8)
  | num
  | ex
inductive Cat where
  | seq (l : List Item)
  | expr
  | lvl (n : Nat)
  | tail (n : Nat) (e : Xp)
  | atom
/-- what was read and what is left, or where the token stands that cannot follow -/
inductive Res where
  | ok (l : List Xp) (r : List Tok)
  | bad (r : List Tok)
def Res.app (es : List Xp) : Res → Res
  | .ok l r => .ok (es ++ l) r
  | .bad r => .bad r
def Res.nod (o : Int) : Res → Res
  | .ok l r => .ok [nodeE o l] r
  | .bad r => .bad r
def wIf : List UInt8 := [105, 102]
def wThen : List UInt8 := [116, 104, 101, 110]
def wElse : List UInt8 := [101, 108, 115, 101]
def wNot : List UInt8 := [110, 111, 116]
def wMin : List UInt8 := [109, 105, 110]
def wMax : List UInt8 := [109, 97, 120]
def wOr : List UInt8 := [111, 114]
def wAnd : List UInt8 := [97, 110, 100]
def wOpen : List UInt8 := [40]
def wShut : List UInt8 := [41]
def wComma : List UInt8 := [44]
def ifI : List Item := [.ex, .lit wThen, .ex, .lit wElse, .ex]
def twoI : List Item := [.lit wOpen, .ex, .lit wComma, .ex, .lit wShut]
def brI : List Item := [.ex, .lit wShut]
def isT (w : List UInt8) : List Tok → Bool
  | [] => false
  | x :: _ => x.t == w
/-- the number of a variable, or 0 -/
def varF (t : List UInt8) : Nat :=
  if t = [110, 105, 103, 104, 116, 115] then 1 else if t = [112, 101, 114, 115, 111, 110, 115] then 2 else if t = [110, 105, 103, 104, 116] then 3 else if t = [119, 101, 101, 107, 100, 97, 121] then 4 else 0
/-- the operator of a level (1: or, 2: and, 3: comparisons, 4: sums, 5: products), or 0 -/
def opL (n : Nat) : List Tok → Nat
  | [] => 0
  | x :: _ => if n = 1 ∧ x.t = wOr then 14 else if n = 2 ∧ x.t = wAnd then 13 else if n = 3 ∧ x.t = [60] then 11 else if n = 3 ∧ x.t = [61] then 12
    else if n = 4 ∧ x.t = [43] then 4 else if n = 4 ∧ x.t = [45] then 5 else if n = 5 ∧ x.t = [42] then 6 else if n = 5 ∧ x.t = [47] then 7 else 0
def after (v : Option Res) (k : List Xp → List Tok → Option Res) : Option Res :=
  match v with
  | none => none
  | some (.bad r) => some (.bad r)
  | some (.ok l r) => k l r
/-- one step of the reading -/
def stepP (rec : Cat → List Tok → Option Res) : Cat → List Tok → Option Res
  | .seq [], ts => some (.ok [] ts)
  | .seq (.lit w :: is), ts => if isT w ts then rec (.seq is) ts.tail else some (.bad ts)
  | .seq (.num :: is), ts => (match ts with
    | [] => some (.bad [])
    | x :: r => if x.k = 2 then after (rec (.seq is) r) fun l r => some (.ok (leafE 1 (cents x.t) :: l) r) else some (.bad (x :: r)))
  | .seq (.ex :: is), ts => after (rec .expr ts) fun es r => after (rec (.seq is) r) fun l r => some (.ok (es ++ l) r)
  | .expr, ts => if isT wIf ts then after (rec (.seq ifI) ts.tail) fun l r => some (.ok [nodeE 10 l] r) else rec (.lvl 1) ts
  | .lvl n, ts => if 5 < n then rec .atom ts else if n = 3 ∧ isT wNot ts = true then after (rec (.lvl 3) ts.tail) fun l r => some (.ok [nodeE 15 l] r)
      else after (rec (.lvl (n + 1)) ts) fun l r => rec (.tail n (l.headD default)) r
  | .tail n e, ts => if opL n ts = 0 then some (.ok [e] ts) else after (rec (.lvl (n + 1)) ts.tail) fun l r => if n = 3 then some (.ok [nodeE (opL n ts) (e :: l)] r) else rec (.tail n (nodeE (opL n ts) (e :: l))) r
  | .atom, ts => (match ts with
    | [] => some (.bad [])
    | x :: r => if x.k = 2 then some (.ok [leafE 1 (cents x.t)] r) else if x.k = 3 then some (.ok [leafE 2 (cents x.t)] r) else if varF x.t ≠ 0 then some (.ok [leafE 3 (varF x.t)] r)
      else if x.t = wMin then after (rec (.seq twoI) r) fun l r => some (.ok [nodeE 8 l] r) else if x.t = wMax then after (rec (.seq twoI) r) fun l r => some (.ok [nodeE 9 l] r)
      else if x.t = wOpen then rec (.seq brI) r else some (.bad (x :: r)))
def run : Nat → Cat → List Tok → Option Res
  | 0, _, _ => none
  | f + 1, c, ts => stepP (run f) c ts
/-- what is read, with fuel enough -/
def G (c : Cat) (ts : List Tok) (a : Res) : Prop := ∃ f, run f c ts = some a

theorem after_mono {v v' : Option Res} {k k' : List Xp → List Tok → Option Res} (hv : ∀ a, v = some a → v' = some a) (hk : ∀ l r a, k l r = some a → k' l r = some a) : ∀ a, after v k = some a → after v' k' = some a := by
  intro a h
  cases hv0 : v with
  | none => rw [hv0] at h; cases h
  | some b =>
    rw [hv0] at h
    rw [hv b hv0]
    cases b with
    | bad r => exact h
    | ok l r => exact hk l r a h
theorem step_mono {rec rec' : Cat → List Tok → Option Res} (h : ∀ c ts a, rec c ts = some a → rec' c ts = some a) : ∀ c ts a, stepP rec c ts = some a → stepP rec' c ts = some a := by
  intro c ts a ha
  match c with
  | .seq [] => exact ha
  | .seq (.lit w :: is) =>
    simp only [stepP] at ha ⊢
    split
    · next hc => rw [if_pos hc] at ha; exact h _ _ _ ha
    · next hc => rw [if_neg hc] at ha; exact ha
  | .seq (.num :: is) =>
    cases ts with
    | nil => exact ha
    | cons x r =>
      simp only [stepP] at ha ⊢
      split
      · next hc => rw [if_pos hc] at ha; exact after_mono (h _ _) (fun _ _ _ h => h) a ha
      · next hc => rw [if_neg hc] at ha; exact ha
  | .seq (.ex :: is) => exact after_mono (h _ _) (fun l r a => after_mono (h _ _) (fun _ _ _ h => h) a) a ha
  | .expr =>
    simp only [stepP] at ha ⊢
    split
    · next hc => rw [if_pos hc] at ha; exact after_mono (h _ _) (fun _ _ _ h => h) a ha
    · next hc => rw [if_neg hc] at ha; exact h _ _ _ ha
  | .lvl n =>
    simp only [stepP] at ha ⊢
    split
    · next hc => rw [if_pos hc] at ha; exact h _ _ _ ha
    · next hc =>
      rw [if_neg hc] at ha
      split
      · next hd => rw [if_pos hd] at ha; exact after_mono (h _ _) (fun _ _ _ h => h) a ha
      · next hd => rw [if_neg hd] at ha; exact after_mono (h _ _) (fun _ _ _ h2 => h _ _ _ h2) a ha
  | .tail n e =>
    simp only [stepP] at ha ⊢
    split
    · next hc => rw [if_pos hc] at ha; exact ha
    · next hc =>
      rw [if_neg hc] at ha
      refine after_mono (h _ _) (fun l r b hb => ?_) a ha
      split
      · next hd => rw [if_pos hd] at hb; exact hb
      · next hd => rw [if_neg hd] at hb; exact h _ _ _ hb
  | .atom =>
    cases ts with
    | nil => exact ha
    | cons x r =>
      simp only [stepP] at ha ⊢
      split
      · next hc => rw [if_pos hc] at ha; exact ha
      · next h1 =>
        rw [if_neg h1] at ha
        split
        · next hc => rw [if_pos hc] at ha; exact ha
        · next h2 =>
          rw [if_neg h2] at ha
          split
          · next hc => rw [if_pos hc] at ha; exact ha
          · next h3 =>
            rw [if_neg h3] at ha
            split
            · next hc => rw [if_pos hc] at ha; exact after_mono (h _ _) (fun _ _ _ h => h) a ha
            · next h4 =>
              rw [if_neg h4] at ha
              split
              · next hc => rw [if_pos hc] at ha; exact after_mono (h _ _) (fun _ _ _ h => h) a ha
              · next h5 =>
                rw [if_neg h5] at ha
                split
                · next hc => rw [if_pos hc] at ha; exact h _ _ _ ha
                · next hc => rw [if_neg hc] at ha; exact ha
theorem run_more : ∀ (f : Nat) (c : Cat) (ts : List Tok) (a : Res), run f c ts = some a → run (f + 1) c ts = some a
  | 0, _, _, _, h => by cases h
  | f + 1, c, ts, a, h => step_mono (run_more f) c ts a h
theorem run_le {f g : Nat} (h : f ≤ g) {c : Cat} {ts : List Tok} {a : Res} (hr : run f c ts = some a) : run g c ts = some a := by
  induction h with
  | refl => exact hr
  | step _ ih => exact run_more _ _ _ _ ih
theorem G.det {c : Cat} {ts : List Tok} {a b : Res} (ha : G c ts a) (hb : G c ts b) : a = b := by
  obtain ⟨f, hf⟩ := ha
  obtain ⟨g, hg⟩ := hb
  have h1 := run_le (Nat.le_max_left f g) hf
  rw [run_le (Nat.le_max_right f g) hg] at h1
  exact (Option.some.inj h1).symm
end Go.Proofs.Ytbkcpcjdpfndpaa
