/-
  The parser, plain: lines change nothing; the words rate are counted.
-/
import Derived.Test.YtbkcpcjdpfndpaaParShow
namespace Go.Proofs.Ytbkcpcjdpfndpaa

def Res.mp (g : Tok → Tok) : Res → Res
  | .ok l r => .ok l (r.map g)
  | .bad r => .bad (r.map g)
section
variable {g : Tok → Tok} (hk : ∀ x, (g x).k = x.k) (ht : ∀ x, (g x).t = x.t)
include ht in
theorem isT_map (w : List UInt8) (ts : List Tok) : isT w (ts.map g) = isT w ts := by cases ts with | nil => rfl | cons x r => simp only [List.map_cons, isT, ht]
include ht in
theorem op_map (n : Nat) (ts : List Tok) : opL n (ts.map g) = opL n ts := by cases ts with | nil => rfl | cons x r => simp only [List.map_cons, opL, ht]
theorem tail_map (ts : List Tok) : (ts.map g).tail = ts.tail.map g := by cases ts <;> rfl
theorem after_map {v v' : Option Res} {k k' : List Xp → List Tok → Option Res} (hv : v' = v.map (Res.mp g)) (hkk : ∀ l r, k' l (r.map g) = (k l r).map (Res.mp g)) : after v' k' = (after v k).map (Res.mp g) := by
  subst hv
  cases v with
  | none => rfl
  | some b =>
    cases b with
    | bad r => rfl
    | ok l r => exact hkk l r
include hk ht in
theorem step_map {rec : Cat → List Tok → Option Res} (h : ∀ c ts, rec c (ts.map g) = (rec c ts).map (Res.mp g)) : ∀ c ts, stepP rec c (ts.map g) = (stepP rec c ts).map (Res.mp g) := by
  intro c ts
  match c with
  | .seq [] => rfl
  | .seq (.lit w :: is) =>
    simp only [stepP]
    rw [isT_map ht, tail_map]
    split
    · exact h _ _
    · rfl
  | .seq (.num :: is) =>
    cases ts with
    | nil => rfl
    | cons x r =>
      simp only [stepP, List.map_cons, hk, ht]
      split
      · exact after_map (h _ _) (fun l r => rfl)
      · rfl
  | .seq (.ex :: is) => exact after_map (h _ _) (fun l r => after_map (h _ _) (fun l r => rfl))
  | .expr =>
    simp only [stepP]
    rw [isT_map ht, tail_map]
    split
    · exact after_map (h _ _) (fun l r => rfl)
    · exact h _ _
  | .lvl n =>
    simp only [stepP]
    rw [isT_map ht, tail_map]
    split
    · exact h _ _
    · split
      · exact after_map (h _ _) (fun l r => rfl)
      · exact after_map (h _ _) (fun l r => h _ _)
  | .tail n e =>
    simp only [stepP]
    rw [op_map ht, tail_map]
    split
    · rfl
    · refine after_map (h _ _) (fun l r => ?_)
      split
      · rfl
      · exact h _ _
  | .atom =>
    cases ts with
    | nil => rfl
    | cons x r =>
      simp only [stepP, List.map_cons, hk, ht]
      split
      · rfl
      · split
        · rfl
        · split
          · rfl
          · split
            · exact after_map (h _ _) (fun l r => rfl)
            · split
              · exact after_map (h _ _) (fun l r => rfl)
              · split
                · exact h _ _
                · rfl
include hk ht in
theorem run_map : ∀ (f : Nat) (c : Cat) (ts : List Tok), run f c (ts.map g) = (run f c ts).map (Res.mp g)
  | 0, _, _ => rfl
  | f + 1, c, ts => step_map hk ht (run_map f) c ts
include hk ht in
theorem G.map {c : Cat} {ts : List Tok} {a : Res} (h : G c ts a) : G c (ts.map g) (a.mp g) := by
  obtain ⟨f, hf⟩ := h
  exact ⟨f, by rw [run_map hk ht, hf]; rfl⟩
end

/-! ### How many words -/
def wRate : List UInt8 := [114, 97, 116, 101]
def cw (ts : List Tok) : Nat := ts.countP fun x => x.t == wRate
def litsI : List Item → Nat
  | [] => 0
  | .lit w :: is => litsI is + if w = wRate then 1 else 0
  | _ :: is => litsI is
def lits : Cat → Nat
  | .seq is => litsI is
  | _ => 0
def okT (ts : List Tok) : Prop := ∀ x ∈ ts, x.k = 2 ∨ x.k = 3 → x.t ≠ wRate
theorem okT.suf {ts r : List Tok} (h : okT ts) (hs : r <:+ ts) : okT r := fun x hx => h x (hs.mem hx)
theorem cw_cons (x : Tok) (r : List Tok) : cw (x :: r) = cw r + if x.t = wRate then 1 else 0 := by
  unfold cw; rw [List.countP_cons]; congr 1; by_cases h : x.t = wRate <;> simp [h]
theorem cw_other {x : Tok} {r : List Tok} (h : x.t ≠ wRate) : cw (x :: r) = cw r := by rw [cw_cons, if_neg h]; rfl
theorem cw_tail {ts : List Tok} {w : List UInt8} (h : isT w ts = true) : cw ts = cw ts.tail + if w = wRate then 1 else 0 := by
  cases ts with
  | nil => cases h
  | cons x r =>
    have hx : x.t = w := by simpa [isT] using h
    rw [cw_cons, hx]; rfl
theorem op_text {n : Nat} {ts : List Tok} (h : opL n ts ≠ 0) : cw ts = cw ts.tail := by
  cases ts with
  | nil => rfl
  | cons x r =>
    refine cw_other fun e => h ?_
    rw [opF_cons, e]; simp [wRate, wOr, wAnd]
theorem step_cw {rec : Cat → List Tok → Option Res} (hs : ∀ c ts a, rec c ts = some a → a.rest <:+ ts) (h : ∀ c ts l r, rec c ts = some (.ok l r) → okT ts → cw ts = cw r + lits c) :
    ∀ c ts l r, stepP rec c ts = some (.ok l r) → okT ts → cw ts = cw r + lits c := by
  intro c ts l r ha ho
  match c with
  | .seq [] => cases ha; rfl
  | .seq (.lit w :: is) =>
    simp only [stepP] at ha
    split at ha
    · next hi =>
      rw [cw_tail hi, h _ _ _ _ ha (ho.suf (tail_suf ts))]
      simp only [lits, litsI]; omega
    · cases ha
  | .seq (.num :: is) =>
    cases ts with
    | nil => cases ha
    | cons x q =>
      simp only [stepP] at ha
      split at ha
      · next hi =>
        obtain ⟨l2, r2, h1, h2⟩ := after_ok ha
        cases h2
        rw [cw_other (ho x (by simp) (.inl hi)), h _ _ _ _ h1 (ho.suf (tail_suf (x :: q)))]; rfl
      · cases ha
  | .seq (.ex :: is) =>
    obtain ⟨l1, r1, h1, h2⟩ := after_ok ha
    obtain ⟨l2, r2, h3, h4⟩ := after_ok h2
    cases h4
    have e1 := h _ _ _ _ h1 ho
    have e2 := h _ _ _ _ h3 (ho.suf (hs _ _ _ h1))
    simp only [lits, litsI] at e1 e2 ⊢; omega
  | .expr =>
    simp only [stepP] at ha
    split at ha
    · next hi =>
      obtain ⟨l1, r1, h1, h2⟩ := after_ok ha
      cases h2
      rw [cw_tail hi, h _ _ _ _ h1 (ho.suf (tail_suf ts))]; rfl
    · have e1 := h _ _ _ _ ha ho
      exact e1
  | .lvl n =>
    simp only [stepP] at ha
    split at ha
    · have e1 := h _ _ _ _ ha ho
      exact e1
    · split at ha
      · next hd =>
        obtain ⟨l1, r1, h1, h2⟩ := after_ok ha
        cases h2
        rw [cw_tail hd.2, h _ _ _ _ h1 (ho.suf (tail_suf ts))]; rfl
      · obtain ⟨l1, r1, h1, h2⟩ := after_ok ha
        have e1 := h _ _ _ _ h1 ho
        have e2 := h _ _ _ _ h2 (ho.suf (hs _ _ _ h1))
        simp only [lits] at e1 e2 ⊢; omega
  | .tail n e =>
    simp only [stepP] at ha
    split at ha
    · cases ha; rfl
    · next h0 =>
      obtain ⟨l1, r1, h1, h2⟩ := after_ok ha
      have hs1 : okT ts.tail := ho.suf (tail_suf ts)
      have e1 := h _ _ _ _ h1 hs1
      rw [op_text h0]
      split at h2
      · cases h2; exact e1
      · have e2 := h _ _ _ _ h2 (hs1.suf (hs _ _ _ h1))
        simp only [lits] at e1 e2 ⊢; omega
  | .atom =>
    cases ts with
    | nil => cases ha
    | cons x q =>
      simp only [stepP] at ha
      have hq : okT q := ho.suf (tail_suf (x :: q))
      split at ha
      · next h2 => cases ha; exact cw_other (ho x (by simp) (.inl h2))
      · split at ha
        · next h3 => cases ha; exact cw_other (ho x (by simp) (.inr h3))
        · split at ha
          · next hv => cases ha; exact cw_other fun e => hv (by rw [e]; decide)
          · split at ha
            · next hm =>
              obtain ⟨l1, r1, g1, g2⟩ := after_ok ha
              cases g2
              rw [cw_other (by rw [hm]; decide), h _ _ _ _ g1 hq]; rfl
            · split at ha
              · next hm =>
                obtain ⟨l1, r1, g1, g2⟩ := after_ok ha
                cases g2
                rw [cw_other (by rw [hm]; decide), h _ _ _ _ g1 hq]; rfl
              · split at ha
                · next hm => rw [cw_other (by rw [hm]; decide), h _ _ _ _ ha hq]; rfl
                · cases ha
theorem run_cw : ∀ (f : Nat) (c : Cat) (ts : List Tok) (l : List Xp) (r : List Tok), run f c ts = some (.ok l r) → okT ts → cw ts = cw r + lits c
  | 0, _, _, _, _, h, _ => by cases h
  | f + 1, c, ts, l, r, h, ho => step_cw (run_suf f) (run_cw f) c ts l r h ho
theorem G.cw {c : Cat} {ts : List Tok} {l : List Xp} {r : List Tok} (h : G c ts (.ok l r)) (ho : okT ts) : cw ts = Go.Proofs.Ytbkcpcjdpfndpaa.cw r + lits c := by obtain ⟨f, hf⟩ := h; exact run_cw f c ts l r hf ho
end Go.Proofs.Ytbkcpcjdpfndpaa
