/-
  The parser, plain: rates one after another; a source behind another one; what is well-formed.
-/
import Derived.Test.YtbkcpcjdpfndpaaParLines
namespace Go.Proofs.Ytbkcpcjdpfndpaa

def wLevel : List UInt8 := [108, 101, 118, 101, 108]
def wKind : List UInt8 := [107, 105, 110, 100]
def wNights : List UInt8 := [110, 105, 103, 104, 116, 115]
def wTo : List UInt8 := [116, 111]
def wStay : List UInt8 := [115, 116, 97, 121]
def wArrive : List UInt8 := [97, 114, 114, 105, 118, 101]
def wKeep : List UInt8 := [107, 101, 101, 112]
def wPart : List UInt8 := [37]
def wWhen : List UInt8 := [119, 104, 101, 110]
def wPrice : List UInt8 := [112, 114, 105, 99, 101]
def wStop : List UInt8 := [59]
def rateI : List Item := [.lit wRate, .num, .lit wLevel, .num, .lit wKind, .num, .lit wNights, .num, .lit wTo, .num, .lit wStay, .num, .lit wTo, .num, .lit wArrive, .num, .lit wKeep, .num, .lit wPart, .lit wWhen, .ex, .lit wPrice, .ex, .lit wStop]
theorem rate_closed : closed (.seq rateI) = true := rfl
theorem rate_lits : lits (.seq rateI) = 1 := by decide

/-! ### Well-formed expressions -/
/-- a node by itself -/
def nodeB (o n : Int) (k : Nat) : Bool :=
  if o = 1 then decide (k = 0) && decide (0 ≤ n) && decide (n ≤ 999999999) else if o = 2 then decide (k = 0) && decide (0 ≤ n) && decide (n ≤ 1000000000) else if o = 3 then decide (k = 0) && decide (1 ≤ n) && decide (n ≤ 4)
  else if o = 15 then decide (k = 1) && decide (n = 0) else if o = 10 then decide (k = 3) && decide (n = 0) else decide (4 ≤ o) && decide (o ≤ 14) && decide (k = 2) && decide (n = 0)
mutual
def okE : Xp → Bool
  | .mk o n kids => nodeB o n kids.length && okL kids
def okL : List Xp → Bool
  | [] => true
  | e :: r => okE e && okL r
end
mutual
def cntE : Xp → Nat
  | .mk _ _ kids => 1 + cntL kids
def cntL : List Xp → Nat
  | [] => 0
  | e :: r => cntE e + cntL r
end
mutual
def depE : Xp → Nat
  | .mk _ _ kids => 1 + depL kids
def depL : List Xp → Nat
  | [] => 0
  | e :: r => max (depE e) (depL r)
end
def validF (e : Xp) : Bool := okE e && decide (cntE e ≤ 200) && decide (depE e ≤ 30)
def validR (l : List Xp) : Bool := validF (l.getD 9 default) && validF (l.getD 10 default)

/-! ### Rates -/
inductive RRes where
  | ok (l : List (List Xp))
  | err (e : Nat) (r : List Tok)
def RRes.mp (g : Tok → Tok) : RRes → RRes
  | .ok l => .ok l
  | .err e r => .err e (r.map g)
/-- the rates from here on, behind so many; an error (1: not well-formed, 2: too many, 8: a token that cannot follow), and where -/
inductive RR : Nat → List Tok → RRes → Prop where
  | nil {c : Nat} : RR c [] (.ok [])
  | lim {c : Nat} {ts : List Tok} : isT wRate ts = true → c = 100 → RR c ts (.err 2 ts)
  | syn {c : Nat} {ts r : List Tok} : ts ≠ [] → ¬ (isT wRate ts = true ∧ c = 100) → G (.seq rateI) ts (.bad r) → RR c ts (.err 8 r)
  | arg {c : Nat} {ts r : List Tok} {l : List Xp} : ts ≠ [] → ¬ (isT wRate ts = true ∧ c = 100) → G (.seq rateI) ts (.ok l r) → validR l = false → RR c ts (.err 1 ts)
  | more {c : Nat} {ts r : List Tok} {l : List Xp} {ls : List (List Xp)} : ts ≠ [] → ¬ (isT wRate ts = true ∧ c = 100) → G (.seq rateI) ts (.ok l r) → validR l = true → RR (c + 1) r (.ok ls) → RR c ts (.ok (l :: ls))
  | later {c e : Nat} {ts r q : List Tok} {l : List Xp} : ts ≠ [] → ¬ (isT wRate ts = true ∧ c = 100) → G (.seq rateI) ts (.ok l r) → validR l = true → RR (c + 1) r (.err e q) → RR c ts (.err e q)
theorem ok_inj {l l2 : List Xp} {r r2 : List Tok} (h : Res.ok l r = .ok l2 r2) : l = l2 ∧ r = r2 := by cases h; exact ⟨rfl, rfl⟩
theorem RR.det {c : Nat} {ts : List Tok} {a b : RRes} (h : RR c ts a) : RR c ts b → a = b := by
  induction h generalizing b with
  | nil =>
    intro h2
    cases h2 with
    | nil => rfl
    | lim h => cases h
    | syn h => exact absurd rfl h
    | arg h => exact absurd rfl h
    | more h => exact absurd rfl h
    | later h => exact absurd rfl h
  | lim h hc =>
    intro h2
    cases h2 with
    | nil => cases h
    | lim _ _ => rfl
    | syn _ hn => exact absurd ⟨h, hc⟩ hn
    | arg _ hn => exact absurd ⟨h, hc⟩ hn
    | more _ hn => exact absurd ⟨h, hc⟩ hn
    | later _ hn => exact absurd ⟨h, hc⟩ hn
  | syn h hn hg =>
    intro h2
    cases h2 with
    | nil => exact absurd rfl h
    | lim h3 hc => exact absurd ⟨h3, hc⟩ hn
    | syn _ _ g2 => cases hg.det g2; rfl
    | arg _ _ g2 => cases hg.det g2
    | more _ _ g2 => cases hg.det g2
    | later _ _ g2 => cases hg.det g2
  | arg h hn hg hv =>
    intro h2
    cases h2 with
    | nil => exact absurd rfl h
    | lim h3 hc => exact absurd ⟨h3, hc⟩ hn
    | syn _ _ g2 => cases hg.det g2
    | arg _ _ g2 => rfl
    | more _ _ g2 hv2 => obtain ⟨rfl, rfl⟩ := ok_inj (hg.det g2); rw [hv] at hv2; cases hv2
    | later _ _ g2 hv2 => obtain ⟨rfl, rfl⟩ := ok_inj (hg.det g2); rw [hv] at hv2; cases hv2
  | more h hn hg hv _ ih =>
    intro h2
    cases h2 with
    | lim h3 hc => exact absurd ⟨h3, hc⟩ hn
    | nil => exact absurd rfl h
    | syn _ _ g2 => cases hg.det g2
    | arg _ _ g2 hv2 => obtain ⟨rfl, rfl⟩ := ok_inj (hg.det g2); rw [hv] at hv2; cases hv2
    | more _ _ g2 _ h3 => obtain ⟨rfl, rfl⟩ := ok_inj (hg.det g2); cases ih h3; rfl
    | later _ _ g2 _ h3 => obtain ⟨rfl, rfl⟩ := ok_inj (hg.det g2); cases ih h3
  | later h hn hg hv _ ih =>
    intro h2
    cases h2 with
    | lim h3 hc => exact absurd ⟨h3, hc⟩ hn
    | nil => exact absurd rfl h
    | syn _ _ g2 => cases hg.det g2
    | arg _ _ g2 hv2 => obtain ⟨rfl, rfl⟩ := ok_inj (hg.det g2); rw [hv] at hv2; cases hv2
    | more _ _ g2 _ h3 => obtain ⟨rfl, rfl⟩ := ok_inj (hg.det g2); cases ih h3
    | later _ _ g2 _ h3 => obtain ⟨rfl, rfl⟩ := ok_inj (hg.det g2); exact ih h3
/-- as many rates as there are words rate, all well-formed -/
theorem RR.count {c : Nat} {ts : List Tok} {ls : List (List Xp)} (h : RR c ts (.ok ls)) (ho : okT ts) : cw ts = ls.length ∧ ∀ l ∈ ls, validR l = true := by
  generalize ha : RRes.ok ls = a at h
  induction h generalizing ls with
  | nil => cases ha; exact ⟨rfl, fun l hl => by cases hl⟩
  | lim => cases ha
  | syn => cases ha
  | arg => cases ha
  | later => cases ha
  | more _ _ hg hv _ ih =>
    cases ha
    obtain ⟨h1, h2⟩ := ih (ho.suf hg.suf) rfl
    refine ⟨?_, fun l hl => ?_⟩
    · have := hg.cw ho
      rw [rate_lits, h1] at this; rw [this]; rfl
    · rcases List.mem_cons.1 hl with rfl | hl
      · exact hv
      · exact h2 l hl
theorem RR.from {c : Nat} {ts : List Tok} {ls : List (List Xp)} (h : RR c ts (.ok ls)) : ∀ d, d + ls.length ≤ 100 → RR d ts (.ok ls) := by
  generalize ha : RRes.ok ls = a at h
  induction h generalizing ls with
  | nil => cases ha; intro d _; exact .nil
  | lim => cases ha
  | syn => cases ha
  | arg => cases ha
  | later => cases ha
  | more h hn hg hv _ ih =>
    cases ha
    intro d hd
    simp only [List.length_cons] at hd
    exact .more h (fun hc => by omega) hg hv (ih rfl (d + 1) (by omega))
/-- a source behind another one -/
theorem RR.app {c : Nat} {ts us : List Tok} {ls ms : List (List Xp)} (h : RR c ts (.ok ls)) : RR (c + ls.length) us (.ok ms) → RR c (ts ++ us) (.ok (ls ++ ms)) := by
  generalize ha : RRes.ok ls = a at h
  induction h generalizing ls with
  | nil => cases ha; intro h2; exact h2
  | lim => cases ha
  | syn => cases ha
  | arg => cases ha
  | later => cases ha
  | @more c ts r l ls2 h hn hg hv _ ih =>
    cases ha
    intro h2
    refine .more (by simp [h]) (by rw [isT_app h]; exact hn) (hg.app (us := us) (.inr (.inl rate_closed))) hv (ih rfl ?_)
    simp only [List.length_cons] at h2
    rw [show c + 1 + ls2.length = c + (ls2.length + 1) by omega]; exact h2
theorem RR.map {g : Tok → Tok} (hk : ∀ x, (g x).k = x.k) (ht : ∀ x, (g x).t = x.t) {c : Nat} {ts : List Tok} {a : RRes} (h : RR c ts a) : RR c (ts.map g) (a.mp g) := by
  induction h with
  | nil => exact .nil
  | lim h hc => exact .lim (by rw [isT_map ht]; exact h) hc
  | syn h hn hg => exact .syn (by simp [h]) (by rw [isT_map ht]; exact hn) (hg.map hk ht)
  | arg h hn hg hv => exact .arg (by simp [h]) (by rw [isT_map ht]; exact hn) (hg.map hk ht) hv
  | more h hn hg hv _ ih => exact .more (by simp [h]) (by rw [isT_map ht]; exact hn) (hg.map hk ht) hv ih
  | later h hn hg hv _ ih => exact .later (by simp [h]) (by rw [isT_map ht]; exact hn) (hg.map hk ht) hv ih
theorem RR.err_at {c e : Nat} {ts q : List Tok} (h : RR c ts (.err e q)) : q <:+ ts ∧ ts ≠ [] ∧ (e = 1 ∨ e = 2 ∨ e = 8) := by
  generalize ha : RRes.err e q = a at h
  induction h generalizing e q with
  | nil => cases ha
  | lim h _ => cases ha; exact ⟨List.suffix_refl _, isT_ne h, .inr (.inl rfl)⟩
  | syn h _ hg => cases ha; exact ⟨hg.suf, h, .inr (.inr rfl)⟩
  | arg h => cases ha; exact ⟨List.suffix_refl _, h, .inl rfl⟩
  | more => cases ha
  | later h _ hg _ _ ih =>
    cases ha
    have := ih rfl
    exact ⟨this.1.trans hg.suf, h, this.2.2⟩
end Go.Proofs.Ytbkcpcjdpfndpaa
