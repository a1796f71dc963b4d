/-
  The parser, plain: what is left is an end of what was there; what stands behind changes nothing; the rules one by one.
-/
import Derived.Test.YtbkcpcjdpfndpaaParPlain
namespace Go.Proofs.Ytbkcpcjdpfndpaa

def Res.rest : Res → List Tok
  | .ok _ r => r
  | .bad r => r
theorem after_cases {v : Option Res} {k : List Xp → List Tok → Option Res} {a : Res} (h : after v k = some a) : (∃ r, v = some (.bad r) ∧ a = .bad r) ∨ ∃ l r, v = some (.ok l r) ∧ k l r = some a := by
  cases v with
  | none => cases h
  | some b =>
    cases b with
    | bad r => exact .inl ⟨r, rfl, (Option.some.inj h).symm⟩
    | ok l r => exact .inr ⟨l, r, rfl, h⟩
theorem after_suf {ts ts2 : List Tok} {v : Option Res} {k : List Xp → List Tok → Option Res} {a : Res} (h : after v k = some a) (hs : ts2 <:+ ts) (hv : ∀ b, v = some b → b.rest <:+ ts2) (hk : ∀ l r, k l r = some a → a.rest <:+ r) : a.rest <:+ ts := by
  rcases after_cases h with ⟨r, hr, rfl⟩ | ⟨l, r, hr, hkk⟩
  · exact (hv _ hr).trans hs
  · exact (hk l r hkk).trans ((hv _ hr).trans hs)
theorem tail_suf (ts : List Tok) : ts.tail <:+ ts := List.tail_suffix ts
theorem ok_suf {x : Res} {l : List Xp} {r : List Tok} (h : some (Res.ok l r) = some x) : x.rest <:+ r := by cases h; exact List.suffix_refl _
theorem step_suf {rec : Cat → List Tok → Option Res} (h : ∀ c ts a, rec c ts = some a → a.rest <:+ ts) : ∀ c ts a, stepP rec c ts = some a → a.rest <:+ ts := by
  intro c ts a ha
  match c with
  | .seq [] => exact ok_suf ha
  | .seq (.lit w :: is) =>
    simp only [stepP] at ha
    split at ha
    · exact (h _ _ _ ha).trans (tail_suf ts)
    · cases ha; exact List.suffix_refl _
  | .seq (.num :: is) =>
    cases ts with
    | nil => cases ha; exact List.suffix_refl _
    | cons x r =>
      simp only [stepP] at ha
      split at ha
      · exact after_suf ha (tail_suf (x :: r)) (fun b hb => h _ _ _ hb) (fun l r h => ok_suf h)
      · cases ha; exact List.suffix_refl _
  | .seq (.ex :: is) => exact after_suf ha (List.suffix_refl _) (fun b hb => h _ _ _ hb) (fun l r h2 => after_suf h2 (List.suffix_refl _) (fun b hb => h _ _ _ hb) (fun _ _ h => ok_suf h))
  | .expr =>
    simp only [stepP] at ha
    split at ha
    · exact after_suf ha (tail_suf ts) (fun b hb => h _ _ _ hb) (fun l r h => ok_suf h)
    · exact h _ _ _ ha
  | .lvl n =>
    simp only [stepP] at ha
    split at ha
    · exact h _ _ _ ha
    · split at ha
      · exact after_suf ha (tail_suf ts) (fun b hb => h _ _ _ hb) (fun l r h => ok_suf h)
      · exact after_suf ha (List.suffix_refl _) (fun b hb => h _ _ _ hb) (fun l r h2 => h _ _ _ h2)
  | .tail n e =>
    simp only [stepP] at ha
    split at ha
    · exact ok_suf ha
    · refine after_suf ha (tail_suf ts) (fun b hb => h _ _ _ hb) (fun l r h2 => ?_)
      split at h2
      · exact ok_suf h2
      · exact h _ _ _ h2
  | .atom =>
    cases ts with
    | nil => cases ha; exact List.suffix_refl _
    | cons x r =>
      simp only [stepP] at ha
      have hx : r <:+ x :: r := tail_suf (x :: r)
      split at ha
      · exact (ok_suf ha).trans hx
      · split at ha
        · exact (ok_suf ha).trans hx
        · split at ha
          · exact (ok_suf ha).trans hx
          · split at ha
            · exact after_suf ha hx (fun b hb => h _ _ _ hb) (fun l r h => ok_suf h)
            · split at ha
              · exact after_suf ha hx (fun b hb => h _ _ _ hb) (fun l r h => ok_suf h)
              · split at ha
                · exact (h _ _ _ ha).trans hx
                · cases ha; exact List.suffix_refl _
theorem run_suf : ∀ (f : Nat) (c : Cat) (ts : List Tok) (a : Res), run f c ts = some a → a.rest <:+ ts
  | 0, _, _, _, h => by cases h
  | f + 1, c, ts, a, h => step_suf (run_suf f) c ts a h
theorem G.suf {c : Cat} {ts : List Tok} {a : Res} (h : G c ts a) : a.rest <:+ ts := by obtain ⟨f, hf⟩ := h; exact run_suf f c ts a hf

/-- of nothing only nothing is read -/
def wants : Cat → Bool
  | .seq [] => false
  | .tail _ _ => false
  | _ => true
theorem step_none {rec : Cat → List Tok → Option Res} (h : ∀ c l r, wants c = true → rec c [] ≠ some (.ok l r)) : ∀ c l r, wants c = true → stepP rec c [] ≠ some (.ok l r) := by
  intro c l r hw ha
  match c with
  | .seq [] => cases hw
  | .seq (.lit w :: is) => cases ha
  | .seq (.num :: is) => cases ha
  | .seq (.ex :: is) =>
    rcases after_cases ha with ⟨q, hq, hb⟩ | ⟨l2, r2, hq, _⟩
    · cases hb
    · exact h .expr l2 r2 rfl hq
  | .expr => exact h (.lvl 1) l r rfl ha
  | .lvl n =>
    simp only [stepP] at ha
    split at ha
    · exact h .atom l r rfl ha
    · split at ha
      · next hd => cases hd.2
      · rcases after_cases ha with ⟨q, hq, hb⟩ | ⟨l2, r2, hq, _⟩
        · cases hb
        · exact h (.lvl (n + 1)) l2 r2 rfl hq
  | .tail n e => cases hw
  | .atom => cases ha
theorem run_none : ∀ (f : Nat) (c : Cat) (l : List Xp) (r : List Tok), wants c = true → run f c [] ≠ some (.ok l r)
  | 0, _, _, _, _ => by intro h; cases h
  | f + 1, c, l, r, hw => step_none (run_none f) c l r hw

/-- nothing that follows is looked at -/
def closedI : List Item → Bool
  | [] => true
  | .ex :: [] => false
  | _ :: is => closedI is
def closed : Cat → Bool
  | .seq is => closedI is
  | .atom => true
  | .lvl n => decide (5 < n)
  | _ => false
def stopT (us : List Tok) : Prop := ∀ n, opL n us = 0
theorem isT_app {w : List UInt8} {ts us : List Tok} (h : ts ≠ []) : isT w (ts ++ us) = isT w ts := by cases ts with | nil => exact absurd rfl h | cons x r => rfl
theorem tail_app {ts us : List Tok} (h : ts ≠ []) : (ts ++ us).tail = ts.tail ++ us := by cases ts with | nil => exact absurd rfl h | cons x r => rfl
theorem op_app {n : Nat} {ts us : List Tok} (h : ts ≠ []) : opL n (ts ++ us) = opL n ts := by cases ts with | nil => exact absurd rfl h | cons x r => rfl
theorem isT_ne {w : List UInt8} {ts : List Tok} (h : isT w ts = true) : ts ≠ [] := by rintro rfl; cases h
theorem op_ne {n : Nat} {ts : List Tok} (h : opL n ts ≠ 0) : ts ≠ [] := by rintro rfl; exact h rfl
theorem suf_ne {r ts : List Tok} (h : r <:+ ts) (hr : r ≠ []) : ts ≠ [] := by rintro rfl; exact hr (List.suffix_nil.1 h)
theorem after_ok {v : Option Res} {k : List Xp → List Tok → Option Res} {l : List Xp} {r : List Tok} (h : after v k = some (.ok l r)) : ∃ l2 r2, v = some (.ok l2 r2) ∧ k l2 r2 = some (.ok l r) := by
  rcases after_cases h with ⟨q, _, hb⟩ | h
  · cases hb
  · exact h
theorem after_mk {v : Option Res} {k : List Xp → List Tok → Option Res} {l : List Xp} {r : List Tok} (h : v = some (.ok l r)) : after v k = k l r := by rw [h]; rfl
variable {us : List Tok}
theorem step_app {rec : Cat → List Tok → Option Res} (hs : ∀ c ts a, rec c ts = some a → a.rest <:+ ts) (hn : ∀ c l r, wants c = true → rec c [] ≠ some (.ok l r))
    (h : ∀ c ts l r, rec c ts = some (.ok l r) → (r ≠ [] ∨ closed c = true ∨ stopT us) → rec c (ts ++ us) = some (.ok l (r ++ us))) :
    ∀ c ts l r, stepP rec c ts = some (.ok l r) → (r ≠ [] ∨ closed c = true ∨ stopT us) → stepP rec c (ts ++ us) = some (.ok l (r ++ us)) := by
  intro c ts l r ha hc
  have hnn : wants c = true → ts ≠ [] := by rintro hw rfl; exact step_none hn c l r hw ha
  match c with
  | .seq [] => cases ha; rfl
  | .seq (.lit w :: is) =>
    have ht := hnn rfl
    simp only [stepP] at ha ⊢
    rw [isT_app ht, tail_app ht]
    split
    · next hi =>
      rw [if_pos hi] at ha
      exact h _ _ _ _ ha (by rcases hc with hc | hc | hc; exact .inl hc; exact .inr (.inl hc); exact .inr (.inr hc))
    · next hi => rw [if_neg hi] at ha; cases ha
  | .seq (.num :: is) =>
    cases ts with
    | nil => exact absurd rfl (hnn rfl)
    | cons x q =>
      simp only [stepP, List.cons_append] at ha ⊢
      split
      · next hi =>
        rw [if_pos hi] at ha
        obtain ⟨l2, r2, h1, h2⟩ := after_ok ha
        cases h2
        rw [after_mk (h _ _ _ _ h1 (by rcases hc with hc | hc | hc; exact .inl hc; exact .inr (.inl hc); exact .inr (.inr hc)))]
      · next hi => rw [if_neg hi] at ha; cases ha
  | .seq (.ex :: is) =>
    simp only [stepP] at ha ⊢
    obtain ⟨l1, r1, h1, h2⟩ := after_ok ha
    obtain ⟨l2, r2, h3, h4⟩ := after_ok h2
    cases h4
    have hc1 : r1 ≠ [] ∨ stopT us := by
      rcases hc with hc | hc | hc
      · exact .inl (suf_ne (hs _ _ _ h3) hc)
      · cases is with
        | nil => cases hc
        | cons i is =>
          left; rintro rfl
          exact hn _ _ _ rfl h3
      · exact .inr hc
    have hc2 : r ≠ [] ∨ closed (.seq is) = true ∨ stopT us := by
      rcases hc with hc | hc | hc
      · exact .inl hc
      · cases is with
        | nil => cases hc
        | cons i is => exact .inr (.inl hc)
      · exact .inr (.inr hc)
    rw [after_mk (h _ _ _ _ h1 (hc1.elim .inl (fun h => .inr (.inr h)))), after_mk (h _ _ _ _ h3 hc2)]
  | .expr =>
    have ht := hnn rfl
    have hc2 : r ≠ [] ∨ stopT us := by rcases hc with hc | hc | hc; exact .inl hc; cases hc; exact .inr hc
    simp only [stepP] at ha ⊢
    rw [isT_app ht, tail_app ht]
    split
    · next hi =>
      rw [if_pos hi] at ha
      obtain ⟨l1, r1, h1, h2⟩ := after_ok ha
      cases h2
      rw [after_mk (h _ _ _ _ h1 (hc2.elim .inl (fun h => .inr (.inr h))))]
    · next hi => rw [if_neg hi] at ha; exact h _ _ _ _ ha (hc2.elim .inl (fun h => .inr (.inr h)))
  | .lvl n =>
    have ht := hnn rfl
    simp only [stepP] at ha ⊢
    rw [isT_app ht, tail_app ht]
    split
    · next hi => rw [if_pos hi] at ha; exact h _ _ _ _ ha (.inr (.inl rfl))
    · next hi =>
      rw [if_neg hi] at ha
      have hc2 : r ≠ [] ∨ stopT us := by
        rcases hc with hc | hc | hc
        · exact .inl hc
        · exact absurd (of_decide_eq_true hc) hi
        · exact .inr hc
      split
      · next hd =>
        rw [if_pos hd] at ha
        obtain ⟨l1, r1, h1, h2⟩ := after_ok ha
        cases h2
        rw [after_mk (h _ _ _ _ h1 (hc2.elim .inl (fun h => .inr (.inr h))))]
      · next hd =>
        rw [if_neg hd] at ha
        obtain ⟨l1, r1, h1, h2⟩ := after_ok ha
        rw [after_mk (h _ _ _ _ h1 (hc2.elim (fun hr => .inl (suf_ne (hs _ _ _ h2) hr)) (fun h => .inr (.inr h))))]
        exact h _ _ _ _ h2 (hc2.elim .inl (fun h => .inr (.inr h)))
  | .tail n e =>
    have hc2 : r ≠ [] ∨ stopT us := by rcases hc with hc | hc | hc; exact .inl hc; cases hc; exact .inr hc
    by_cases h0 : opL n ts = 0
    · simp only [stepP] at ha ⊢
      rw [if_pos h0] at ha
      cases ha
      have h0' : opL n (ts ++ us) = 0 := by
        by_cases ht : ts = []
        · subst ht
          rcases hc2 with h | h
          · exact absurd rfl h
          · exact h n
        · rw [op_app ht]; exact h0
      rw [if_pos h0']
    · have ht := op_ne h0
      simp only [stepP] at ha ⊢
      rw [op_app ht, tail_app ht, if_neg h0]
      rw [if_neg h0] at ha
      obtain ⟨l1, r1, h1, h2⟩ := after_ok ha
      split at h2
      · next h3 =>
        cases h2
        rw [after_mk (h _ _ _ _ h1 (hc2.elim .inl (fun h => .inr (.inr h)))), if_pos h3]
      · next h3 =>
        rw [after_mk (h _ _ _ _ h1 (hc2.elim (fun hr => .inl (suf_ne (hs _ _ _ h2) hr)) (fun h => .inr (.inr h)))), if_neg h3]
        exact h _ _ _ _ h2 (hc2.elim .inl (fun h => .inr (.inr h)))
  | .atom =>
    cases ts with
    | nil => exact absurd rfl (hnn rfl)
    | cons x q =>
      simp only [stepP, List.cons_append] at ha ⊢
      split
      · next hi => rw [if_pos hi] at ha; cases ha; rfl
      · next hi =>
        rw [if_neg hi] at ha
        split
        · next h2 => rw [if_pos h2] at ha; cases ha; rfl
        · next h2 =>
          rw [if_neg h2] at ha
          split
          · next h3 => rw [if_pos h3] at ha; cases ha; rfl
          · next h3 =>
            rw [if_neg h3] at ha
            split
            · next h4 =>
              rw [if_pos h4] at ha
              obtain ⟨l1, r1, g1, g2⟩ := after_ok ha
              cases g2
              rw [after_mk (h _ _ _ _ g1 (.inr (.inl rfl)))]
            · next h4 =>
              rw [if_neg h4] at ha
              split
              · next h5 =>
                rw [if_pos h5] at ha
                obtain ⟨l1, r1, g1, g2⟩ := after_ok ha
                cases g2
                rw [after_mk (h _ _ _ _ g1 (.inr (.inl rfl)))]
              · next h5 =>
                rw [if_neg h5] at ha
                split
                · next h6 => rw [if_pos h6] at ha; exact h _ _ _ _ ha (.inr (.inl rfl))
                · next h6 => rw [if_neg h6] at ha; cases ha
theorem run_app : ∀ (f : Nat) (c : Cat) (ts : List Tok) (l : List Xp) (r : List Tok), run f c ts = some (.ok l r) → (r ≠ [] ∨ closed c = true ∨ stopT us) → run f c (ts ++ us) = some (.ok l (r ++ us))
  | 0, _, _, _, _, h, _ => by cases h
  | f + 1, c, ts, l, r, h, hc => step_app (run_suf f) (fun c l r hw => run_none f c l r hw) (run_app f) c ts l r h hc
theorem G.app {c : Cat} {ts : List Tok} {l : List Xp} {r : List Tok} (h : G c ts (.ok l r)) (hc : r ≠ [] ∨ closed c = true ∨ stopT us) : G c (ts ++ us) (.ok l (r ++ us)) := by
  obtain ⟨f, hf⟩ := h; exact ⟨f, run_app f c ts l r hf hc⟩

/-! ### The rules -/
variable {c c1 c2 : Cat} {ts t1 t2 r : List Tok} {a a1 a2 : Res} {x : Tok} {is : List Item} {w : List UInt8}
theorem g_mk0 (h : ∀ rec, stepP rec c ts = some a) : G c ts a := ⟨1, h _⟩
theorem g_mk1 (h1 : G c1 t1 a1) (h : ∀ rec : Cat → List Tok → Option Res, rec c1 t1 = some a1 → stepP rec c ts = some a) : G c ts a := by
  obtain ⟨f, hf⟩ := h1; exact ⟨f + 1, h _ hf⟩
theorem g_mk2 (h1 : G c1 t1 a1) (h2 : G c2 t2 a2) (h : ∀ rec : Cat → List Tok → Option Res, rec c1 t1 = some a1 → rec c2 t2 = some a2 → stepP rec c ts = some a) : G c ts a := by
  obtain ⟨f, hf⟩ := h1; obtain ⟨g, hg⟩ := h2
  exact ⟨max f g + 1, h _ (run_le (Nat.le_max_left f g) hf) (run_le (Nat.le_max_right f g) hg)⟩
theorem g_nil : G (.seq []) ts (.ok [] ts) := g_mk0 fun _ => rfl
theorem g_lit (hx : x.t = w) (h : G (.seq is) r a) : G (.seq (.lit w :: is)) (x :: r) a := g_mk1 h fun rec hr => by
  simp only [stepP]; rw [if_pos (by simp [isT, hx])]; exact hr
theorem g_litBad (h : isT w ts = false) : G (.seq (.lit w :: is)) ts (.bad ts) := g_mk0 fun _ => by simp only [stepP]; rw [if_neg (by simp [h])]
theorem g_num {l : List Xp} {r2 : List Tok} (hx : x.k = 2) (h : G (.seq is) r (.ok l r2)) : G (.seq (.num :: is)) (x :: r) (.ok (leafE 1 (cents x.t) :: l) r2) := g_mk1 h fun rec hr => by
  simp only [stepP]; rw [if_pos hx, after_mk hr]
theorem g_numLater {r2 : List Tok} (hx : x.k = 2) (h : G (.seq is) r (.bad r2)) : G (.seq (.num :: is)) (x :: r) (.bad r2) := g_mk1 h fun rec hr => by
  simp only [stepP]; rw [if_pos hx, hr]; rfl
theorem g_numBad (hx : x.k ≠ 2) : G (.seq (.num :: is)) (x :: r) (.bad (x :: r)) := g_mk0 fun _ => by simp only [stepP]; rw [if_neg hx]
theorem g_numEnd : G (.seq (.num :: is)) [] (.bad []) := g_mk0 fun _ => rfl
theorem g_ex {es l : List Xp} {r2 : List Tok} (h1 : G .expr ts (.ok es r)) (h2 : G (.seq is) r (.ok l r2)) : G (.seq (.ex :: is)) ts (.ok (es ++ l) r2) := g_mk2 h1 h2 fun rec g1 g2 => by
  simp only [stepP]; rw [after_mk g1, after_mk g2]
theorem g_exLater {es : List Xp} {r2 : List Tok} (h1 : G .expr ts (.ok es r)) (h2 : G (.seq is) r (.bad r2)) : G (.seq (.ex :: is)) ts (.bad r2) := g_mk2 h1 h2 fun rec g1 g2 => by
  simp only [stepP]; rw [after_mk g1, g2]; rfl
theorem g_exBad (h1 : G .expr ts (.bad r)) : G (.seq (.ex :: is)) ts (.bad r) := g_mk1 h1 fun rec g1 => by simp only [stepP]; rw [g1]; rfl
theorem g_if {l : List Xp} {r2 : List Tok} (hx : x.t = wIf) (h : G (.seq ifI) r (.ok l r2)) : G .expr (x :: r) (.ok [nodeE 10 l] r2) := g_mk1 h fun rec hr => by
  simp only [stepP]; rw [if_pos (by simp [isT, hx])]; show after (rec (.seq ifI) r) _ = _; rw [after_mk hr]
theorem g_ifBad {r2 : List Tok} (hx : x.t = wIf) (h : G (.seq ifI) r (.bad r2)) : G .expr (x :: r) (.bad r2) := g_mk1 h fun rec hr => by
  simp only [stepP]; rw [if_pos (by simp [isT, hx])]; show after (rec (.seq ifI) r) _ = _; rw [hr]; rfl
theorem g_any (hx : isT wIf ts = false) (h : G (.lvl 1) ts a) : G .expr ts a := g_mk1 h fun rec hr => by simp only [stepP]; rw [if_neg (by simp [hx])]; exact hr
theorem g_atom {n : Nat} (hn : 5 < n) (h : G .atom ts a) : G (.lvl n) ts a := g_mk1 h fun rec hr => by simp only [stepP]; rw [if_pos hn]; exact hr
theorem g_not {l : List Xp} {r2 : List Tok} (hx : x.t = wNot) (h : G (.lvl 3) r (.ok l r2)) : G (.lvl 3) (x :: r) (.ok [nodeE 15 l] r2) := g_mk1 h fun rec hr => by
  simp only [stepP]; rw [if_neg (by decide), if_pos ⟨trivial, by simp [isT, hx]⟩]; show after (rec (.lvl 3) r) _ = _; rw [after_mk hr]
theorem g_notBad {r2 : List Tok} (hx : x.t = wNot) (h : G (.lvl 3) r (.bad r2)) : G (.lvl 3) (x :: r) (.bad r2) := g_mk1 h fun rec hr => by
  simp only [stepP]; rw [if_neg (by decide), if_pos ⟨trivial, by simp [isT, hx]⟩]; show after (rec (.lvl 3) r) _ = _; rw [hr]; rfl
theorem g_lvl {n : Nat} {e : Xp} (hn : n ≤ 5) (hx : n = 3 → isT wNot ts = false) (h1 : G (.lvl (n + 1)) ts (.ok [e] r)) (h2 : G (.tail n e) r a) : G (.lvl n) ts a := g_mk2 h1 h2 fun rec g1 g2 => by
  simp only [stepP]; rw [if_neg (by omega), if_neg (by rintro ⟨h3, h4⟩; rw [hx h3] at h4; cases h4), after_mk g1]; exact g2
theorem g_lvlBad {n : Nat} (hn : n ≤ 5) (hx : n = 3 → isT wNot ts = false) (h1 : G (.lvl (n + 1)) ts (.bad r)) : G (.lvl n) ts (.bad r) := g_mk1 h1 fun rec g1 => by
  simp only [stepP]; rw [if_neg (by omega), if_neg (by rintro ⟨h3, h4⟩; rw [hx h3] at h4; cases h4), g1]; rfl
theorem g_end {n : Nat} {e : Xp} (h : opL n ts = 0) : G (.tail n e) ts (.ok [e] ts) := g_mk0 fun _ => by simp only [stepP]; rw [if_pos h]
theorem g_more {n : Nat} {e b : Xp} (ho : opL n (x :: r) ≠ 0) (hn : n ≠ 3) (h1 : G (.lvl (n + 1)) r (.ok [b] t1)) (h2 : G (.tail n (nodeE (opL n (x :: r)) [e, b])) t1 a) : G (.tail n e) (x :: r) a := g_mk2 h1 h2 fun rec g1 g2 => by
  simp only [stepP]; rw [if_neg ho]; show after (rec (.lvl (n + 1)) r) _ = _; rw [after_mk g1, if_neg hn]; exact g2
theorem g_one {e b : Xp} (ho : opL 3 (x :: r) ≠ 0) (h1 : G (.lvl 4) r (.ok [b] t1)) : G (.tail 3 e) (x :: r) (.ok [nodeE (opL 3 (x :: r)) [e, b]] t1) := g_mk1 h1 fun rec g1 => by
  simp only [stepP]; rw [if_neg ho]; show after (rec (.lvl 4) r) _ = _; rw [after_mk g1, if_pos trivial]
theorem g_moreBad {n : Nat} {e : Xp} (ho : opL n (x :: r) ≠ 0) (h1 : G (.lvl (n + 1)) r (.bad t1)) : G (.tail n e) (x :: r) (.bad t1) := g_mk1 h1 fun rec g1 => by
  simp only [stepP]; rw [if_neg ho]; show after (rec (.lvl (n + 1)) r) _ = _; rw [g1]; rfl
end Go.Proofs.Ytbkcpcjdpfndpaa
