/-
  How far a row of items is read; what the reference's reading functions give.
-/
import Derived.Test.YthnlenbfknbmcaaGreatDoorParR2
namespace Go.Proofs.YthnlenbfknbmcaaGreatDoor
open Go.RowKit Go.Shelf
set_option maxRecDepth 100000
set_option linter.unusedVariables false
set_option linter.unusedSimpArgs false
variable {W0 : World} {ad : Option Addr} {cap : Nat} {L : List Tok}

structure SQ (L : List Tok) (all : List Item) (i0 : Nat) (rest : List Item) (es : List Xp) (i : Nat) (b : Bool) : Prop where
  le : i ≤ L.length
  ge : i0 ≤ i
  bad : b = true → G (.seq all) (L.drop i0) (.bad (L.drop i))
  ok : b = false → ∀ l r, G (.seq rest) (L.drop i) (.ok l r) → G (.seq all) (L.drop i0) (.ok (es ++ l) r)
  later : b = false → ∀ r, G (.seq rest) (L.drop i) (.bad r) → G (.seq all) (L.drop i0) (.bad r)
theorem SQ.start {all : List Item} {i0 : Nat} (h : i0 ≤ L.length) : SQ L all i0 all [] i0 false := ⟨h, Nat.le_refl _, fun h => (by cases h), fun _ _ _ h => h, fun _ _ h => h⟩
theorem SQ.done {all : List Item} {i0 i : Nat} {es : List Xp} {b : Bool} (h : SQ L all i0 [] es i b) (hb : b = false) : G (.seq all) (L.drop i0) (.ok es (L.drop i)) := by have := h.ok hb [] _ g_nil; rwa [List.append_nil] at this
theorem SQ.lit {all rest : List Item} {i0 i j : Nat} {es : List Xp} {b c : Bool} {t : List UInt8} (h : SQ L all i0 (.lit t :: rest) es i b) (hj : j ≤ L.length) (h1 : c = false → b = false ∧ isT t (L.drop i) = true ∧ j = i + 1) (h2 : c = true → j = i ∧ (b = true ∨ isT t (L.drop i) = false)) : SQ L all i0 rest es j c := by
  cases c with
  | true =>
    obtain ⟨rfl, hq⟩ := h2 rfl
    refine ⟨hj, h.ge, fun _ => ?_, fun h => (by cases h), fun h => (by cases h)⟩
    cases b with
    | true => exact h.bad rfl
    | false => exact h.later rfl _ (g_litBad (hq.resolve_left (by simp)))
  | false =>
    obtain ⟨rfl, hq, rfl⟩ := h1 rfl
    obtain ⟨x, hx, hx2⟩ := need_cons hq
    refine ⟨hj, by have := h.ge; omega, fun h => (by cases h), fun _ l r g => ?_, fun _ r g => ?_⟩
    · exact h.ok rfl l r (by rw [hx]; exact g_lit hx2 g)
    · exact h.later rfl r (by rw [hx]; exact g_lit hx2 g)
theorem SQ.num {all rest : List Item} {i0 i j n : Nat} {es : List Xp} {b c : Bool} (h : SQ L all i0 (.num :: rest) es i b) (hj : j ≤ L.length) (h1 : c = false → b = false ∧ ∃ x, L.drop i = x :: L.drop (i + 1) ∧ x.k = 2 ∧ n = cents x.t ∧ j = i + 1) (h2 : c = true → j = i ∧ n = 0 ∧ (b = true ∨ ∀ x r, L.drop i = x :: r → x.k ≠ 2)) : SQ L all i0 rest (es ++ [leafE 1 n]) j c := by
  cases c with
  | true =>
    obtain ⟨rfl, -, hq⟩ := h2 rfl
    refine ⟨hj, h.ge, fun _ => ?_, fun h => (by cases h), fun h => (by cases h)⟩
    cases b with
    | true => exact h.bad rfl
    | false =>
      have hq := hq.resolve_left (by simp)
      refine h.later rfl _ ?_
      cases hd : L.drop j with
      | nil => exact g_numEnd
      | cons x r => exact g_numBad (hq x r hd)
  | false =>
    obtain ⟨rfl, x, hx, hk, rfl, rfl⟩ := h1 rfl
    refine ⟨hj, by have := h.ge; omega, fun h => (by cases h), fun _ l r g => ?_, fun _ r g => ?_⟩
    · have := h.ok rfl (leafE 1 (cents x.t) :: l) r (by rw [hx]; exact g_num hk g)
      rwa [List.append_assoc]
    · exact h.later rfl r (by rw [hx]; exact g_numLater hk g)
/-- what a reading function of the reference gives -/
def XEnd (ad : Option Addr) (cap : Nat) (L : List Tok) (c : Cat) (i : Nat) (b : Bool) (w : World) (e : Ending) (w' : World) : Prop :=
  ∃ x j d tv, e = .returned (.tuple #[pv ad cap L j d, tv]) ∧ Tree (Lo w.heap.size) w' x tv ∧ Below w.heap.size w w' ∧ i ≤ j ∧ j ≤ L.length ∧ (d = true → (b = true ∧ j = i) ∨ (b = false ∧ G c (L.drop i) (.bad (L.drop j)))) ∧ (d = false → b = false ∧ G c (L.drop i) (.ok [x] (L.drop j)))
theorem SQ.ex {all rest : List Item} {i0 i j : Nat} {es : List Xp} {b d : Bool} {x : Xp} (h : SQ L all i0 (.ex :: rest) es i b) (hj : j ≤ L.length) (hij : i ≤ j) (h1 : d = true → (b = true ∧ j = i) ∨ (b = false ∧ G .expr (L.drop i) (.bad (L.drop j)))) (h2 : d = false → b = false ∧ G .expr (L.drop i) (.ok [x] (L.drop j))) : SQ L all i0 rest (es ++ [x]) j d := by
  cases d with
  | true =>
    refine ⟨hj, by have := h.ge; omega, fun _ => ?_, fun h => (by cases h), fun h => (by cases h)⟩
    rcases h1 rfl with ⟨rfl, rfl⟩ | ⟨rfl, g⟩
    · exact h.bad rfl
    · exact h.later rfl _ (g_exBad g)
  | false =>
    obtain ⟨rfl, g⟩ := h2 rfl
    refine ⟨hj, by have := h.ge; omega, fun h => (by cases h), fun _ l r g2 => ?_, fun _ r g2 => ?_⟩
    · have := h.ok rfl ([x] ++ l) r (g_ex g g2)
      rwa [List.append_assoc]
    · exact h.later rfl r (g_exLater g g2)
theorem XEnd.to {c d : Cat} {i : Nat} {b : Bool} {w w' : World} {e : Ending} (h : XEnd ad cap L c i b w e w') (hg : ∀ a, G c (L.drop i) a → G d (L.drop i) a) : XEnd ad cap L d i b w e w' := by
  obtain ⟨x, j, dd, tv, h1, h2, h3, h4, h5, h6, h7⟩ := h
  exact ⟨x, j, dd, tv, h1, h2, h3, h4, h5, fun h => (h6 h).imp id fun ⟨p, q⟩ => ⟨p, hg _ q⟩, fun h => ⟨(h7 h).1, hg _ (h7 h).2⟩⟩
def MethR (W0 : World) (ad : Option Addr) (cap : Nat) (L : List Tok) (F : FuncId) (c : Cat) (n : Nat) : Prop :=
  ∀ i b w, Below W0.heap.size W0 w → i ≤ L.length → (b = true ∨ L.length < i + n) → Calls Tryz.prog F #[pv ad cap L i b] w (XEnd ad cap L c i b w)
def MethL (W0 : World) (ad : Option Addr) (cap : Nat) (L : List Tok) (lv n : Nat) : Prop :=
  ∀ i b w, Below W0.heap.size W0 w → i ≤ L.length → (b = true ∨ L.length < i + n) → Calls Tryz.prog 48 #[pv ad cap L i b, .int .i64 lv] w (XEnd ad cap L (.lvl lv) i b w)
theorem Kept.put3 {p : Nat} {a w : World} (h : Kept (some p) a w) (x y z : Value) : Kept (some p) a (Go.Proofs.YthnlenbfknbmcaaGreatDoor.set3 w p x y z) := ((h.set (b := ⟨p, 0, none⟩) (.inl rfl) x).set (b := ⟨p, 1, none⟩) (.inl rfl) y).set (b := ⟨p, 2, none⟩) (.inl rfl) z
theorem Kept.fresh3 {p B : Nat} {a w : World} (h : Kept (some p) a w) (hB : a.heap.size ≤ B) (x y z : Value) : Kept (some p) a (Go.Proofs.YthnlenbfknbmcaaGreatDoor.set3 w B x y z) := h.set3 hB x y z
theorem setCell_size (w : World) (a : Addr) (v : Value) : (w.setCell a v).heap.size = w.heap.size := by simp [World.setCell]
theorem set3_size (w : World) (B : Nat) (x y z : Value) : (Go.Proofs.YthnlenbfknbmcaaGreatDoor.set3 w B x y z).heap.size = w.heap.size := by simp [Go.Proofs.YthnlenbfknbmcaaGreatDoor.set3]
end Go.Proofs.YthnlenbfknbmcaaGreatDoor
