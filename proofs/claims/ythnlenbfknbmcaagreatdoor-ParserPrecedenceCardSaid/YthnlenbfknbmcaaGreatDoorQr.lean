/-
  A rate is read.
-/
import Derived.Test.YthnlenbfknbmcaaGreatDoorQq
import Derived.Test.YthnlenbfknbmcaaGreatDoorQm
import Derived.Test.YthnlenbfknbmcaaGreatDoorQn
import Derived.Test.YthnlenbfknbmcaaGreatDoorQk
import Derived.Test.YthnlenbfknbmcaaGreatDoorQp
namespace Go.Proofs.YthnlenbfknbmcaaGreatDoor
open Go.RowKit Go.Shelf
set_option maxRecDepth 100000
variable {W0 : World} {v : Value} {m : Nat} {L : List Tok}

/-- a number is read, by what follows, or the call panics -/
def NEnd (W0 : World) (v : Value) (m : Nat) (L : List Tok) (pre : List Item) (i k : Nat) (w : World) (e : Ending) (w' : World) : Prop :=
  (∃ c : Nat, (∀ is l r, G (.seq is) (L.drop (i + k)) (.ok l r) → G (.seq (pre ++ is)) (L.drop i) (.ok (leafE 1 c :: l) r)) ∧ (∀ is r, G (.seq is) (L.drop (i + k)) (.bad r) → G (.seq (pre ++ is)) (L.drop i) (.bad r)) ∧
    e = .returned (.int .i64 (c : Nat)) ∧ Kept (some W0.heap.size) w w' ∧ St W0 v m L (i + k) w') ∨
  (∃ j, (∀ is, G (.seq (pre ++ is)) (L.drop i) (.bad (L.drop j))) ∧ Dies 8 (lineAt L (L.drop j) : Nat) (some W0.heap.size) w e w')
theorem num_end {i : Nat} {w w' : World} {e : Ending} (h : NumEnd W0 v m L i w e w') : NEnd W0 v m L [.num] i 1 w e w' := by
  rcases h with ⟨x, r, hd, hk, rfl, h1, h2⟩ | ⟨hn, h1⟩
  · have hi : i < L.length := by
      rcases Nat.lt_or_ge i L.length with hl | hl
      · exact hl
      · rw [List.drop_of_length_le hl] at hd; cases hd
    have e : L.drop i = x :: L.drop (i + 1) := by
      rw [List.drop_eq_getElem_cons hi] at hd ⊢
      rw [(List.cons.inj hd).1]
    exact .inl ⟨cents x.t, fun is l r g => G.at e (g_num hk g), fun is r g => G.at e (g_numLater hk g), rfl, h1, h2⟩
  · refine .inr ⟨i, fun is => ?_, h1⟩
    cases hq : L.drop i with
    | nil => exact g_numEnd
    | cons x r => exact g_numBad (hn x r hq)
set_option maxHeartbeats 800000 in
theorem after_any (hE : Env W0 v m L) (t : List UInt8) (ht : t ≠ []) (i : Nat) (w : World) (hS : St W0 v m L i w) : Calls Tryz.prog 77 #[.pointer (some ⟨W0.heap.size, 0, none⟩), .string ⟨t.toArray⟩] w (NEnd W0 v m L [.lit t, .num] i 2 w) := by
  have hP := hS.own.lt
  go_enter Tryz.func77, Tryz.ntmps77
  go_wp2_with fail
  refine (need_any hE t ht i _ hS).mono ?_
  rintro e w1 (⟨q1, rfl, kk, s1⟩ | ⟨q1, rfl, kk⟩)
  case inr =>
    go_wp2_with fail
    exact bodyPost_panic rfl (.inr ⟨i, fun is => g_litBad q1, rfl, kk⟩)
  obtain ⟨y, d1, e1⟩ := need_cons q1
  go_wp2_with fail
  refine (number_any hE (i + 1) _ s1).mono ?_
  rintro e w2 h2
  rcases num_end h2 with ⟨c, g1, g2, rfl, k2, s2⟩ | ⟨j, g1, rfl, k2⟩
  · go_wp2_with fail
    go_ret
    exact .inl ⟨c, fun is l r g => G.at d1 (g_lit e1 (g1 is l r g)), fun is r g => G.at d1 (g_lit e1 (g2 is r g)), rfl, kk.trans k2, s2⟩
  · go_wp2_with fail
    exact bodyPost_panic rfl (.inr ⟨j, fun is => G.at d1 (g_lit e1 (g1 is)), rfl, kk.trans k2⟩)
/-- the part that is kept -/
def KeepEnd (W0 : World) (v : Value) (m : Nat) (L : List Tok) (i : Nat) (w : World) (e : Ending) (w' : World) : Prop :=
  (∃ c : Nat, (∀ is l r, G (.seq is) (L.drop (i + 3)) (.ok l r) → G (.seq ([.lit wKeep, .num, .lit wPart] ++ is)) (L.drop i) (.ok (leafE 1 c :: l) r)) ∧ (∀ is r, G (.seq is) (L.drop (i + 3)) (.bad r) → G (.seq ([.lit wKeep, .num, .lit wPart] ++ is)) (L.drop i) (.bad r)) ∧
    e = .returned (.agg #[.int .i64 (mkF c 100).1, .int .i64 (mkF c 100).2.1]) ∧ Kept (some W0.heap.size) w w' ∧ St W0 v m L (i + 3) w') ∨
  (∃ j, (∀ is, G (.seq ([.lit wKeep, .num, .lit wPart] ++ is)) (L.drop i) (.bad (L.drop j))) ∧ Dies 8 (lineAt L (L.drop j) : Nat) (some W0.heap.size) w e w')
set_option maxHeartbeats 800000 in
theorem keep_any (hE : Env W0 v m L) (i : Nat) (w : World) (hS : St W0 v m L i w) : Calls Tryz.prog 78 #[.pointer (some ⟨W0.heap.size, 0, none⟩)] w (KeepEnd W0 v m L i w) := by
  have hP := hS.own.lt
  have k := (Kept.refl (some W0.heap.size) w).alloc (.cells #[.int .i64 0, .int .i64 0] 46)
  have o2 := Own.new w #[.int .i64 0, .int .i64 0] 46
  go_enter Tryz.func78, Tryz.ntmps78
  go_wp2_with fail
  refine (after_any hE wKeep (by decide) i _ (hS.alloc _)).mono ?_
  rintro e w1 (⟨c, g1, g2, rfl, kk, s1⟩ | ⟨j, g1, rfl, kk⟩)
  case inr =>
    go_wp2_with fail
    exact bodyPost_panic rfl (.inr ⟨j, fun is => g1 (.lit wPart :: is), rfl, k.trans kk⟩)
  replace o2 := kk.own o2 (by simp; omega)
  replace k := k.trans kk
  clear kk
  go_wp2_with fail
  refine (need_any hE wPart (by decide) (i + 2) _ s1).mono ?_
  rintro e w2 (⟨q2, rfl, kk, s2⟩ | ⟨q2, rfl, kk⟩)
  case inr =>
    go_wp2_with fail
    exact bodyPost_panic rfl (.inr ⟨i + 2, fun is => g2 (.lit wPart :: is) _ (g_litBad q2), rfl, k.trans kk⟩)
  obtain ⟨y, d1, e1⟩ := need_cons q2
  replace o2 := kk.own o2 (by simp; omega)
  replace k := k.trans kk
  have HA : Hid (∀ is l r, G (.seq is) (L.drop (i + 3)) (.ok l r) → G (.seq ([.lit wKeep, .num, .lit wPart] ++ is)) (L.drop i) (.ok (leafE 1 c :: l) r)) := Lib.hid fun is l r g => g1 (.lit wPart :: is) l r (G.at d1 (g_lit e1 g))
  have HB : Hid (∀ is r, G (.seq is) (L.drop (i + 3)) (.bad r) → G (.seq ([.lit wKeep, .num, .lit wPart] ++ is)) (L.drop i) (.bad r)) := Lib.hid fun is r g => g2 (.lit wPart :: is) r (G.at d1 (g_lit e1 g))
  clear kk g1 g2 q2 d1 e1 s1
  have hmk := fun w => make_any (c : Int) 100 w
  unfold resV at hmk
  go_wp2_with fail
  refine (hmk _).mono ?_
  rintro e w3 ⟨rfl, hb⟩
  replace o2 := o2.below hb
  replace k := k.later hb
  replace s2 := s2.below hb
  generalize hkn : (mkF (c : Int) 100).1 = kn at *
  generalize hkd : (mkF (c : Int) 100).2.1 = kd at *
  have HKN := Lib.hid hkn
  have HKD := Lib.hid hkd
  clear hkn hkd
  have o4 := Own.new w3 #[.int .i64 kn, .int .i64 kd] 46
  replace o2 := o2.alloc (.cells #[.int .i64 kn, .int .i64 kd] 46)
  obtain ⟨a0, a1, a2, a3, a4⟩ := o2.two
  obtain ⟨b0, b1, b2, b3, b4⟩ := o4.two
  clear hmk hb
  go_wp2_with fail
  clear a0 a1 a2 a3 b0 b1 b2 b3
  refine ret_cells (vs := [.int .i64 kn, .int .i64 kd]) rfl Tryz.underlying46 rfl (by kernel_rfl) (B := w.heap.size) ((o2.setAt (i := 0) (.int .i64 kn) (by simp)).setAt (i := 1) (.int .i64 kd) (by simp)) rfl rfl ?_
  exact .inl ⟨c, HA.out, HB.out, by rw [HKN.out, HKD.out], ((k.alloc _).set (b := ⟨w.heap.size, 0, none⟩) (.inr (Nat.le_refl _)) _).set (b := ⟨w.heap.size, 1, none⟩) (.inr (Nat.le_refl _)) _, St.setN (B := w.heap.size) (by omega) (vs := [.int .i64 kn, .int .i64 kd]) (o := 0) (s2.alloc _)⟩

theorem St.set2 {i : Nat} {w : World} (h : St W0 v m L i w) {B : Nat} (hB : W0.heap.size < B) (x y : Value) : St W0 v m L i ((w.setCell ⟨B, 0, none⟩ x).setCell ⟨B, 1, none⟩ y) := h.setN (B := B) hB (vs := [x, y]) (o := 0)
abbrev z16 : Array Value := #[.int .i64 0, .int .i64 0, .int .i64 0, .int .i64 0, .int .i64 0, .int .i64 0, .int .i64 0, .int .i64 0, .int .i64 0, .int .i64 0, .int .i64 0, .int .i64 0, .slice none 0 0, .int .i64 0, .int .i64 0, .slice none 0 0]
theorem Own.facts {w : World} {B : Nat} {x0 x1 x2 x3 x4 x5 x6 x7 x8 x9 x10 x11 x12 x13 x14 x15 : Value} (h : Own w B [x0, x1, x2, x3, x4, x5, x6, x7, x8, x9, x10, x11, x12, x13, x14, x15]) : w.cell? ⟨B, 0, none⟩ = some x0 ∧ w.cell? ⟨B, 1, none⟩ = some x1 ∧ w.cell? ⟨B, 2, none⟩ = some x2 ∧ w.cell? ⟨B, 3, none⟩ = some x3 ∧ w.cell? ⟨B, 4, none⟩ = some x4 ∧ w.cell? ⟨B, 5, none⟩ = some x5 ∧ w.cell? ⟨B, 6, none⟩ = some x6 ∧ w.cell? ⟨B, 7, none⟩ = some x7 ∧ w.cell? ⟨B, 8, none⟩ = some x8 ∧ w.cell? ⟨B, 9, none⟩ = some x9 ∧ w.cell? ⟨B, 10, none⟩ = some x10 ∧ w.cell? ⟨B, 11, none⟩ = some x11 ∧ w.cell? ⟨B, 12, none⟩ = some x12 ∧ w.cell? ⟨B, 13, none⟩ = some x13 ∧ w.cell? ⟨B, 14, none⟩ = some x14 ∧ w.cell? ⟨B, 15, none⟩ = some x15 ∧ w.frozen? ⟨B, 0, none⟩ = false ∧ w.frozen? ⟨B, 1, none⟩ = false ∧ w.frozen? ⟨B, 2, none⟩ = false ∧ w.frozen? ⟨B, 3, none⟩ = false ∧ w.frozen? ⟨B, 4, none⟩ = false ∧ w.frozen? ⟨B, 5, none⟩ = false ∧ w.frozen? ⟨B, 6, none⟩ = false ∧ w.frozen? ⟨B, 7, none⟩ = false ∧ w.frozen? ⟨B, 8, none⟩ = false ∧ w.frozen? ⟨B, 9, none⟩ = false ∧ w.frozen? ⟨B, 10, none⟩ = false ∧ w.frozen? ⟨B, 11, none⟩ = false ∧ w.frozen? ⟨B, 12, none⟩ = false ∧ w.frozen? ⟨B, 13, none⟩ = false ∧ w.frozen? ⟨B, 14, none⟩ = false ∧ w.frozen? ⟨B, 15, none⟩ = false ∧ B < w.heap.size :=
  ⟨h.cell 0 _ rfl, h.cell 1 _ rfl, h.cell 2 _ rfl, h.cell 3 _ rfl, h.cell 4 _ rfl, h.cell 5 _ rfl, h.cell 6 _ rfl, h.cell 7 _ rfl, h.cell 8 _ rfl, h.cell 9 _ rfl, h.cell 10 _ rfl, h.cell 11 _ rfl, h.cell 12 _ rfl, h.cell 13 _ rfl, h.cell 14 _ rfl, h.cell 15 _ rfl, h.fro 0 _ rfl, h.fro 1 _ rfl, h.fro 2 _ rfl, h.fro 3 _ rfl, h.fro 4 _ rfl, h.fro 5 _ rfl, h.fro 6 _ rfl, h.fro 7 _ rfl, h.fro 8 _ rfl, h.fro 9 _ rfl, h.fro 10 _ rfl, h.fro 11 _ rfl, h.fro 12 _ rfl, h.fro 13 _ rfl, h.fro 14 _ rfl, h.fro 15 _ rfl, h.lt⟩

def rateT : List Item := [.num, .lit wLevel, .num, .lit wKind, .num, .lit wNights, .num, .lit wTo, .num, .lit wStay, .num, .lit wTo, .num, .lit wArrive, .num, .lit wKeep, .num, .lit wPart, .lit wWhen, .ex, .lit wPrice, .ex, .lit wStop]
def RateEnd (W0 : World) (v : Value) (m : Nat) (L : List Tok) (i : Nat) (w : World) (e : Ending) (w' : World) : Prop :=
  (∃ rt j cells, G (.seq rateT) (L.drop i) (.ok rt.list (L.drop j)) ∧ i < j ∧ e = .returned (.agg cells.toArray) ∧ RateV (Lo w.heap.size) w' rt cells ∧ Kept (some W0.heap.size) w w' ∧ St W0 v m L j w') ∨
  (∃ j, G (.seq rateT) (L.drop i) (.bad (L.drop j)) ∧ Dies 8 (lineAt L (L.drop j) : Nat) (some W0.heap.size) w e w')
set_option maxHeartbeats 6400000 in
theorem rate_any (hE : Env W0 v m L) (i : Nat) (w : World) (hS : St W0 v m L i w) : Calls Tryz.prog 54 #[.pointer (some ⟨W0.heap.size, 0, none⟩)] w (RateEnd W0 v m L i w) := by
  have hP := hS.own.lt
  have k := (Kept.refl (some W0.heap.size) w).alloc (.cells z16 52)
  have o2 := Own.new w z16 52
  have s0 := hS.alloc (.cells z16 52)
  have hA0 : ∀ l r, G (.seq [.num, .lit wLevel, .num, .lit wKind, .num, .lit wNights, .num, .lit wTo, .num, .lit wStay, .num, .lit wTo, .num, .lit wArrive, .num, .lit wKeep, .num, .lit wPart, .lit wWhen, .ex, .lit wPrice, .ex, .lit wStop]) (L.drop i) (.ok l r) → G (.seq rateT) (L.drop i) (.ok l r) := fun _ _ h => h
  have hB0 : ∀ r, G (.seq [.num, .lit wLevel, .num, .lit wKind, .num, .lit wNights, .num, .lit wTo, .num, .lit wStay, .num, .lit wTo, .num, .lit wArrive, .num, .lit wKeep, .num, .lit wPart, .lit wWhen, .ex, .lit wPrice, .ex, .lit wStop]) (L.drop i) (.bad r) → G (.seq rateT) (L.drop i) (.bad r) := fun _ h => h
  go_enter Tryz.func54, Tryz.ntmps54
  go_wp2_with fail
  refine (number_any hE i _ s0).mono ?_
  rintro e w1 hn
  rcases num_end hn with ⟨c0, g1, g2, rfl, kk, s1⟩ | ⟨j, g1, rfl, kk⟩
  case inr =>
    go_wp2_with fail
    exact bodyPost_panic rfl (.inr ⟨j, hB0 _ (g1 [.lit wLevel, .num, .lit wKind, .num, .lit wNights, .num, .lit wTo, .num, .lit wStay, .num, .lit wTo, .num, .lit wArrive, .num, .lit wKeep, .num, .lit wPart, .lit wWhen, .ex, .lit wPrice, .ex, .lit wStop]), rfl, k.trans kk⟩)
  replace o2 := kk.own o2 (by simp; omega)
  replace k := k.trans kk
  have hA1 : ∀ l r, G (.seq [.lit wLevel, .num, .lit wKind, .num, .lit wNights, .num, .lit wTo, .num, .lit wStay, .num, .lit wTo, .num, .lit wArrive, .num, .lit wKeep, .num, .lit wPart, .lit wWhen, .ex, .lit wPrice, .ex, .lit wStop]) (L.drop (i + 1)) (.ok l r) → G (.seq rateT) (L.drop i) (.ok (leafE 1 c0 :: l) r) := fun l r h => hA0 _ _ (g1 [.lit wLevel, .num, .lit wKind, .num, .lit wNights, .num, .lit wTo, .num, .lit wStay, .num, .lit wTo, .num, .lit wArrive, .num, .lit wKeep, .num, .lit wPart, .lit wWhen, .ex, .lit wPrice, .ex, .lit wStop] l r h)
  have hB1 : ∀ r, G (.seq [.lit wLevel, .num, .lit wKind, .num, .lit wNights, .num, .lit wTo, .num, .lit wStay, .num, .lit wTo, .num, .lit wArrive, .num, .lit wKeep, .num, .lit wPart, .lit wWhen, .ex, .lit wPrice, .ex, .lit wStop]) (L.drop (i + 1)) (.bad r) → G (.seq rateT) (L.drop i) (.bad r) := fun r h => hB0 _ (g2 [.lit wLevel, .num, .lit wKind, .num, .lit wNights, .num, .lit wTo, .num, .lit wStay, .num, .lit wTo, .num, .lit wArrive, .num, .lit wKeep, .num, .lit wPart, .lit wWhen, .ex, .lit wPrice, .ex, .lit wStop] r h)
  clear kk g1 g2 hA0 hB0 s0 hn
  go_wp2_with fail
  refine (after_any hE wLevel (by decide) (i + 1) _ s1).mono ?_
  rintro e w2 (⟨c1, g1, g2, rfl, kk, s2⟩ | ⟨j, g1, rfl, kk⟩)
  case inr =>
    go_wp2_with fail
    exact bodyPost_panic rfl (.inr ⟨j, hB1 _ (g1 [.lit wKind, .num, .lit wNights, .num, .lit wTo, .num, .lit wStay, .num, .lit wTo, .num, .lit wArrive, .num, .lit wKeep, .num, .lit wPart, .lit wWhen, .ex, .lit wPrice, .ex, .lit wStop]), rfl, k.trans kk⟩)
  replace o2 := kk.own o2 (by simp; omega)
  replace k := k.trans kk
  have hA2 : ∀ l r, G (.seq [.lit wKind, .num, .lit wNights, .num, .lit wTo, .num, .lit wStay, .num, .lit wTo, .num, .lit wArrive, .num, .lit wKeep, .num, .lit wPart, .lit wWhen, .ex, .lit wPrice, .ex, .lit wStop]) (L.drop (i + 1 + 2)) (.ok l r) → G (.seq rateT) (L.drop i) (.ok (leafE 1 c0 :: leafE 1 c1 :: l) r) := fun l r h => hA1 _ _ (g1 [.lit wKind, .num, .lit wNights, .num, .lit wTo, .num, .lit wStay, .num, .lit wTo, .num, .lit wArrive, .num, .lit wKeep, .num, .lit wPart, .lit wWhen, .ex, .lit wPrice, .ex, .lit wStop] l r h)
  have hB2 : ∀ r, G (.seq [.lit wKind, .num, .lit wNights, .num, .lit wTo, .num, .lit wStay, .num, .lit wTo, .num, .lit wArrive, .num, .lit wKeep, .num, .lit wPart, .lit wWhen, .ex, .lit wPrice, .ex, .lit wStop]) (L.drop (i + 1 + 2)) (.bad r) → G (.seq rateT) (L.drop i) (.bad r) := fun r h => hB1 _ (g2 [.lit wKind, .num, .lit wNights, .num, .lit wTo, .num, .lit wStay, .num, .lit wTo, .num, .lit wArrive, .num, .lit wKeep, .num, .lit wPart, .lit wWhen, .ex, .lit wPrice, .ex, .lit wStop] r h)
  clear kk g1 g2 hA1 hB1 s1
  go_wp2_with fail
  refine (after_any hE wKind (by decide) (i + 1 + 2) _ s2).mono ?_
  rintro e w3 (⟨c2, g1, g2, rfl, kk, s3⟩ | ⟨j, g1, rfl, kk⟩)
  case inr =>
    go_wp2_with fail
    exact bodyPost_panic rfl (.inr ⟨j, hB2 _ (g1 [.lit wNights, .num, .lit wTo, .num, .lit wStay, .num, .lit wTo, .num, .lit wArrive, .num, .lit wKeep, .num, .lit wPart, .lit wWhen, .ex, .lit wPrice, .ex, .lit wStop]), rfl, k.trans kk⟩)
  replace o2 := kk.own o2 (by simp; omega)
  replace k := k.trans kk
  have hA3 : ∀ l r, G (.seq [.lit wNights, .num, .lit wTo, .num, .lit wStay, .num, .lit wTo, .num, .lit wArrive, .num, .lit wKeep, .num, .lit wPart, .lit wWhen, .ex, .lit wPrice, .ex, .lit wStop]) (L.drop (i + 1 + 2 + 2)) (.ok l r) → G (.seq rateT) (L.drop i) (.ok (leafE 1 c0 :: leafE 1 c1 :: leafE 1 c2 :: l) r) := fun l r h => hA2 _ _ (g1 [.lit wNights, .num, .lit wTo, .num, .lit wStay, .num, .lit wTo, .num, .lit wArrive, .num, .lit wKeep, .num, .lit wPart, .lit wWhen, .ex, .lit wPrice, .ex, .lit wStop] l r h)
  have hB3 : ∀ r, G (.seq [.lit wNights, .num, .lit wTo, .num, .lit wStay, .num, .lit wTo, .num, .lit wArrive, .num, .lit wKeep, .num, .lit wPart, .lit wWhen, .ex, .lit wPrice, .ex, .lit wStop]) (L.drop (i + 1 + 2 + 2)) (.bad r) → G (.seq rateT) (L.drop i) (.bad r) := fun r h => hB2 _ (g2 [.lit wNights, .num, .lit wTo, .num, .lit wStay, .num, .lit wTo, .num, .lit wArrive, .num, .lit wKeep, .num, .lit wPart, .lit wWhen, .ex, .lit wPrice, .ex, .lit wStop] r h)
  clear kk g1 g2 hA2 hB2 s2
  go_wp2_with fail
  refine (after_any hE wNights (by decide) (i + 1 + 2 + 2) _ s3).mono ?_
  rintro e w4 (⟨c3, g1, g2, rfl, kk, s4⟩ | ⟨j, g1, rfl, kk⟩)
  case inr =>
    go_wp2_with fail
    exact bodyPost_panic rfl (.inr ⟨j, hB3 _ (g1 [.lit wTo, .num, .lit wStay, .num, .lit wTo, .num, .lit wArrive, .num, .lit wKeep, .num, .lit wPart, .lit wWhen, .ex, .lit wPrice, .ex, .lit wStop]), rfl, k.trans kk⟩)
  replace o2 := kk.own o2 (by simp; omega)
  replace k := k.trans kk
  have hA4 : ∀ l r, G (.seq [.lit wTo, .num, .lit wStay, .num, .lit wTo, .num, .lit wArrive, .num, .lit wKeep, .num, .lit wPart, .lit wWhen, .ex, .lit wPrice, .ex, .lit wStop]) (L.drop (i + 1 + 2 + 2 + 2)) (.ok l r) → G (.seq rateT) (L.drop i) (.ok (leafE 1 c0 :: leafE 1 c1 :: leafE 1 c2 :: leafE 1 c3 :: l) r) := fun l r h => hA3 _ _ (g1 [.lit wTo, .num, .lit wStay, .num, .lit wTo, .num, .lit wArrive, .num, .lit wKeep, .num, .lit wPart, .lit wWhen, .ex, .lit wPrice, .ex, .lit wStop] l r h)
  have hB4 : ∀ r, G (.seq [.lit wTo, .num, .lit wStay, .num, .lit wTo, .num, .lit wArrive, .num, .lit wKeep, .num, .lit wPart, .lit wWhen, .ex, .lit wPrice, .ex, .lit wStop]) (L.drop (i + 1 + 2 + 2 + 2)) (.bad r) → G (.seq rateT) (L.drop i) (.bad r) := fun r h => hB3 _ (g2 [.lit wTo, .num, .lit wStay, .num, .lit wTo, .num, .lit wArrive, .num, .lit wKeep, .num, .lit wPart, .lit wWhen, .ex, .lit wPrice, .ex, .lit wStop] r h)
  clear kk g1 g2 hA3 hB3 s3
  go_wp2_with fail
  refine (after_any hE wTo (by decide) (i + 1 + 2 + 2 + 2) _ s4).mono ?_
  rintro e w5 (⟨c4, g1, g2, rfl, kk, s5⟩ | ⟨j, g1, rfl, kk⟩)
  case inr =>
    go_wp2_with fail
    exact bodyPost_panic rfl (.inr ⟨j, hB4 _ (g1 [.lit wStay, .num, .lit wTo, .num, .lit wArrive, .num, .lit wKeep, .num, .lit wPart, .lit wWhen, .ex, .lit wPrice, .ex, .lit wStop]), rfl, k.trans kk⟩)
  replace o2 := kk.own o2 (by simp; omega)
  replace k := k.trans kk
  have hA5 : ∀ l r, G (.seq [.lit wStay, .num, .lit wTo, .num, .lit wArrive, .num, .lit wKeep, .num, .lit wPart, .lit wWhen, .ex, .lit wPrice, .ex, .lit wStop]) (L.drop (i + 1 + 2 + 2 + 2 + 2)) (.ok l r) → G (.seq rateT) (L.drop i) (.ok (leafE 1 c0 :: leafE 1 c1 :: leafE 1 c2 :: leafE 1 c3 :: leafE 1 c4 :: l) r) := fun l r h => hA4 _ _ (g1 [.lit wStay, .num, .lit wTo, .num, .lit wArrive, .num, .lit wKeep, .num, .lit wPart, .lit wWhen, .ex, .lit wPrice, .ex, .lit wStop] l r h)
  have hB5 : ∀ r, G (.seq [.lit wStay, .num, .lit wTo, .num, .lit wArrive, .num, .lit wKeep, .num, .lit wPart, .lit wWhen, .ex, .lit wPrice, .ex, .lit wStop]) (L.drop (i + 1 + 2 + 2 + 2 + 2)) (.bad r) → G (.seq rateT) (L.drop i) (.bad r) := fun r h => hB4 _ (g2 [.lit wStay, .num, .lit wTo, .num, .lit wArrive, .num, .lit wKeep, .num, .lit wPart, .lit wWhen, .ex, .lit wPrice, .ex, .lit wStop] r h)
  clear kk g1 g2 hA4 hB4 s4
  go_wp2_with fail
  refine (after_any hE wStay (by decide) (i + 1 + 2 + 2 + 2 + 2) _ s5).mono ?_
  rintro e w6 (⟨c5, g1, g2, rfl, kk, s6⟩ | ⟨j, g1, rfl, kk⟩)
  case inr =>
    go_wp2_with fail
    exact bodyPost_panic rfl (.inr ⟨j, hB5 _ (g1 [.lit wTo, .num, .lit wArrive, .num, .lit wKeep, .num, .lit wPart, .lit wWhen, .ex, .lit wPrice, .ex, .lit wStop]), rfl, k.trans kk⟩)
  replace o2 := kk.own o2 (by simp; omega)
  replace k := k.trans kk
  have hA6 : ∀ l r, G (.seq [.lit wTo, .num, .lit wArrive, .num, .lit wKeep, .num, .lit wPart, .lit wWhen, .ex, .lit wPrice, .ex, .lit wStop]) (L.drop (i + 1 + 2 + 2 + 2 + 2 + 2)) (.ok l r) → G (.seq rateT) (L.drop i) (.ok (leafE 1 c0 :: leafE 1 c1 :: leafE 1 c2 :: leafE 1 c3 :: leafE 1 c4 :: leafE 1 c5 :: l) r) := fun l r h => hA5 _ _ (g1 [.lit wTo, .num, .lit wArrive, .num, .lit wKeep, .num, .lit wPart, .lit wWhen, .ex, .lit wPrice, .ex, .lit wStop] l r h)
  have hB6 : ∀ r, G (.seq [.lit wTo, .num, .lit wArrive, .num, .lit wKeep, .num, .lit wPart, .lit wWhen, .ex, .lit wPrice, .ex, .lit wStop]) (L.drop (i + 1 + 2 + 2 + 2 + 2 + 2)) (.bad r) → G (.seq rateT) (L.drop i) (.bad r) := fun r h => hB5 _ (g2 [.lit wTo, .num, .lit wArrive, .num, .lit wKeep, .num, .lit wPart, .lit wWhen, .ex, .lit wPrice, .ex, .lit wStop] r h)
  clear kk g1 g2 hA5 hB5 s5
  go_wp2_with fail
  refine (after_any hE wTo (by decide) (i + 1 + 2 + 2 + 2 + 2 + 2) _ s6).mono ?_
  rintro e w7 (⟨c6, g1, g2, rfl, kk, s7⟩ | ⟨j, g1, rfl, kk⟩)
  case inr =>
    go_wp2_with fail
    exact bodyPost_panic rfl (.inr ⟨j, hB6 _ (g1 [.lit wArrive, .num, .lit wKeep, .num, .lit wPart, .lit wWhen, .ex, .lit wPrice, .ex, .lit wStop]), rfl, k.trans kk⟩)
  replace o2 := kk.own o2 (by simp; omega)
  replace k := k.trans kk
  have hA7 : ∀ l r, G (.seq [.lit wArrive, .num, .lit wKeep, .num, .lit wPart, .lit wWhen, .ex, .lit wPrice, .ex, .lit wStop]) (L.drop (i + 1 + 2 + 2 + 2 + 2 + 2 + 2)) (.ok l r) → G (.seq rateT) (L.drop i) (.ok (leafE 1 c0 :: leafE 1 c1 :: leafE 1 c2 :: leafE 1 c3 :: leafE 1 c4 :: leafE 1 c5 :: leafE 1 c6 :: l) r) := fun l r h => hA6 _ _ (g1 [.lit wArrive, .num, .lit wKeep, .num, .lit wPart, .lit wWhen, .ex, .lit wPrice, .ex, .lit wStop] l r h)
  have hB7 : ∀ r, G (.seq [.lit wArrive, .num, .lit wKeep, .num, .lit wPart, .lit wWhen, .ex, .lit wPrice, .ex, .lit wStop]) (L.drop (i + 1 + 2 + 2 + 2 + 2 + 2 + 2)) (.bad r) → G (.seq rateT) (L.drop i) (.bad r) := fun r h => hB6 _ (g2 [.lit wArrive, .num, .lit wKeep, .num, .lit wPart, .lit wWhen, .ex, .lit wPrice, .ex, .lit wStop] r h)
  clear kk g1 g2 hA6 hB6 s6
  go_wp2_with fail
  refine (after_any hE wArrive (by decide) (i + 1 + 2 + 2 + 2 + 2 + 2 + 2) _ s7).mono ?_
  rintro e w8 (⟨c7, g1, g2, rfl, kk, s8⟩ | ⟨j, g1, rfl, kk⟩)
  case inr =>
    go_wp2_with fail
    exact bodyPost_panic rfl (.inr ⟨j, hB7 _ (g1 [.lit wKeep, .num, .lit wPart, .lit wWhen, .ex, .lit wPrice, .ex, .lit wStop]), rfl, k.trans kk⟩)
  replace o2 := kk.own o2 (by simp; omega)
  replace k := k.trans kk
  have hA8 : ∀ l r, G (.seq [.lit wKeep, .num, .lit wPart, .lit wWhen, .ex, .lit wPrice, .ex, .lit wStop]) (L.drop (i + 1 + 2 + 2 + 2 + 2 + 2 + 2 + 2)) (.ok l r) → G (.seq rateT) (L.drop i) (.ok (leafE 1 c0 :: leafE 1 c1 :: leafE 1 c2 :: leafE 1 c3 :: leafE 1 c4 :: leafE 1 c5 :: leafE 1 c6 :: leafE 1 c7 :: l) r) := fun l r h => hA7 _ _ (g1 [.lit wKeep, .num, .lit wPart, .lit wWhen, .ex, .lit wPrice, .ex, .lit wStop] l r h)
  have hB8 : ∀ r, G (.seq [.lit wKeep, .num, .lit wPart, .lit wWhen, .ex, .lit wPrice, .ex, .lit wStop]) (L.drop (i + 1 + 2 + 2 + 2 + 2 + 2 + 2 + 2)) (.bad r) → G (.seq rateT) (L.drop i) (.bad r) := fun r h => hB7 _ (g2 [.lit wKeep, .num, .lit wPart, .lit wWhen, .ex, .lit wPrice, .ex, .lit wStop] r h)
  clear kk g1 g2 hA7 hB7 s7
  go_wp2_with fail
  refine (keep_any hE (i + 1 + 2 + 2 + 2 + 2 + 2 + 2 + 2) _ s8).mono ?_
  rintro e w9 (⟨c, g1, g2, rfl, kk, s9⟩ | ⟨j, g1, rfl, kk⟩)
  case inr =>
    go_wp2_with fail
    exact bodyPost_panic rfl (.inr ⟨j, hB8 _ (g1 [.lit wWhen, .ex, .lit wPrice, .ex, .lit wStop]), rfl, k.trans kk⟩)
  replace o2 := kk.own o2 (by simp; omega)
  replace k := k.trans kk
  have hA9 : ∀ l r, G (.seq [.lit wWhen, .ex, .lit wPrice, .ex, .lit wStop]) (L.drop (i + 1 + 2 + 2 + 2 + 2 + 2 + 2 + 2 + 3)) (.ok l r) → G (.seq rateT) (L.drop i) (.ok (leafE 1 c0 :: leafE 1 c1 :: leafE 1 c2 :: leafE 1 c3 :: leafE 1 c4 :: leafE 1 c5 :: leafE 1 c6 :: leafE 1 c7 :: leafE 1 c :: l) r) := fun l r h => hA8 _ _ (g1 [.lit wWhen, .ex, .lit wPrice, .ex, .lit wStop] l r h)
  have hB9 : ∀ r, G (.seq [.lit wWhen, .ex, .lit wPrice, .ex, .lit wStop]) (L.drop (i + 1 + 2 + 2 + 2 + 2 + 2 + 2 + 2 + 3)) (.bad r) → G (.seq rateT) (L.drop i) (.bad r) := fun r h => hB8 _ (g2 [.lit wWhen, .ex, .lit wPrice, .ex, .lit wStop] r h)
  clear kk g1 g2 hA8 hB8 s8
  generalize hkn : (mkF (c : Int) 100).1 = kn at *
  generalize hkd : (mkF (c : Int) 100).2.1 = kd at *
  have HKN := Lib.hid hkn
  have HKD := Lib.hid hkd
  clear hkn hkd
  have hp : i < i + 1 + 2 + 2 + 2 + 2 + 2 + 2 + 2 + 3 := by omega
  generalize i + 1 + 2 + 2 + 2 + 2 + 2 + 2 + 2 + 3 = p at *
  have yk := k.size
  have y9 := o2.lt
  go_wp2_with fail
  have o3 : Own (w9.alloc (.cells #[.int .i64 (c0 : Nat), .int .i64 (c1 : Nat), .int .i64 (c2 : Nat), .int .i64 (c3 : Nat), .int .i64 (c4 : Nat), .int .i64 (c5 : Nat), .int .i64 (c6 : Nat), .int .i64 (c7 : Nat), .int .i64 kn, .int .i64 kd, .int .i64 0, .int .i64 0, .slice none 0 0, .int .i64 0, .int .i64 0, .slice none 0 0] 52)) w9.heap.size [.int .i64 (c0 : Nat), .int .i64 (c1 : Nat), .int .i64 (c2 : Nat), .int .i64 (c3 : Nat), .int .i64 (c4 : Nat), .int .i64 (c5 : Nat), .int .i64 (c6 : Nat), .int .i64 (c7 : Nat), .int .i64 kn, .int .i64 kd, .int .i64 0, .int .i64 0, .slice none 0 0, .int .i64 0, .int .i64 0, .slice none 0 0] := Own.new w9 #[.int .i64 (c0 : Nat), .int .i64 (c1 : Nat), .int .i64 (c2 : Nat), .int .i64 (c3 : Nat), .int .i64 (c4 : Nat), .int .i64 (c5 : Nat), .int .i64 (c6 : Nat), .int .i64 (c7 : Nat), .int .i64 kn, .int .i64 kd, .int .i64 0, .int .i64 0, .slice none 0 0, .int .i64 0, .int .i64 0, .slice none 0 0] 52
  replace o2 := o2.alloc (.cells #[.int .i64 (c0 : Nat), .int .i64 (c1 : Nat), .int .i64 (c2 : Nat), .int .i64 (c3 : Nat), .int .i64 (c4 : Nat), .int .i64 (c5 : Nat), .int .i64 (c6 : Nat), .int .i64 (c7 : Nat), .int .i64 kn, .int .i64 kd, .int .i64 0, .int .i64 0, .slice none 0 0, .int .i64 0, .int .i64 0, .slice none 0 0] 52)
  replace k := k.alloc (.cells #[.int .i64 (c0 : Nat), .int .i64 (c1 : Nat), .int .i64 (c2 : Nat), .int .i64 (c3 : Nat), .int .i64 (c4 : Nat), .int .i64 (c5 : Nat), .int .i64 (c6 : Nat), .int .i64 (c7 : Nat), .int .i64 kn, .int .i64 kd, .int .i64 0, .int .i64 0, .slice none 0 0, .int .i64 0, .int .i64 0, .slice none 0 0] 52)
  replace s9 := s9.alloc (.cells #[.int .i64 (c0 : Nat), .int .i64 (c1 : Nat), .int .i64 (c2 : Nat), .int .i64 (c3 : Nat), .int .i64 (c4 : Nat), .int .i64 (c5 : Nat), .int .i64 (c6 : Nat), .int .i64 (c7 : Nat), .int .i64 kn, .int .i64 kd, .int .i64 0, .int .i64 0, .slice none 0 0, .int .i64 0, .int .i64 0, .slice none 0 0] 52)
  refine (need_any hE wWhen (by decide) p _ s9).mono ?_
  rintro e w10 (⟨q1, rfl, kk, s10⟩ | ⟨q1, rfl, kk⟩)
  case inr =>
    go_wp2_with fail
    exact bodyPost_panic rfl (.inr ⟨p, hB9 _ (g_litBad q1), rfl, k.trans kk⟩)
  obtain ⟨u1, d1, e1⟩ := need_cons q1
  replace o2 := kk.own o2 (by simp; omega)
  replace o3 := kk.own o3 (by simp; omega)
  replace k := k.trans kk
  have y10 := o3.lt
  clear kk q1 s9
  go_wp2_with fail
  refine (expr_any hE (p + 1) _ s10).mono ?_
  rintro e w11 (⟨x1, j1, tv1, g1, l1, rfl, t1, kk, s11⟩ | ⟨j1, g1, rfl, kk⟩)
  case inr =>
    go_wp2_with fail
    exact bodyPost_panic rfl (.inr ⟨j1, hB9 _ (G.at d1 (g_lit e1 (g_exBad g1))), rfl, k.trans kk⟩)
  replace o2 := kk.own o2 (by simp; omega)
  replace o3 := kk.own o3 (by simp; omega)
  replace k := k.trans kk
  have y11 := kk.size
  obtain ⟨ad1, cap1, rfl, -, -⟩ := t1.shape
  obtain ⟨f0, f1, f2, f3, f4, f5, f6, f7, f8, f9, f10, f11, f12, f13, f14, f15, f16, f17, f18, f19, f20, f21, f22, f23, f24, f25, f26, f27, f28, f29, f30, f31, fz⟩ := o3.facts
  clear kk s10
  go_wp2_with fail
  clear f0 f1 f2 f3 f4 f5 f6 f7 f8 f9 f10 f11 f12 f13 f14 f15 f16 f17 f18 f19 f20 f21 f22 f23 f24 f25 f26 f27 f28 f29 f30 f31
  have o3b : Own (setN w11 w9.heap.size 10 [.int .i64 x1.o, .int .i64 x1.n, .slice ad1 x1.ks.length cap1]) w9.heap.size [.int .i64 (c0 : Nat), .int .i64 (c1 : Nat), .int .i64 (c2 : Nat), .int .i64 (c3 : Nat), .int .i64 (c4 : Nat), .int .i64 (c5 : Nat), .int .i64 (c6 : Nat), .int .i64 (c7 : Nat), .int .i64 kn, .int .i64 kd, .int .i64 x1.o, .int .i64 x1.n, .slice ad1 x1.ks.length cap1, .int .i64 0, .int .i64 0, .slice none 0 0] := ((o3.setAt (i := 10) (.int .i64 x1.o) (by simp)).setAt (i := 11) (.int .i64 x1.n) (by simp)).setAt (i := 12) (.slice ad1 x1.ks.length cap1) (by simp)
  have o2b := o2.offN (B := w9.heap.size) (by omega) (vs := [.int .i64 x1.o, .int .i64 x1.n, .slice ad1 x1.ks.length cap1]) (o := 10)
  have t1b := t1.setN (B := w9.heap.size) (by show w9.heap.size < _; omega) (vs := [.int .i64 x1.o, .int .i64 x1.n, .slice ad1 x1.ks.length cap1]) (o := 10)
  have kb := Kept.setN (B := w9.heap.size) (by omega) (vs := [.int .i64 x1.o, .int .i64 x1.n, .slice ad1 x1.ks.length cap1]) (o := 10) k
  have s11b := St.setN (B := w9.heap.size) (by omega) (vs := [.int .i64 x1.o, .int .i64 x1.n, .slice ad1 x1.ks.length cap1]) (o := 10) s11
  refine (need_any hE wPrice (by decide) j1 _ s11b).mono ?_
  rintro e w12 (⟨q1, rfl, kk, s12⟩ | ⟨q1, rfl, kk⟩)
  case inr =>
    go_wp2_with fail
    exact bodyPost_panic rfl (.inr ⟨j1, hB9 _ (G.at d1 (g_lit e1 (g_exLater g1 (g_litBad q1)))), rfl, kb.trans kk⟩)
  obtain ⟨u2, d2, e2⟩ := need_cons q1
  have y11b := kb.size
  have o2c := kk.own o2b (by simp; omega)
  have o3c := kk.own o3b (by simp; omega)
  have t1c := t1b.keep kk (by show W0.heap.size < _; omega)
  have kc := kb.trans kk
  have y12 := o3c.lt
  have y12b := kk.size
  clear kk q1 s11 s11b o2 o3 o2b o3b t1 t1b k kb
  go_wp2_with fail
  refine (expr_any hE (j1 + 1) _ s12).mono ?_
  rintro e w13 (⟨x2, j2, tv2, g2, l2, rfl, t2, kk, s13⟩ | ⟨j2, g2, rfl, kk⟩)
  case inr =>
    go_wp2_with fail
    exact bodyPost_panic rfl (.inr ⟨j2, hB9 _ (G.at d1 (g_lit e1 (g_exLater g1 (G.at d2 (g_lit e2 (g_exBad g2)))))), rfl, kc.trans kk⟩)
  have o2d := kk.own o2c (by simp; omega)
  have o3d := kk.own o3c (by simp; omega)
  have t1d := t1c.keep kk (by show W0.heap.size < _; omega)
  have kd2 := kc.trans kk
  have y13 := kk.size
  obtain ⟨ad2, cap2, rfl, -, -⟩ := t2.shape
  obtain ⟨f0, f1, f2, f3, f4, f5, f6, f7, f8, f9, f10, f11, f12, f13, f14, f15, f16, f17, f18, f19, f20, f21, f22, f23, f24, f25, f26, f27, f28, f29, f30, f31, fz⟩ := o3d.facts
  clear kk s12 o2c o3c t1c kc
  go_wp2_with fail
  clear f0 f1 f2 f3 f4 f5 f6 f7 f8 f9 f10 f11 f12 f13 f14 f15 f16 f17 f18 f19 f20 f21 f22 f23 f24 f25 f26 f27 f28 f29 f30 f31
  have o3b : Own (setN w13 w9.heap.size 13 [.int .i64 x2.o, .int .i64 x2.n, .slice ad2 x2.ks.length cap2]) w9.heap.size [.int .i64 (c0 : Nat), .int .i64 (c1 : Nat), .int .i64 (c2 : Nat), .int .i64 (c3 : Nat), .int .i64 (c4 : Nat), .int .i64 (c5 : Nat), .int .i64 (c6 : Nat), .int .i64 (c7 : Nat), .int .i64 kn, .int .i64 kd, .int .i64 x1.o, .int .i64 x1.n, .slice ad1 x1.ks.length cap1, .int .i64 x2.o, .int .i64 x2.n, .slice ad2 x2.ks.length cap2] := ((o3d.setAt (i := 13) (.int .i64 x2.o) (by simp)).setAt (i := 14) (.int .i64 x2.n) (by simp)).setAt (i := 15) (.slice ad2 x2.ks.length cap2) (by simp)
  have o2b := o2d.offN (B := w9.heap.size) (by omega) (vs := [.int .i64 x2.o, .int .i64 x2.n, .slice ad2 x2.ks.length cap2]) (o := 13)
  have t1b := t1d.setN (B := w9.heap.size) (by show w9.heap.size < _; omega) (vs := [.int .i64 x2.o, .int .i64 x2.n, .slice ad2 x2.ks.length cap2]) (o := 13)
  have t2b := t2.setN (B := w9.heap.size) (by show w9.heap.size < _; omega) (vs := [.int .i64 x2.o, .int .i64 x2.n, .slice ad2 x2.ks.length cap2]) (o := 13)
  have kb := Kept.setN (B := w9.heap.size) (by omega) (vs := [.int .i64 x2.o, .int .i64 x2.n, .slice ad2 x2.ks.length cap2]) (o := 13) kd2
  have s13b := St.setN (B := w9.heap.size) (by omega) (vs := [.int .i64 x2.o, .int .i64 x2.n, .slice ad2 x2.ks.length cap2]) (o := 13) s13
  refine (need_any hE wStop (by decide) j2 _ s13b).mono ?_
  rintro e w14 (⟨q1, rfl, kk, s14⟩ | ⟨q1, rfl, kk⟩)
  case inr =>
    go_wp2_with fail
    exact bodyPost_panic rfl (.inr ⟨j2, hB9 _ (G.at d1 (g_lit e1 (g_exLater g1 (G.at d2 (g_lit e2 (g_exLater g2 (g_litBad q1))))))), rfl, kb.trans kk⟩)
  obtain ⟨u3, d3, e3⟩ := need_cons q1
  have y13b := kb.size
  have HG : Hid (G (.seq rateT) (L.drop i) (.ok (leafE 1 c0 :: leafE 1 c1 :: leafE 1 c2 :: leafE 1 c3 :: leafE 1 c4 :: leafE 1 c5 :: leafE 1 c6 :: leafE 1 c7 :: leafE 1 c :: [x1, x2]) (L.drop (j2 + 1)))) := Lib.hid (hA9 _ _ (G.at d1 (g_lit e1 (g_ex g1 (G.at d2 (g_lit e2 (g_ex g2 (G.at d3 (g_lit e3 g_nil)))))))))
  have o2 := kk.own o2b (by simp; omega)
  have o3 := kk.own o3b (by simp; omega)
  have t1 := t1b.keep kk (by show W0.heap.size < _; omega)
  have t2 := t2b.keep kk (by show W0.heap.size < _; omega)
  have k := kb.trans kk
  clear kk q1 s13 s13b o2b o3b o2d o3d t1b t2b t1d kb kd2 hA9 hB9 g1 g2 d1 d2 d3 e1 e2 e3
  obtain ⟨f0, f1, f2, f3, f4, f5, f6, f7, f8, f9, f10, f11, f12, f13, f14, f15, f16, f17, f18, f19, f20, f21, f22, f23, f24, f25, f26, f27, f28, f29, f30, f31, fz⟩ := o3.facts
  obtain ⟨h0, h1, h2, h3, h4, h5, h6, h7, h8, h9, h10, h11, h12, h13, h14, h15, h16, h17, h18, h19, h20, h21, h22, h23, h24, h25, h26, h27, h28, h29, h30, h31, hz⟩ := o2.facts
  go_wp2_with fail
  clear f0 f1 f2 f3 f4 f5 f6 f7 f8 f9 f10 f11 f12 f13 f14 f15 f16 f17 f18 f19 f20 f21 f22 f23 f24 f25 f26 f27 f28 f29 f30 f31 h0 h1 h2 h3 h4 h5 h6 h7 h8 h9 h10 h11 h12 h13 h14 h15 h16 h17 h18 h19 h20 h21 h22 h23 h24 h25 h26 h27 h28 h29 h30 h31
  refine ret_cells (vs := [.int .i64 (c0 : Nat), .int .i64 (c1 : Nat), .int .i64 (c2 : Nat), .int .i64 (c3 : Nat), .int .i64 (c4 : Nat), .int .i64 (c5 : Nat), .int .i64 (c6 : Nat), .int .i64 (c7 : Nat), .int .i64 kn, .int .i64 kd, .int .i64 x1.o, .int .i64 x1.n, .slice ad1 x1.ks.length cap1, .int .i64 x2.o, .int .i64 x2.n, .slice ad2 x2.ks.length cap2]) rfl Tryz.underlying52 rfl (by kernel_rfl) (B := w.heap.size) (o2.putN (vs := [.int .i64 (c0 : Nat), .int .i64 (c1 : Nat), .int .i64 (c2 : Nat), .int .i64 (c3 : Nat), .int .i64 (c4 : Nat), .int .i64 (c5 : Nat), .int .i64 (c6 : Nat), .int .i64 (c7 : Nat), .int .i64 kn, .int .i64 kd, .int .i64 x1.o, .int .i64 x1.n, .slice ad1 x1.ks.length cap1, .int .i64 x2.o, .int .i64 x2.n, .slice ad2 x2.ks.length cap2]) rfl) rfl rfl ?_
  refine .inl ⟨⟨c0, c1, c2, c3, c4, c5, c6, c7, c, x1, x2⟩, j2 + 1, _, HG.out, by omega, rfl, ⟨ad1, cap1, ad2, cap2, ?_, ?_, ?_⟩, ?_, ?_⟩
  · rw [← HKN.out, ← HKD.out]; rfl
  · exact (t1.setN (B := w.heap.size) (by show w.heap.size < _; omega) (vs := [.int .i64 (c0 : Nat), .int .i64 (c1 : Nat), .int .i64 (c2 : Nat), .int .i64 (c3 : Nat), .int .i64 (c4 : Nat), .int .i64 (c5 : Nat), .int .i64 (c6 : Nat), .int .i64 (c7 : Nat), .int .i64 kn, .int .i64 kd, .int .i64 x1.o, .int .i64 x1.n, .slice ad1 x1.ks.length cap1, .int .i64 x2.o, .int .i64 x2.n, .slice ad2 x2.ks.length cap2]) (o := 0)).lo (by omega)
  · exact (t2.setN (B := w.heap.size) (by show w.heap.size < _; omega) (vs := [.int .i64 (c0 : Nat), .int .i64 (c1 : Nat), .int .i64 (c2 : Nat), .int .i64 (c3 : Nat), .int .i64 (c4 : Nat), .int .i64 (c5 : Nat), .int .i64 (c6 : Nat), .int .i64 (c7 : Nat), .int .i64 kn, .int .i64 kd, .int .i64 x1.o, .int .i64 x1.n, .slice ad1 x1.ks.length cap1, .int .i64 x2.o, .int .i64 x2.n, .slice ad2 x2.ks.length cap2]) (o := 0)).lo (by omega)
  · exact Kept.setN (B := w.heap.size) (Nat.le_refl _) (vs := [.int .i64 (c0 : Nat), .int .i64 (c1 : Nat), .int .i64 (c2 : Nat), .int .i64 (c3 : Nat), .int .i64 (c4 : Nat), .int .i64 (c5 : Nat), .int .i64 (c6 : Nat), .int .i64 (c7 : Nat), .int .i64 kn, .int .i64 kd, .int .i64 x1.o, .int .i64 x1.n, .slice ad1 x1.ks.length cap1, .int .i64 x2.o, .int .i64 x2.n, .slice ad2 x2.ks.length cap2]) (o := 0) k
  · exact St.setN (B := w.heap.size) hP (vs := [.int .i64 (c0 : Nat), .int .i64 (c1 : Nat), .int .i64 (c2 : Nat), .int .i64 (c3 : Nat), .int .i64 (c4 : Nat), .int .i64 (c5 : Nat), .int .i64 (c6 : Nat), .int .i64 (c7 : Nat), .int .i64 kn, .int .i64 kd, .int .i64 x1.o, .int .i64 x1.n, .slice ad1 x1.ks.length cap1, .int .i64 x2.o, .int .i64 x2.n, .slice ad2 x2.ks.length cap2]) (o := 0) s14
end Go.Proofs.YthnlenbfknbmcaaGreatDoor
namespace Go.Proofs.YthnlenbfknbmcaaGreatDoor
open Go.RowKit Go.Shelf
set_option maxRecDepth 100000
variable {W0 : World} {v : Value} {m : Nat} {L : List Tok}

def RRes.pre (x : List (List Xp)) : RRes → RRes
  | .ok l => .ok (x ++ l)
  | .err e q => .err e q
theorem RR.step {c : Nat} {ts r : List Tok} {l : List Xp} {a : RRes} (h1 : ts ≠ []) (h2 : ¬ (isT wRate ts = true ∧ c = 100)) (h3 : G (.seq rateI) ts (.ok l r)) (h4 : validR l = true) (h : RR (c + 1) r a) : RR c ts (a.pre [l]) := by
  cases a with
  | ok ls => exact .more h1 h2 h3 h4 h
  | err e q => exact .later h1 h2 h3 h4 h
theorem RRes.pre_pre (x y : List (List Xp)) (a : RRes) : (a.pre x).pre y = a.pre (y ++ x) := by
  cases a <;> simp [RRes.pre]
theorem owns_kept {w w' : World} {p base : Nat} {e : TypeId} {size n : Nat} {v : Value} {xs : List Value} (h : w.ownsRow base e size v n xs) (hk : Kept (some p) w w') (hp : p < base) : w'.ownsRow base e size v n xs := by
  obtain ⟨h0, h1 | ⟨g, cap, cur, hv, hg, hh, hr⟩⟩ := h
  · exact ⟨h0, .inl h1⟩
  · exact ⟨h0, .inr ⟨g, cap, cur, hv, hg, (hk.block g (Array.getElem?_eq_some_iff.1 hh).1 (by simp; omega)).trans hh, hr⟩⟩
/-- the blocks that the trees of a row of rates keep out of -/
abbrev Qv (B : Nat) (v : Value) : Nat → Prop := fun k => k < B ∨ v.ownBlock = some k
theorem RatesC.keep {p B : Nat} {v : Value} {w w' : World} {rs : List Rt} {c : List Value} (h : RatesC (Qv B v) w rs c) (hk : Kept (some p) w w') (hp : p < B) : RatesC (Qv B v) w' rs c :=
  h.go hk.size fun k hl hq => ⟨hk.block k hl (by rintro e; cases e; exact hq (.inl hp)), hq⟩
theorem RatesC.below {Q : Nat → Prop} {w w' : World} {rs : List Rt} {c : List Value} (h : RatesC Q w rs c) (hb : Below w.heap.size w w') : RatesC Q w' rs c := h.go hb.size fun k hl hq => ⟨hb.block k hl, hq⟩
theorem Tryz.infoRate : (Tryz.prog.info? 52).map (fun i => (i.zero, i.size, i.bytes)) = some (some (.agg #[.int .i64 0, .int .i64 0, .int .i64 0, .int .i64 0, .int .i64 0, .int .i64 0, .int .i64 0, .int .i64 0, .int .i64 0, .int .i64 0, .int .i64 0, .int .i64 0, .slice none 0 0, .int .i64 0, .int .i64 0, .slice none 0 0]), 16, 160) := by kernel_rfl
theorem St.grown {i : Nat} {w w' : World} {row : Option Nat} (h : St W0 v m L i w) (hg : w.grownBy w' row) (hr : ∀ r, row = some r → W0.heap.size < r) : St W0 v m L i w' := by
  have hb : w'.heap[W0.heap.size]? = w.heap[W0.heap.size]? := hg.block _ h.own.lt (by intro e; have := hr _ e.symm; omega)
  refine ⟨h.base.grown hg h.base.size (fun r e => Nat.le_of_lt (hr r e)), ⟨fun j u hj => ?_, fun j u hj => ?_, Nat.lt_of_lt_of_le h.own.lt hg.size⟩, h.le⟩
  · exact (World.cell?_of_block (w := w) (a := ⟨W0.heap.size, j, none⟩) hb).trans (h.own.cell j u hj)
  · exact (World.frozen?_of_block (w := w) (a := ⟨W0.heap.size, j, none⟩) hb).trans (h.own.fro j u hj)
theorem Kept.grown {p : Nat} {a w w' : World} {row : Option Nat} (h : Kept (some p) a w) (hg : w.grownBy w' row) (hr : ∀ r, row = some r → a.heap.size ≤ r) : Kept (some p) a w' :=
  ⟨hg.os.trans h.os, hg.tape.trans h.tape, hg.output.trans h.output, Nat.le_trans h.size hg.size, fun i hi hp => (hg.block i (Nat.lt_of_lt_of_le hi h.size) (by intro e; have := hr i e.symm; omega)).trans (h.block i hi hp)⟩
/-- the rates, or a panic -/
def RtsEnd (W0 : World) (L : List Tok) (w : World) (e : Ending) (w' : World) : Prop :=
  (∃ rs cells v', RR 0 L (.ok (rs.map Rt.list)) ∧ e = .returned v' ∧ rs.length ≤ 100 ∧ w'.ownsRow w.heap.size 52 16 v' rs.length cells ∧ RatesC (Qv w.heap.size v') w' rs cells ∧ Kept (some W0.heap.size) w w') ∨
  (∃ ec q, RR 0 L (.err ec q) ∧ Dies (ec : Nat) (lineAt L q : Nat) (some W0.heap.size) w e w')
set_option maxHeartbeats 6400000 in
theorem rates_any (hE : Env W0 v m L) (w : World) (hS : St W0 v m L 0 w) : Calls Tryz.prog 33 #[.pointer (some ⟨W0.heap.size, 0, none⟩)] w (RtsEnd W0 L w) := by
  have hP := hS.own.lt
  have hsh := hE.short
  obtain ⟨i0, hi, hz0, hz1, hzz⟩ : ∃ i, Tryz.prog.info? 52 = some i ∧ i.zero = some (.agg #[.int .i64 0, .int .i64 0, .int .i64 0, .int .i64 0, .int .i64 0, .int .i64 0, .int .i64 0, .int .i64 0, .int .i64 0, .int .i64 0, .int .i64 0, .int .i64 0, .slice none 0 0, .int .i64 0, .int .i64 0, .slice none 0 0]) ∧ i.size = 16 ∧ i.bytes = 160 := by
    have := Tryz.infoRate
    cases hq : Tryz.prog.info? 52 with
    | none => rw [hq] at this; simp at this
    | some i => rw [hq] at this; simp at this; exact ⟨i, rfl, this.1, this.2.1, this.2.2⟩
  go_enter Tryz.func33, Tryz.ntmps33
  go_wp2_with fail
  go_loopw [3] (fun lv wr => ∃ (rs : List Rt) (cells : List Value) (j : Nat), rs.length ≤ 100 ∧ wr.ownsRow w.heap.size 52 16 lv rs.length cells ∧ RatesC (Qv w.heap.size lv) wr rs cells ∧ (∀ a, RR rs.length (L.drop j) a → RR 0 L (a.pre (rs.map Rt.list))) ∧ Kept (some W0.heap.size) w wr ∧ St W0 v m L j wr) (fun _ wr => L.length - readOf W0.heap.size wr)
  case atStart => exact ⟨[], [], 0, by simp, World.ownsRow_nil _ _ _ _, rfl, fun a h => by cases a <;> exact h, Kept.refl _ _, hS⟩
  case round =>
    obtain ⟨rs, cells, j, hrs, hown, hrc, hpre, k, s1⟩ := hrel
    have HS := Lib.hid hpre
    clear hpre hS
    have hen := ended_any hE j wr s1
    have hle := s1.le
    by_cases hj : j = L.length
    · rw [show decide (j = L.length) = true by simpa using hj] at hen
      have HG := Lib.hid (HS.out (.ok []) (by rw [hj, List.drop_length]; exact .nil))
      clear HS hj
      go_wp2_with fail
      refine hen.mono ?_
      rintro e w2 ⟨rfl, hb⟩
      go_wp2_with fail
      go_ret
      exact .inl ⟨rs, cells, _, by have := HG.out; simpa [RRes.pre] using this, rfl, hrs, lown_below hown hb, hrc.below hb, k.later hb⟩
    · rw [show decide (j = L.length) = false by simpa using hj] at hen
      have hjl : j < L.length := by omega
      have hne : L.drop j ≠ [] := by intro e; have := congrArg List.length e; rw [List.length_drop] at this; simp at this; omega
      go_wp2_with fail
      refine hen.mono ?_
      rintro e w2 ⟨rfl, hb⟩
      replace hown := lown_below hown hb
      replace hrc := hrc.below hb
      replace k := k.later hb
      have s2 := s1.below hb
      clear hb hen
      have hnx := next_any hE j w2 s2
      rw [show tokV (nextT L j) = .agg #[.int .i64 (nextT L j).k, .int .i64 ((lineAt L (L.drop j) : Nat) : Int), .string ⟨(nextT L j).t.toArray⟩] by rw [← nextT_line]; rfl] at hnx
      obtain ⟨ln, hln⟩ : ∃ ln, lineAt L (L.drop j) = ln := ⟨_, rfl⟩
      rw [hln] at hnx
      have HLN := Lib.hid hln
      clear hln
      have hf := tfield1
      go_wp2_with fail
      refine hnx.mono ?_
      rintro e w3 ⟨rfl, hb⟩
      replace hown := lown_below hown hb
      replace hrc := hrc.below hb
      replace k := k.later hb
      have s3 := s2.below hb
      clear hb hnx s2
      go_wp2_with fail
      refine (need_any hE wRate (by decide) j _ s3).mono ?_
      rintro e w4 (⟨q1, rfl, kk, s4⟩ | ⟨q1, rfl, kk⟩)
      case inr =>
        go_wp2_with fail
        exact bodyPost_panic rfl (.inr ⟨8, L.drop j, HS.out _ (.syn hne (by rw [q1]; simp) (g_litBad q1)), rfl, k.trans kk⟩)
      obtain ⟨u1, d1', e1'⟩ := need_cons q1
      have d1 := Lib.hid d1'
      have e1 := Lib.hid e1'
      clear d1' e1'
      replace hown := owns_kept hown kk hP
      replace hrc := hrc.keep kk hP
      replace k := k.trans kk
      clear kk s3
      by_cases h100 : rs.length = 100
      · have h1 : (((rs.length : Nat) : Int) == 100) = true := by rw [beq_iff_eq]; omega
        have h2 : (rs.length == 100) = true := by rw [beq_iff_eq]; exact h100
        have HG := Lib.hid (HS.out _ (.lim (ts := L.drop j) q1 h100))
        clear hrc HS
        obtain ⟨lo0, lo1⟩ := hown
        rcases lo1 with ⟨rfl, ln⟩ | ⟨g, cap0, cur, rfl, -⟩
        · omega
        go_wp2_with fail
        exact bodyPost_panic rfl (.inr ⟨2, L.drop j, HG.out, by rw [HLN.out]; rfl, k⟩)
      · have h1 : (((rs.length : Nat) : Int) == 100) = false := by rw [beq_eq_false_iff_ne]; omega
        have h2 : (rs.length == 100) = false := by rw [beq_eq_false_iff_ne]; exact h100
        have hnl : ¬ (isT wRate (L.drop j) = true ∧ rs.length = 100) := fun h => h100 h.2
        obtain ⟨vad, vcap, hlv⟩ : ∃ vad vcap, u3 = .slice vad rs.length vcap := by
          obtain ⟨_, ⟨e, h0⟩ | ⟨g, cap0, cur, e, _⟩⟩ := hown
          · exact ⟨none, 0, by rw [e, h0]⟩
          · exact ⟨_, _, e⟩
        subst hlv
        have hvb : ∀ r, (Value.slice vad rs.length vcap).ownBlock = some r → r < w4.heap.size := fun r h => by
          obtain ⟨_, cur, hc⟩ := lown_row hown r h
          exact (Array.getElem?_eq_some_iff.1 hc).1
        have y4 := k.size
        go_wp2_with fail
        refine (rate_any hE (j + 1) _ s4).mono ?_
        rintro e w5 (⟨rt, j2, c16, g2, l2, rfl, ⟨ad, cap, ad2, cap2, rfl, t1, t2⟩, kk, s5⟩ | ⟨j2, g2, rfl, kk⟩)
        case inr =>
          go_wp2_with fail
          exact bodyPost_panic rfl (.inr ⟨8, L.drop j2, HS.out _ (.syn hne hnl (G.at d1.out (g_lit e1.out g2))), rfl, k.trans kk⟩)
        have hG : G (.seq rateI) (L.drop j) (.ok rt.list (L.drop j2)) := G.at d1.out (g_lit e1.out g2)
        replace hown := owns_kept hown kk hP
        replace hrc := hrc.keep kk hP
        replace k := k.trans kk
        have y5 := kk.size
        clear kk s4 q1 d1 e1 g2
        unfold rateC
        have o6 : Own (w5.alloc (.cells #[.int .i64 (rt.a0 : Nat), .int .i64 (rt.a1 : Nat), .int .i64 (rt.a2 : Nat), .int .i64 (rt.a3 : Nat), .int .i64 (rt.a4 : Nat), .int .i64 (rt.a5 : Nat), .int .i64 (rt.a6 : Nat), .int .i64 (rt.a7 : Nat), .int .i64 rt.kn, .int .i64 rt.kd, .int .i64 rt.when.o, .int .i64 rt.when.n, .slice ad rt.when.ks.length cap, .int .i64 rt.price.o, .int .i64 rt.price.n, .slice ad2 rt.price.ks.length cap2] 52)) w5.heap.size [.int .i64 (rt.a0 : Nat), .int .i64 (rt.a1 : Nat), .int .i64 (rt.a2 : Nat), .int .i64 (rt.a3 : Nat), .int .i64 (rt.a4 : Nat), .int .i64 (rt.a5 : Nat), .int .i64 (rt.a6 : Nat), .int .i64 (rt.a7 : Nat), .int .i64 rt.kn, .int .i64 rt.kd, .int .i64 rt.when.o, .int .i64 rt.when.n, .slice ad rt.when.ks.length cap, .int .i64 rt.price.o, .int .i64 rt.price.n, .slice ad2 rt.price.ks.length cap2] := Own.new w5 #[.int .i64 (rt.a0 : Nat), .int .i64 (rt.a1 : Nat), .int .i64 (rt.a2 : Nat), .int .i64 (rt.a3 : Nat), .int .i64 (rt.a4 : Nat), .int .i64 (rt.a5 : Nat), .int .i64 (rt.a6 : Nat), .int .i64 (rt.a7 : Nat), .int .i64 rt.kn, .int .i64 rt.kd, .int .i64 rt.when.o, .int .i64 rt.when.n, .slice ad rt.when.ks.length cap, .int .i64 rt.price.o, .int .i64 rt.price.n, .slice ad2 rt.price.ks.length cap2] 52
        obtain ⟨f0, f1, f2, f3, f4, f5, f6, f7, f8, f9, f10, f11, f12, f13, f14, f15, f16, f17, f18, f19, f20, f21, f22, f23, f24, f25, f26, f27, f28, f29, f30, f31, fz⟩ := o6.facts
        replace hown := lown_below hown (Below.alloc (Below.refl _ _) (Nat.le_refl _) (.cells #[.int .i64 (rt.a0 : Nat), .int .i64 (rt.a1 : Nat), .int .i64 (rt.a2 : Nat), .int .i64 (rt.a3 : Nat), .int .i64 (rt.a4 : Nat), .int .i64 (rt.a5 : Nat), .int .i64 (rt.a6 : Nat), .int .i64 (rt.a7 : Nat), .int .i64 rt.kn, .int .i64 rt.kd, .int .i64 rt.when.o, .int .i64 rt.when.n, .slice ad rt.when.ks.length cap, .int .i64 rt.price.o, .int .i64 rt.price.n, .slice ad2 rt.price.ks.length cap2] 52))
        replace hrc := hrc.below (Below.alloc (Below.refl _ _) (Nat.le_refl _) (.cells #[.int .i64 (rt.a0 : Nat), .int .i64 (rt.a1 : Nat), .int .i64 (rt.a2 : Nat), .int .i64 (rt.a3 : Nat), .int .i64 (rt.a4 : Nat), .int .i64 (rt.a5 : Nat), .int .i64 (rt.a6 : Nat), .int .i64 (rt.a7 : Nat), .int .i64 rt.kn, .int .i64 rt.kd, .int .i64 rt.when.o, .int .i64 rt.when.n, .slice ad rt.when.ks.length cap, .int .i64 rt.price.o, .int .i64 rt.price.n, .slice ad2 rt.price.ks.length cap2] 52))
        replace k := k.alloc (.cells #[.int .i64 (rt.a0 : Nat), .int .i64 (rt.a1 : Nat), .int .i64 (rt.a2 : Nat), .int .i64 (rt.a3 : Nat), .int .i64 (rt.a4 : Nat), .int .i64 (rt.a5 : Nat), .int .i64 (rt.a6 : Nat), .int .i64 (rt.a7 : Nat), .int .i64 rt.kn, .int .i64 rt.kd, .int .i64 rt.when.o, .int .i64 rt.when.n, .slice ad rt.when.ks.length cap, .int .i64 rt.price.o, .int .i64 rt.price.n, .slice ad2 rt.price.ks.length cap2] 52)
        replace t1 := t1.alloc (.cells #[.int .i64 (rt.a0 : Nat), .int .i64 (rt.a1 : Nat), .int .i64 (rt.a2 : Nat), .int .i64 (rt.a3 : Nat), .int .i64 (rt.a4 : Nat), .int .i64 (rt.a5 : Nat), .int .i64 (rt.a6 : Nat), .int .i64 (rt.a7 : Nat), .int .i64 rt.kn, .int .i64 rt.kd, .int .i64 rt.when.o, .int .i64 rt.when.n, .slice ad rt.when.ks.length cap, .int .i64 rt.price.o, .int .i64 rt.price.n, .slice ad2 rt.price.ks.length cap2] 52)
        replace t2 := t2.alloc (.cells #[.int .i64 (rt.a0 : Nat), .int .i64 (rt.a1 : Nat), .int .i64 (rt.a2 : Nat), .int .i64 (rt.a3 : Nat), .int .i64 (rt.a4 : Nat), .int .i64 (rt.a5 : Nat), .int .i64 (rt.a6 : Nat), .int .i64 (rt.a7 : Nat), .int .i64 rt.kn, .int .i64 rt.kd, .int .i64 rt.when.o, .int .i64 rt.when.n, .slice ad rt.when.ks.length cap, .int .i64 rt.price.o, .int .i64 rt.price.n, .slice ad2 rt.price.ks.length cap2] 52)
        replace s5 := s5.alloc (.cells #[.int .i64 (rt.a0 : Nat), .int .i64 (rt.a1 : Nat), .int .i64 (rt.a2 : Nat), .int .i64 (rt.a3 : Nat), .int .i64 (rt.a4 : Nat), .int .i64 (rt.a5 : Nat), .int .i64 (rt.a6 : Nat), .int .i64 (rt.a7 : Nat), .int .i64 rt.kn, .int .i64 rt.kd, .int .i64 rt.when.o, .int .i64 rt.when.n, .slice ad rt.when.ks.length cap, .int .i64 rt.price.o, .int .i64 rt.price.n, .slice ad2 rt.price.ks.length cap2] 52)
        have hv1 := pvalid_any rt.when _ _ t1
        go_wp2_with fail
        have HW : Hid (validR rt.list = (validF rt.when && validF rt.price)) := Lib.hid rfl
        cases hw : validF rt.when with
        | false =>
          rw [hw] at hv1
          have HG := Lib.hid (HS.out _ (.arg hne hnl hG (by rw [HW.out, hw]; rfl)))
          refine hv1.mono ?_
          rintro e w6 ⟨rfl, hb⟩
          clear hown hrc t1 t2 hv1 hG f0 f1 f2 f3 f4 f5 f6 f7 f8 f9 f10 f11 f12 f13 f14 f15 f16 f17 f18 f19 f20 f21 f22 f23 f24 f25 f26 f27 f28 f29 f30 f31
          replace k := k.later hb
          go_wp2_with fail
          exact bodyPost_panic rfl (.inr ⟨1, L.drop j, HG.out, by rw [HLN.out]; rfl, k⟩)
        | true =>
        rw [hw] at hv1
        refine hv1.mono ?_
        rintro e w6 ⟨rfl, hb⟩
        replace hown := lown_below hown hb
        replace hrc := hrc.below hb
        replace k := k.later hb
        replace t1 := t1.below hb
        replace t2 := t2.below hb
        replace s5 := s5.below hb
        replace o6 := o6.below hb
        have y6 := hb.size
        rw [alloc_size] at y6
        clear hb hv1 f0 f1 f2 f3 f4 f5 f6 f7 f8 f9 f10 f11 f12 f13 f14 f15 f16 f17 f18 f19 f20 f21 f22 f23 f24 f25 f26 f27 f28 f29 f30 f31 fz
        obtain ⟨f0, f1, f2, f3, f4, f5, f6, f7, f8, f9, f10, f11, f12, f13, f14, f15, f16, f17, f18, f19, f20, f21, f22, f23, f24, f25, f26, f27, f28, f29, f30, f31, fz⟩ := o6.facts
        have hv2 := pvalid_any rt.price _ _ t2
        go_wp2_with fail
        cases hw2 : validF rt.price with
        | false =>
          rw [hw2] at hv2
          have HG := Lib.hid (HS.out _ (.arg hne hnl hG (by rw [HW.out, hw, hw2]; rfl)))
          refine hv2.mono ?_
          rintro e w7 ⟨rfl, hb⟩
          clear hown hrc t1 t2 hv2 hG f0 f1 f2 f3 f4 f5 f6 f7 f8 f9 f10 f11 f12 f13 f14 f15 f16 f17 f18 f19 f20 f21 f22 f23 f24 f25 f26 f27 f28 f29 f30 f31
          replace k := k.later hb
          go_wp2_with fail
          exact bodyPost_panic rfl (.inr ⟨1, L.drop j, HG.out, by rw [HLN.out]; rfl, k⟩)
        | true =>
        rw [hw2] at hv2
        have HN : Hid (∀ a, RR (rs.length + 1) (L.drop j2) a → RR 0 L (a.pre ((rs ++ [rt]).map Rt.list))) := Lib.hid fun a h => by
          have := HS.out _ (RR.step hne hnl hG (by rw [HW.out, hw, hw2]; rfl) h)
          rw [RRes.pre_pre] at this
          rw [List.map_append]
          exact this
        refine hv2.mono ?_
        rintro e w7 ⟨rfl, hb⟩
        replace hown := lown_below hown hb
        replace hrc := hrc.below hb
        replace k := k.later hb
        replace t1 := t1.below hb
        replace t2 := t2.below hb
        replace s5 := s5.below hb
        replace o6 := o6.below hb
        have y7 := hb.size
        clear hb hv2 hG hw hw2 HW HS f0 f1 f2 f3 f4 f5 f6 f7 f8 f9 f10 f11 f12 f13 f14 f15 f16 f17 f18 f19 f20 f21 f22 f23 f24 f25 f26 f27 f28 f29 f30 f31 fz
        obtain ⟨f0, f1, f2, f3, f4, f5, f6, f7, f8, f9, f10, f11, f12, f13, f14, f15, f16, f17, f18, f19, f20, f21, f22, f23, f24, f25, f26, f27, f28, f29, f30, f31, fz⟩ := o6.facts
        replace hown := lown_below hown (Below.alloc (Below.refl _ _) (Nat.le_refl _) (.cells #[.int .i64 (rt.a0 : Nat), .int .i64 (rt.a1 : Nat), .int .i64 (rt.a2 : Nat), .int .i64 (rt.a3 : Nat), .int .i64 (rt.a4 : Nat), .int .i64 (rt.a5 : Nat), .int .i64 (rt.a6 : Nat), .int .i64 (rt.a7 : Nat), .int .i64 rt.kn, .int .i64 rt.kd, .int .i64 rt.when.o, .int .i64 rt.when.n, .slice ad rt.when.ks.length cap, .int .i64 rt.price.o, .int .i64 rt.price.n, .slice ad2 rt.price.ks.length cap2] 52))
        replace hrc := hrc.below (Below.alloc (Below.refl _ _) (Nat.le_refl _) (.cells #[.int .i64 (rt.a0 : Nat), .int .i64 (rt.a1 : Nat), .int .i64 (rt.a2 : Nat), .int .i64 (rt.a3 : Nat), .int .i64 (rt.a4 : Nat), .int .i64 (rt.a5 : Nat), .int .i64 (rt.a6 : Nat), .int .i64 (rt.a7 : Nat), .int .i64 rt.kn, .int .i64 rt.kd, .int .i64 rt.when.o, .int .i64 rt.when.n, .slice ad rt.when.ks.length cap, .int .i64 rt.price.o, .int .i64 rt.price.n, .slice ad2 rt.price.ks.length cap2] 52))
        replace k := k.alloc (.cells #[.int .i64 (rt.a0 : Nat), .int .i64 (rt.a1 : Nat), .int .i64 (rt.a2 : Nat), .int .i64 (rt.a3 : Nat), .int .i64 (rt.a4 : Nat), .int .i64 (rt.a5 : Nat), .int .i64 (rt.a6 : Nat), .int .i64 (rt.a7 : Nat), .int .i64 rt.kn, .int .i64 rt.kd, .int .i64 rt.when.o, .int .i64 rt.when.n, .slice ad rt.when.ks.length cap, .int .i64 rt.price.o, .int .i64 rt.price.n, .slice ad2 rt.price.ks.length cap2] 52)
        replace t1 := t1.alloc (.cells #[.int .i64 (rt.a0 : Nat), .int .i64 (rt.a1 : Nat), .int .i64 (rt.a2 : Nat), .int .i64 (rt.a3 : Nat), .int .i64 (rt.a4 : Nat), .int .i64 (rt.a5 : Nat), .int .i64 (rt.a6 : Nat), .int .i64 (rt.a7 : Nat), .int .i64 rt.kn, .int .i64 rt.kd, .int .i64 rt.when.o, .int .i64 rt.when.n, .slice ad rt.when.ks.length cap, .int .i64 rt.price.o, .int .i64 rt.price.n, .slice ad2 rt.price.ks.length cap2] 52)
        replace t2 := t2.alloc (.cells #[.int .i64 (rt.a0 : Nat), .int .i64 (rt.a1 : Nat), .int .i64 (rt.a2 : Nat), .int .i64 (rt.a3 : Nat), .int .i64 (rt.a4 : Nat), .int .i64 (rt.a5 : Nat), .int .i64 (rt.a6 : Nat), .int .i64 (rt.a7 : Nat), .int .i64 rt.kn, .int .i64 rt.kd, .int .i64 rt.when.o, .int .i64 rt.when.n, .slice ad rt.when.ks.length cap, .int .i64 rt.price.o, .int .i64 rt.price.n, .slice ad2 rt.price.ks.length cap2] 52)
        replace s5 := s5.alloc (.cells #[.int .i64 (rt.a0 : Nat), .int .i64 (rt.a1 : Nat), .int .i64 (rt.a2 : Nat), .int .i64 (rt.a3 : Nat), .int .i64 (rt.a4 : Nat), .int .i64 (rt.a5 : Nat), .int .i64 (rt.a6 : Nat), .int .i64 (rt.a7 : Nat), .int .i64 rt.kn, .int .i64 rt.kd, .int .i64 rt.when.o, .int .i64 rt.when.n, .slice ad rt.when.ks.length cap, .int .i64 rt.price.o, .int .i64 rt.price.n, .slice ad2 rt.price.ks.length cap2] 52)
        have hnew := (Own.new w7 #[.int .i64 (rt.a0 : Nat), .int .i64 (rt.a1 : Nat), .int .i64 (rt.a2 : Nat), .int .i64 (rt.a3 : Nat), .int .i64 (rt.a4 : Nat), .int .i64 (rt.a5 : Nat), .int .i64 (rt.a6 : Nat), .int .i64 (rt.a7 : Nat), .int .i64 rt.kn, .int .i64 rt.kd, .int .i64 rt.when.o, .int .i64 rt.when.n, .slice ad rt.when.ks.length cap, .int .i64 rt.price.o, .int .i64 rt.price.n, .slice ad2 rt.price.ks.length cap2] 52).cell
        have hwz : w.heap.size ≤ w7.heap.size := by omega
        go_wp2_with (at_builtin; refine wpList_append_at rfl _ _ 31 rfl w.heap.size 52 i0 (.agg #[.int .i64 0, .int .i64 0, .int .i64 0, .int .i64 0, .int .i64 0, .int .i64 0, .int .i64 0, .int .i64 0, .int .i64 0, .int .i64 0, .int .i64 0, .int .i64 0, .slice none 0 0, .int .i64 0, .int .i64 0, .slice none 0 0]) 16 160 Tryz.underlying31 hi hz0 hz1 hzz rfl (by decide) _ _ _ rfl hown ⟨w7.heap.size, 0, none⟩ 1 1 [.int .i64 (rt.a0 : Nat), .int .i64 (rt.a1 : Nat), .int .i64 (rt.a2 : Nat), .int .i64 (rt.a3 : Nat), .int .i64 (rt.a4 : Nat), .int .i64 (rt.a5 : Nat), .int .i64 (rt.a6 : Nat), .int .i64 (rt.a7 : Nat), .int .i64 rt.kn, .int .i64 rt.kd, .int .i64 rt.when.o, .int .i64 rt.when.n, .slice ad rt.when.ks.length cap, .int .i64 rt.price.o, .int .i64 rt.price.n, .slice ad2 rt.price.ks.length cap2] rfl rfl (fun j u hj => by rw [xadd_zero0]; exact hnew j u hj) (by intro u hu; simp only [List.mem_cons, List.not_mem_nil, or_false] at hu; rcases hu with rfl | rfl | rfl | rfl | rfl | rfl | rfl | rfl | rfl | rfl | rfl | rfl | rfl | rfl | rfl | rfl <;> rfl) (by decide) (by unfold maxLen; omega) (by omega) (by rw [alloc_size]; omega) ?_; intro v' w8 hown' hgrow hwh)
        have hrow : ∀ r, (Value.slice vad rs.length vcap).ownBlock = some r → w.heap.size ≤ r := fun r h => (lown_row hown r h).1
        have hR : RatesC (Qv w.heap.size v') w8 (rs ++ [rt]) (cells ++ [.int .i64 (rt.a0 : Nat), .int .i64 (rt.a1 : Nat), .int .i64 (rt.a2 : Nat), .int .i64 (rt.a3 : Nat), .int .i64 (rt.a4 : Nat), .int .i64 (rt.a5 : Nat), .int .i64 (rt.a6 : Nat), .int .i64 (rt.a7 : Nat), .int .i64 rt.kn, .int .i64 rt.kd, .int .i64 rt.when.o, .int .i64 rt.when.n, .slice ad rt.when.ks.length cap, .int .i64 rt.price.o, .int .i64 rt.price.n, .slice ad2 rt.price.ks.length cap2]) := by
          have hstep : ∀ k, k < (w7.alloc (.cells #[.int .i64 (rt.a0 : Nat), .int .i64 (rt.a1 : Nat), .int .i64 (rt.a2 : Nat), .int .i64 (rt.a3 : Nat), .int .i64 (rt.a4 : Nat), .int .i64 (rt.a5 : Nat), .int .i64 (rt.a6 : Nat), .int .i64 (rt.a7 : Nat), .int .i64 rt.kn, .int .i64 rt.kd, .int .i64 rt.when.o, .int .i64 rt.when.n, .slice ad rt.when.ks.length cap, .int .i64 rt.price.o, .int .i64 rt.price.n, .slice ad2 rt.price.ks.length cap2] 52)).heap.size → ¬ Qv w.heap.size (Value.slice vad rs.length vcap) k → w8.heap[k]? = (w7.alloc (.cells #[.int .i64 (rt.a0 : Nat), .int .i64 (rt.a1 : Nat), .int .i64 (rt.a2 : Nat), .int .i64 (rt.a3 : Nat), .int .i64 (rt.a4 : Nat), .int .i64 (rt.a5 : Nat), .int .i64 (rt.a6 : Nat), .int .i64 (rt.a7 : Nat), .int .i64 rt.kn, .int .i64 rt.kd, .int .i64 rt.when.o, .int .i64 rt.when.n, .slice ad rt.when.ks.length cap, .int .i64 rt.price.o, .int .i64 rt.price.n, .slice ad2 rt.price.ks.length cap2] 52)).heap[k]? ∧ ¬ Qv w.heap.size v' k := fun k hk hq => by
            refine ⟨hgrow.block k hk (by intro e; exact hq (.inr e.symm)), ?_⟩
            rintro (h | h)
            · exact hq (.inl h)
            · rcases hwh k h with h2 | h2
              · exact hq (.inr h2)
              · omega
          have hbars : ∀ k, k < (w7.alloc (.cells #[.int .i64 (rt.a0 : Nat), .int .i64 (rt.a1 : Nat), .int .i64 (rt.a2 : Nat), .int .i64 (rt.a3 : Nat), .int .i64 (rt.a4 : Nat), .int .i64 (rt.a5 : Nat), .int .i64 (rt.a6 : Nat), .int .i64 (rt.a7 : Nat), .int .i64 rt.kn, .int .i64 rt.kd, .int .i64 rt.when.o, .int .i64 rt.when.n, .slice ad rt.when.ks.length cap, .int .i64 rt.price.o, .int .i64 rt.price.n, .slice ad2 rt.price.ks.length cap2] 52)).heap.size → Qv w.heap.size (Value.slice vad rs.length vcap) k → Lo w4.heap.size k := fun k _ h => by
            show k < w4.heap.size
            rcases h with h | h
            · omega
            · exact hvb k h
          exact RatesC.snoc ⟨ad, cap, ad2, cap2, rfl, Tree.go hgrow.size hstep (t1.bars hbars), Tree.go hgrow.size hstep (t2.bars hbars)⟩ (hrc.go hgrow.size hstep)
        have k8 := k.grown hgrow hrow
        have s8 := s5.grown hgrow (fun r h => by have := hrow r h; omega)
        have hl : (rs ++ [rt]).length = rs.length + 1 := by simp
        clear hrc hown t1 t2 o6 hnew f0 f1 f2 f3 f4 f5 f6 f7 f8 f9 f10 f11 f12 f13 f14 f15 f16 f17 f18 f19 f20 f21 f22 f23 f24 f25 f26 f27 f28 f29 f30 f31 fz
        go_roundw
        case rel => exact ⟨rs ++ [rt], cells ++ [.int .i64 (rt.a0 : Nat), .int .i64 (rt.a1 : Nat), .int .i64 (rt.a2 : Nat), .int .i64 (rt.a3 : Nat), .int .i64 (rt.a4 : Nat), .int .i64 (rt.a5 : Nat), .int .i64 (rt.a6 : Nat), .int .i64 (rt.a7 : Nat), .int .i64 rt.kn, .int .i64 rt.kd, .int .i64 rt.when.o, .int .i64 rt.when.n, .slice ad rt.when.ks.length cap, .int .i64 rt.price.o, .int .i64 rt.price.n, .slice ad2 rt.price.ks.length cap2], j2, by omega, by rw [hl]; exact hown', hR, by rw [hl]; exact HN.out, k8, s8⟩
        case measure => rw [s1.read, s8.read]; omega
end Go.Proofs.YthnlenbfknbmcaaGreatDoor
namespace Go.Proofs.YthnlenbfknbmcaaGreatDoor
open Go.RowKit Go.Shelf
set_option maxRecDepth 100000
variable {W0 : World} {v : Value} {m : Nat} {L : List Tok}

theorem owns_set {w : World} {base : Nat} {e : TypeId} {size n : Nat} {v : Value} {xs : List Value} (h : w.ownsRow base e size v n xs) {b : Addr} (hb : b.block < base) (u : Value) : (w.setCell b u).ownsRow base e size v n xs := by
  obtain ⟨h0, h1 | ⟨g, cap, cur, hv, hg, hh, hr⟩⟩ := h
  · exact ⟨h0, .inl h1⟩
  · exact ⟨h0, .inr ⟨g, cap, cur, hv, hg, (Below.heap_setCell _ _ _ _ (by omega)).trans hh, hr⟩⟩
theorem RatesC.set {Q : Nat → Prop} {w : World} {rs : List Rt} {c : List Value} (h : RatesC Q w rs c) {b : Addr} (hb : Q b.block) (u : Value) : RatesC Q (w.setCell b u) rs c :=
  h.go (by simp [World.setCell]) fun k _ hq => ⟨Below.heap_setCell _ _ _ _ (by rintro rfl; exact hq hb), hq⟩
theorem RatesC.bars {Q R : Nat → Prop} {w : World} {rs : List Rt} {c : List Value} (h : RatesC Q w rs c) (hb : ∀ k, k < w.heap.size → R k → Q k) : RatesC R w rs c := h.go (Nat.le_refl _) fun k hk hq => ⟨rfl, fun hr => hq (hb k hk hr)⟩
def TryR (W0 : World) (L : List Tok) (w : World) (e : Ending) (w' : World) : Prop :=
  (∃ rs cells v', RR 0 L (.ok (rs.map Rt.list)) ∧ e = .returned (.tuple #[v', .agg #[.int .i64 0, .int .i64 0]]) ∧ rs.length ≤ 100 ∧ w'.ownsRow w.heap.size 52 16 v' rs.length cells ∧ RatesC (Qv w.heap.size v') w' rs cells ∧ Kept (some W0.heap.size) w w') ∨
  (∃ ec q, RR 0 L (.err ec q) ∧ e = .returned (.tuple #[.slice none 0 0, .agg #[.int .i64 (ec : Nat), .int .i64 (lineAt L q : Nat)]]) ∧ Kept (some W0.heap.size) w w')
set_option maxHeartbeats 1600000 in
theorem attemptR_any (hE : Env W0 v m L) (w : World) (hS : St W0 v m L 0 w) : Calls Tryz.prog 32 #[.func (.func 33) #[.pointer (some ⟨W0.heap.size, 0, none⟩)] #[]] w (TryR W0 L w) := by
  have hmf : ∀ (fn : Fn) (first cap : Array Value) (w : World), (Instr.makeFunc fn first cap).run Tryz.prog w = .ok (.func fn first cap) w := fun _ _ _ _ => rfl
  have hP := hS.own.lt
  have k := (Kept.refl (some W0.heap.size) w).alloc (.cells #[.int .i64 0, .int .i64 0] 60)
  have o3 := Own.new w #[.int .i64 0, .int .i64 0] 60
  go_enter_defers Tryz.func32, Tryz.ntmps32
  go_wp2_with fail
  refine (rates_any hE _ (hS.alloc _)).mono ?_
  rintro e w1 (⟨rs, cells, v1, g1, rfl, hl, hown, hrc, kk⟩ | ⟨ec, q, hn, rfl, kk⟩)
  · replace o3 := kk.own o3 (by simp; omega)
    replace k := k.trans kk
    rw [alloc_size] at hown hrc
    obtain ⟨b0, b1, b2, b3, b4⟩ := o3.two
    go_wp2_with fail
    clear b0 b1 b2 b3
    refine leaves_cons (f := 51) (args := #[.pointer (some ⟨w.heap.size, 0, none⟩)]) (by simp) (by simp [go_sem]) ?_
    refine (catch_idleR w.heap.size _).mono ?_
    rintro e u' w2 ⟨rfl, rfl, rfl⟩
    have p3 := (o3.setAt (i := 0) (.int .i64 0) (by simp)).setAt (i := 1) (.int .i64 0) (by simp)
    refine ⟨_, results_tc rfl rfl (loadVar_at Tryz.underlying60 rfl (by kernel_rfl) p3), .inl ⟨rs, cells, v1, g1, rfl, hl, ?_, ?_, ?_⟩⟩
    · exact own_base (owns_set (owns_set hown (b := ⟨w.heap.size, 0, none⟩) (by simp) _) (b := ⟨w.heap.size, 1, none⟩) (by simp) _) (by omega)
    · exact ((hrc.set (b := ⟨w.heap.size, 0, none⟩) (.inl (by simp)) _).set (b := ⟨w.heap.size, 1, none⟩) (.inl (by simp)) _).bars fun k _ h => h.elim (fun h => .inl (by omega)) .inr
    · exact (k.set (b := ⟨w.heap.size, 0, none⟩) (.inr (Nat.le_refl _)) _).set (b := ⟨w.heap.size, 1, none⟩) (.inr (Nat.le_refl _)) _
  · replace o3 := kk.own o3 (by simp; omega)
    replace k := k.trans kk
    go_wp2_with fail
    refine leaves_cons (f := 51) (args := #[.pointer (some ⟨w.heap.size, 0, none⟩)]) (by simp) (by simp [go_sem]) ?_
    refine (catch_diedR w.heap.size 0 0 (ec : Nat) (lineAt L q : Nat) [] _ o3).mono ?_
    rintro e u' w2 ⟨rfl, rfl, rfl⟩
    have p3 := (o3.setAt (i := 0) (.int .i64 (ec : Nat)) (by simp)).setAt (i := 1) (.int .i64 (lineAt L q : Nat)) (by simp)
    refine ⟨_, results_tc rfl rfl (loadVar_at Tryz.underlying60 rfl (by kernel_rfl) p3), .inr ⟨ec, q, hn, rfl, ?_⟩⟩
    exact (k.set (b := ⟨w.heap.size, 0, none⟩) (.inr (Nat.le_refl _)) _).set (b := ⟨w.heap.size, 1, none⟩) (.inr (Nat.le_refl _)) _
/-- what Rates gives -/
def RsEnd (s : List UInt8) (w : World) (e : Ending) (w' : World) : Prop := ∃ rs ec n v cells, RP s (rs.map Rt.list) ec n ∧ e = .returned (.tuple #[v, .int .i64 (ec : Nat), .int .i64 (n : Nat)]) ∧ rs.length ≤ 100 ∧
  w'.ownsRow w.heap.size 52 16 v rs.length cells ∧ RatesC (Qv w.heap.size v) w' rs cells ∧ Below w.heap.size w w'
set_option maxHeartbeats 1600000 in
theorem prates_any (s : List UInt8) (w : World) (hL : Lay w) : Calls Tryz.prog 13 #[.string ⟨s.toArray⟩] w (RsEnd s w) := by
  have hmf : ∀ (fn : Fn) (first cap : Array Value) (w : World), (Instr.makeFunc fn first cap).run Tryz.prog w = .ok (.func fn first cap) w := fun _ _ _ _ => rfl
  have ht := tok_any s w hL
  go_enter Tryz.func13, Tryz.ntmps13
  go_wp2_with fail
  refine ht.mono ?_
  rintro e w1 ⟨v1, rfl, hv1, -, hb1⟩
  have y1 := hb1.size
  clear ht
  by_cases h0 : (tokP s).2.1 = 0
  · rw [h0]
    go_wp2_with fail
    refine (parserOf_any s h0 v1 w1 hv1 (hL.below hb1)).mono ?_
    rintro e w2 ⟨W0, m, hE, rfl, hS, hbW⟩
    have hb3 : Below w1.heap.size w1 w2 := hbW.trans (hS.base.mono hbW.size)
    have hb4 := hb1.trans (hb3.mono y1)
    have y2 := hbW.size
    have y3 := hb3.size
    have y4 := hS.own.lt
    clear hbW hb1 hb3
    go_wp2_with fail
    refine (attemptR_any hE w2 hS).mono ?_
    rintro e w3 (⟨rs, cells, v3, g1, rfl, hl, hown, hrc, kk⟩ | ⟨ec, q, hn, rfl, kk⟩)
    · have hb5 := hb4.trans (kk.below (B := w.heap.size) (by omega) (by omega))
      have HE : Hid (RP s (rs.map Rt.list) 0 0) := Lib.hid (.ok h0 g1)
      have hown2 := own_base (lown_below hown (Below.alloc (Below.refl _ _) (Nat.le_refl _) (.cells #[.int .i64 0, .int .i64 0] 60))) (C := w.heap.size) (by omega)
      have hrc2 := (hrc.below (Below.alloc (Below.refl _ _) (Nat.le_refl _) (.cells #[.int .i64 0, .int .i64 0] 60))).bars (R := Qv w.heap.size v3) fun k _ h => h.elim (fun h => .inl (by omega)) .inr
      have o8 := Own.new w3 #[.int .i64 0, .int .i64 0] 60
      obtain ⟨b0, b1, b2, b3, b4⟩ := o8.two
      have hb6 : Below w.heap.size w (w3.alloc (.cells #[.int .i64 0, .int .i64 0] 60)) := hb5.alloc hb5.size _
      clear kk hE hS hb4 hv1 hb5 hown hrc
      go_wp2_with fail
      go_quiet (fail)
      go_wp2_with fail
      go_ret3
      exact ⟨rs, 0, 0, v3, cells, HE.out, rfl, hl, lown_below hown2 (by (repeat (first | exact Below.refl _ _ | assumption | refine Below.drew ?_ | refine below_drewN ?_ _ | refine Below.setCell ?_ (by first | omega | (simp <;> omega)) _ | refine Below.alloc ?_ (by first | omega | (simp <;> omega)) _))), hrc2.below (by (repeat (first | exact Below.refl _ _ | assumption | refine Below.drew ?_ | refine below_drewN ?_ _ | refine Below.setCell ?_ (by first | omega | (simp <;> omega)) _ | refine Below.alloc ?_ (by first | omega | (simp <;> omega)) _))), hb6.trans ((below_drewN _ _).mono hb6.size)⟩
    · have hb5 := hb4.trans (kk.below (B := w.heap.size) (by omega) (by omega))
      have HE : Hid (RP s (([] : List Rt).map Rt.list) ec (lineAt (tokP s).1 q)) := Lib.hid (.err h0 hn)
      generalize lineAt (tokP s).1 q = ln at *
      have o8 := Own.new w3 #[.int .i64 (ec : Nat), .int .i64 (ln : Nat)] 60
      obtain ⟨b0, b1, b2, b3, b4⟩ := o8.two
      have hb6 : Below w.heap.size w (w3.alloc (.cells #[.int .i64 (ec : Nat), .int .i64 (ln : Nat)] 60)) := hb5.alloc hb5.size _
      clear kk hE hS hb4 hv1 hb5 hn
      go_wp2_with fail
      go_quiet (fail)
      go_wp2_with fail
      go_ret3
      exact ⟨[], ec, ln, _, [], HE.out, rfl, by simp, World.ownsRow_nil _ _ _ _, rfl, hb6.trans ((below_drewN _ _).mono hb6.size)⟩
  · have h0' : (((tokP s).2.1 : Int) != 0) = true := by rw [bne_iff_ne]; omega
    have h1 : ((tokP s).2.1 != 0) = true := by rw [bne_iff_ne]; exact h0
    have HE : Hid (RP s (([] : List Rt).map Rt.list) (tokP s).2.1 (tokP s).2.2) := Lib.hid (.lex h0)
    generalize (tokP s).2.1 = k at *
    generalize (tokP s).2.2 = n at *
    clear h0
    go_wp2_with fail
    go_ret3
    exact ⟨[], k, n, _, [], HE.out, rfl, by simp, World.ownsRow_nil _ _ _ _, rfl, hb1⟩
end Go.Proofs.YthnlenbfknbmcaaGreatDoor
