/-
  The examples of the chapter.
-/
import Derived.Test.YtbkcpcjdpfndpaaTypPln
import Derived.Deep.RegionHeld3
import Derived.Deep.DeepCutAuto
namespace Go.Proofs.Ytbkcpcjdpfndpaa
open Go.RowKit Go.Shelf
set_option maxRecDepth 100000
set_option linter.unusedVariables false
set_option linter.unusedSimpArgs false

abbrev fiveE : Xp := nodeE 11 [leafE 3 1, leafE 1 5]
abbrev mulE : Xp := nodeE 6 [leafE 2 2000, leafE 3 2]
abbrev moneyE : Xp := nodeE 4 [leafE 2 10000, mulE]
abbrev ifE : Xp := nodeE 10 [fiveE, leafE 1 1, leafE 1 2]
abbrev x1E : Xp := nodeE 4 [leafE 2 100, leafE 3 2]
abbrev x2E : Xp := nodeE 6 [leafE 2 100, leafE 2 100]
abbrev x3E : Xp := nodeE 15 [leafE 1 1]
abbrev x4E : Xp := nodeE 7 [leafE 1 1, leafE 2 100]
theorem inf_money : inferT moneyE = 2 ∧ inferE moneyE = 0 := by decide +kernel
theorem inf_five : inferT fiveE = 3 ∧ inferE fiveE = 0 := by decide +kernel
theorem inf_if : inferT ifE = 1 ∧ inferE ifE = 0 := by decide +kernel
theorem inf_bad : ∀ x ∈ [x1E, x2E, x3E, x4E], inferT x = 0 ∧ inferE x = 20 := by decide +kernel
theorem inf_zero : inferT (leafE 0 0) = 0 ∧ inferE (leafE 0 0) = 1 := by decide +kernel
theorem rate_plain : rateB (plainR 7) = true ∧ rateE (plainR 7) = 0 := by decide +kernel
theorem rate_zero : rateB ⟨0, 0, 0, 0, 0, 0, 0, 0, 0, 0, leafE 0 0, leafE 0 0⟩ = false ∧ rateE ⟨0, 0, 0, 0, 0, 0, 0, 0, 0, 0, leafE 0 0, leafE 0 0⟩ = 1 := by decide +kernel
theorem valid_two : validG [plainR 7, plainR 8] = true ∧ validG [plainR 7, plainR 7] = false := by decide +kernel
theorem drT (w : World) : Below w.heap.size w w.drew := (Below.refl w.heap.size w).drew
theorem drew_sizeT (w : World) : w.drew.heap.size = w.heap.size := rfl
theorem own_newL (w : World) (xs : List Value) (t : TypeId) : Own (w.alloc (.cells xs.toArray t)) w.heap.size xs := by have := Own.new w xs.toArray t; simpa using this
theorem inferV {x : Xp} {v : Value} {a b : Int} {Q : Nat → Prop} {w : World} (ht : Tree Q w x v) (h : inferT x = a ∧ inferE x = b) : Calls Try.prog 11 #[v] w (Ret (.tuple #[.int .i64 a, .int .i64 b]) w) := by
  obtain ⟨rfl, rfl⟩ := h
  exact tinfer_any x v w ht
theorem plain_rate {Q : Nat → Prop} (B : Nat) (w : World) (ht : Tree Q w oneE (.agg #[.int .i64 12, .int .i64 0, .slice (some ⟨B, 0, none⟩) 2 2])) : Calls Try.prog 13 #[.agg #[.int .i64 7, .int .i64 0, .int .i64 1, .int .i64 0, .int .i64 9, .int .i64 1, .int .i64 3, .int .i64 127, .int .i64 1, .int .i64 2, .int .i64 12, .int .i64 0, .slice (some ⟨B, 0, none⟩) 2 2, .int .i64 2, .int .i64 100, .slice none 0 0]] w (Ret (.tuple #[.bool true, .int .i64 0]) w) := by
  have h := trate_any (Q := fun _ => False) 7 0 1 0 9 1 3 127 1 2 oneE (leafE 2 100) (some ⟨B, 0, none⟩) 2 none 0 w ht.free (tree_leaf _ _ 2 100 none 0)
  rw [show (⟨7, 0, 1, 0, 9, 1, 3, 127, 1, 2, oneE, leafE 2 100⟩ : Rg) = plainR 7 from rfl, rate_plain.1, rate_plain.2] at h
  exact h
theorem zero_rateT (w : World) : Calls Try.prog 13 #[.agg #[.int .i64 0, .int .i64 0, .int .i64 0, .int .i64 0, .int .i64 0, .int .i64 0, .int .i64 0, .int .i64 0, .int .i64 0, .int .i64 0, .int .i64 0, .int .i64 0, .slice none 0 0, .int .i64 0, .int .i64 0, .slice none 0 0]] w (Ret (.tuple #[.bool false, .int .i64 1]) w) := by
  have h := trate_any (Q := fun _ => False) 0 0 0 0 0 0 0 0 0 0 (leafE 0 0) (leafE 0 0) none 0 none 0 w (tree_leaf _ _ 0 0 none 0) (tree_leaf _ _ 0 0 none 0)
  rw [rate_zero.1, rate_zero.2] at h
  exact h
theorem valid_plain {Q R : Nat → Prop} (a b : Int) (v : Bool) (hv : validG [plainR a, plainR b] = v) (g A B : Nat) (w : World) (ho : Own w g [.int .i64 a, .int .i64 0, .int .i64 1, .int .i64 0, .int .i64 9, .int .i64 1, .int .i64 3, .int .i64 127, .int .i64 1, .int .i64 2, .int .i64 12, .int .i64 0, .slice (some ⟨A, 0, none⟩) 2 2, .int .i64 2, .int .i64 100, .slice none 0 0, .int .i64 b, .int .i64 0, .int .i64 1, .int .i64 0, .int .i64 9, .int .i64 1, .int .i64 3, .int .i64 127, .int .i64 1, .int .i64 2, .int .i64 12, .int .i64 0, .slice (some ⟨B, 0, none⟩) 2 2, .int .i64 2, .int .i64 100, .slice none 0 0]) (ha : Tree Q w oneE (.agg #[.int .i64 12, .int .i64 0, .slice (some ⟨A, 0, none⟩) 2 2])) (hb : Tree R w oneE (.agg #[.int .i64 12, .int .i64 0, .slice (some ⟨B, 0, none⟩) 2 2])) : Calls Try.prog 15 #[.slice (some ⟨g, 0, none⟩) 2 2] w (Ret (.bool v) w) := by
  subst hv
  have rv : ∀ (c : Int) (C : Nat) {Q : Nat → Prop}, Tree Q w oneE (.agg #[.int .i64 12, .int .i64 0, .slice (some ⟨C, 0, none⟩) 2 2]) → RgV (fun _ => False) w (plainR c) [.int .i64 c, .int .i64 0, .int .i64 1, .int .i64 0, .int .i64 9, .int .i64 1, .int .i64 3, .int .i64 127, .int .i64 1, .int .i64 2, .int .i64 12, .int .i64 0, .slice (some ⟨C, 0, none⟩) 2 2, .int .i64 2, .int .i64 100, .slice none 0 0] := fun c C _ h => ⟨_, 2, none, 0, rfl, h.free, tree_leaf _ _ 2 100 none 0⟩
  exact tvalid_any [plainR a, plainR b] _ w ⟨some ⟨g, 0, none⟩, 2, _, rfl, by simp, ⟨_, _, rfl, rv a A ha, ⟨_, _, (List.append_nil _).symm, rv b B hb, rfl⟩⟩, .inr ⟨_, rfl, ho.lt, fun j u hj => by rw [xadd_zero0]; exact ho.cell j u hj⟩⟩
set_option maxHeartbeats 16000000 in
theorem thead_any (w : World) : Calls Try.prog 8 #[] w (Ret (.bool true) w) := by
  have hb : Below w.heap.size w w := Below.refl _ _
  go_enter Try.func8, Try.ntmps8
  go_wp2_with fail
  refine (leaf10_any 3 2 _).mono ?_
  rintro e w1 ⟨rfl, hx⟩
  replace hb := hb.trans (hx.mono hb.size)
  clear hx
  go_wp2_with fail
  refine (leaf10_any 3 1 _).mono ?_
  rintro e w2 ⟨rfl, hx⟩
  replace hb := hb.trans (hx.mono hb.size)
  clear hx
  go_wp2_with fail
  refine (leaf10_any 1 5 _).mono ?_
  rintro e w3 ⟨rfl, hx⟩
  replace hb := hb.trans (hx.mono hb.size)
  clear hx
  go_wp2_with fail
  have on := Own.new w3 #[.int .i64 3, .int .i64 1, .slice none 0 0, .int .i64 1, .int .i64 5, .slice none 0 0] 24
  refine (node10_any 11 _ 2 2 _).mono ?_
  rintro e w4 ⟨rfl, hx⟩
  replace on := on.below hx
  replace hb := (ballocT hb _).trans (hx.mono (ballocT hb _).size)
  clear hx
  have TF := tree_two (Q := (fun _ => False)) (o := 11) (x := leafE 3 1) (y := leafE 1 5) (fun h => h) on (tree_leaf _ _ 3 1 none 0) (tree_leaf _ _ 1 5 none 0) 2
  clear on
  obtain ⟨bF, hbF⟩ : ∃ b, b = w3.heap.size := ⟨_, rfl⟩
  rw [← hbF] at TF
  go_upto_region 2 with (fail)
  rw [← hbF]
  clear hbF
  obtain ⟨W, hW⟩ : ∃ W, W = (w4.alloc (.cells #[.int .i64 3, .int .i64 2, .slice none 0 0] 24)).alloc (.cells #[.int .i64 11, .int .i64 0, .slice (some ⟨bF, 0, none⟩) 2 2] 24) := ⟨_, rfl⟩
  have oP := (own_newL w4 [.int .i64 3, .int .i64 2, .slice none 0 0] 24).alloc (.cells #[.int .i64 11, .int .i64 0, .slice (some ⟨bF, 0, none⟩) 2 2] 24)
  have oF := own_newL (w4.alloc (.cells #[.int .i64 3, .int .i64 2, .slice none 0 0] 24)) [.int .i64 11, .int .i64 0, .slice (some ⟨bF, 0, none⟩) 2 2] 24
  rw [World.size_alloc] at oF
  replace TF := (TF.alloc (.cells #[.int .i64 3, .int .i64 2, .slice none 0 0] 24)).alloc (.cells #[.int .i64 11, .int .i64 0, .slice (some ⟨bF, 0, none⟩) 2 2] 24)
  replace hb := ballocT (ballocT hb (.cells #[.int .i64 3, .int .i64 2, .slice none 0 0] 24)) (.cells #[.int .i64 11, .int .i64 0, .slice (some ⟨bF, 0, none⟩) 2 2] 24)
  rw [← hW] at oP oF TF hb
  rw [← hW]
  clear hW
  generalize w4.heap.size = bP at *
  obtain ⟨bV, hbV⟩ : ∃ b, b = bP + 1 := ⟨_, rfl⟩
  rw [← hbV] at oF
  try rw [← hbV]
  clear hbV
  go_cut [3] (fun s3 wx => ∃ R bm bn, s3 = .pointer (some ⟨R, 0, none⟩) ∧ Own wx R [.int .i64 4, .int .i64 0, .slice (some ⟨bm, 0, none⟩) 2 2] ∧ Own wx bm [.int .i64 2, .int .i64 10000, .slice none 0 0, .int .i64 6, .int .i64 0, .slice (some ⟨bn, 0, none⟩) 2 2] ∧ Own wx bn [.int .i64 2, .int .i64 2000, .slice none 0 0, .int .i64 3, .int .i64 2, .slice none 0 0] ∧ Below W.heap.size W wx)
  case first =>
    have hk : Below W.heap.size W W := Below.refl _ _
    have hPW := oP.lt
    have pd0 := (oP.drewT).cell 0 _ rfl
    have pe0 := fun o => ((oP.alloc o).drewT).cell 0 _ rfl
    have pd1 := (oP.drewT).cell 1 _ rfl
    have pe1 := fun o => ((oP.alloc o).drewT).cell 1 _ rfl
    have pd2 := (oP.drewT).cell 2 _ rfl
    have pe2 := fun o => ((oP.alloc o).drewT).cell 2 _ rfl
    go_region_held3 (fun w' => w'.cell? ⟨bP, 0, none⟩ = some (.int .i64 3) ∧ w'.cell? ⟨bP, 1, none⟩ = some (.int .i64 2) ∧ w'.cell? ⟨bP, 2, none⟩ = some (.slice none 0 0)) (first | with_reducible exact ⟨p0, p1, p2⟩ | with_reducible exact ⟨pa0 _, pa1 _, pa2 _⟩ | with_reducible exact ⟨paa0 _ _, paa1 _ _, paa2 _ _⟩ | with_reducible exact ⟨pd0, pd1, pd2⟩ | with_reducible exact ⟨pe0 _, pe1 _, pe2 _⟩ | exact ⟨(((oP.setCell (p := ⟨_, 0, none⟩) (by simp <;> omega) _).setCell (p := ⟨_, 1, none⟩) (by simp <;> omega) _).setCell (p := ⟨_, 2, none⟩) (by simp <;> omega) _).cell 0 _ rfl, (((oP.setCell (p := ⟨_, 0, none⟩) (by simp <;> omega) _).setCell (p := ⟨_, 1, none⟩) (by simp <;> omega) _).setCell (p := ⟨_, 2, none⟩) (by simp <;> omega) _).cell 1 _ rfl, (((oP.setCell (p := ⟨_, 0, none⟩) (by simp <;> omega) _).setCell (p := ⟨_, 1, none⟩) (by simp <;> omega) _).setCell (p := ⟨_, 2, none⟩) (by simp <;> omega) _).cell 2 _ rfl⟩ | fail) (first
      | (go_at_call 20
         have mk := o1
         clear mk
         refine (node10_any _ _ _ _ _).mono ?_
         rintro e y4 ⟨rfl, hx⟩
         have sy4 := hx.size
         try simp only [World.size_alloc, drew_sizeT] at sy4
         (first | with_reducible have o2 := (own_newL _ [.int .i64 2, .int .i64 10000, .slice none 0 0, .int .i64 6, .int .i64 0, .slice (some ⟨_, 0, none⟩) 2 2] 24).below hx | with_reducible have o2 := ((own_newL _ [.int .i64 2, .int .i64 10000, .slice none 0 0, .int .i64 6, .int .i64 0, .slice (some ⟨_, 0, none⟩) 2 2] 24).alloc _).below hx)
         (first | with_reducible replace o1 := o1.below hx | with_reducible replace o1 := (o1.alloc _).below hx | with_reducible replace o1 := ((o1.alloc _).alloc _).below hx | with_reducible replace o1 := (o1.drewT).below hx | with_reducible replace o1 := ((o1.alloc _).drewT).below hx)
         (first | with_reducible replace oP := oP.below hx | with_reducible replace oP := (oP.alloc _).below hx | with_reducible replace oP := ((oP.alloc _).alloc _).below hx | with_reducible replace oP := (oP.drewT).below hx | with_reducible replace oP := ((oP.alloc _).drewT).below hx)
         (try clear p0 p1 p2 pa0 pa1 pa2 paa0 paa1 paa2)
         have p0 := oP.cell 0 _ rfl
         have p1 := oP.cell 1 _ rfl
         have p2 := oP.cell 2 _ rfl
         have pa0 := fun o => (oP.alloc o).cell 0 _ rfl
         have pa1 := fun o => (oP.alloc o).cell 1 _ rfl
         have pa2 := fun o => (oP.alloc o).cell 2 _ rfl
         have paa0 := fun o o2 => ((oP.alloc o).alloc o2).cell 0 _ rfl
         have paa1 := fun o o2 => ((oP.alloc o).alloc o2).cell 1 _ rfl
         have paa2 := fun o o2 => ((oP.alloc o).alloc o2).cell 2 _ rfl
         (first | with_reducible replace hk := hk.trans (hx.mono hk.size) | with_reducible replace hk := (ballocT hk _).trans (hx.mono (ballocT hk _).size) | with_reducible replace hk := (ballocT (ballocT hk _) _).trans (hx.mono (ballocT (ballocT hk _) _).size) | with_reducible replace hk := (hk.trans ((drT _).mono hk.size)).trans (hx.mono (hk.trans ((drT _).mono hk.size)).size) | with_reducible replace hk := ((ballocT hk _).trans ((drT _).mono (ballocT hk _).size)).trans (hx.mono ((ballocT hk _).trans ((drT _).mono (ballocT hk _).size)).size))
         (first | with_reducible replace oR := oR.below hx | with_reducible replace oR := (oR.alloc _).below hx | with_reducible replace oR := ((oR.alloc _).alloc _).below hx | with_reducible replace oR := (oR.drewT).below hx | with_reducible replace oR := ((oR.alloc _).drewT).below hx | with_reducible have oR := (own_newL _ [.int .i64 0, .int .i64 0, .slice none 0 0] 24).below hx | with_reducible have oR := ((own_newL _ [.int .i64 0, .int .i64 0, .slice none 0 0] 24).alloc _).below hx | with_reducible have oR := ((own_newL _ [.int .i64 0, .int .i64 0, .slice none 0 0] 24).drewT).below hx | with_reducible have oR := (((own_newL _ [.int .i64 0, .int .i64 0, .slice none 0 0] 24).alloc _).drewT).below hx | skip)
         try simp only [World.size_alloc] at oR
         try simp only [World.size_alloc] at o1
         try simp only [World.size_alloc] at o2
         (try (clear r0 r1 r2 g0 g1 g2 rz)); (try (obtain ⟨r0, r1, r2, g0, g1, g2, rz⟩ := oR.three))
         clear hx)
      | (go_at_call 20
         have mk := sy2
         clear mk
         refine (node10_any _ _ _ _ _).mono ?_
         rintro e y3 ⟨rfl, hx⟩
         have sy3 := hx.size
         try simp only [World.size_alloc, drew_sizeT] at sy3
         (first | with_reducible have o1 := (own_newL _ [.int .i64 2, .int .i64 2000, .slice none 0 0, .int .i64 3, .int .i64 2, .slice none 0 0] 24).below hx | with_reducible have o1 := ((own_newL _ [.int .i64 2, .int .i64 2000, .slice none 0 0, .int .i64 3, .int .i64 2, .slice none 0 0] 24).alloc _).below hx)
         (first | with_reducible replace oP := oP.below hx | with_reducible replace oP := (oP.alloc _).below hx | with_reducible replace oP := ((oP.alloc _).alloc _).below hx | with_reducible replace oP := (oP.drewT).below hx | with_reducible replace oP := ((oP.alloc _).drewT).below hx)
         (try clear p0 p1 p2 pa0 pa1 pa2 paa0 paa1 paa2)
         have p0 := oP.cell 0 _ rfl
         have p1 := oP.cell 1 _ rfl
         have p2 := oP.cell 2 _ rfl
         have pa0 := fun o => (oP.alloc o).cell 0 _ rfl
         have pa1 := fun o => (oP.alloc o).cell 1 _ rfl
         have pa2 := fun o => (oP.alloc o).cell 2 _ rfl
         have paa0 := fun o o2 => ((oP.alloc o).alloc o2).cell 0 _ rfl
         have paa1 := fun o o2 => ((oP.alloc o).alloc o2).cell 1 _ rfl
         have paa2 := fun o o2 => ((oP.alloc o).alloc o2).cell 2 _ rfl
         (first | with_reducible replace hk := hk.trans (hx.mono hk.size) | with_reducible replace hk := (ballocT hk _).trans (hx.mono (ballocT hk _).size) | with_reducible replace hk := (ballocT (ballocT hk _) _).trans (hx.mono (ballocT (ballocT hk _) _).size) | with_reducible replace hk := (hk.trans ((drT _).mono hk.size)).trans (hx.mono (hk.trans ((drT _).mono hk.size)).size) | with_reducible replace hk := ((ballocT hk _).trans ((drT _).mono (ballocT hk _).size)).trans (hx.mono ((ballocT hk _).trans ((drT _).mono (ballocT hk _).size)).size))
         (first | with_reducible replace oR := oR.below hx | with_reducible replace oR := (oR.alloc _).below hx | with_reducible replace oR := ((oR.alloc _).alloc _).below hx | with_reducible replace oR := (oR.drewT).below hx | with_reducible replace oR := ((oR.alloc _).drewT).below hx | with_reducible have oR := (own_newL _ [.int .i64 0, .int .i64 0, .slice none 0 0] 24).below hx | with_reducible have oR := ((own_newL _ [.int .i64 0, .int .i64 0, .slice none 0 0] 24).alloc _).below hx | with_reducible have oR := ((own_newL _ [.int .i64 0, .int .i64 0, .slice none 0 0] 24).drewT).below hx | with_reducible have oR := (((own_newL _ [.int .i64 0, .int .i64 0, .slice none 0 0] 24).alloc _).drewT).below hx | skip)
         try simp only [World.size_alloc] at oR
         try simp only [World.size_alloc] at o1
         try simp only [World.size_alloc] at o2
         (try (clear r0 r1 r2 g0 g1 g2 rz)); (try (obtain ⟨r0, r1, r2, g0, g1, g2, rz⟩ := oR.three))
         clear hx)
      | (go_at_call 19
         have mk := sy1
         clear mk
         refine (leaf10_any _ _ _).mono ?_
         rintro e y2 ⟨rfl, hx⟩
         have sy2 := hx.size
         try simp only [World.size_alloc, drew_sizeT] at sy2
         (first | with_reducible replace oP := oP.below hx | with_reducible replace oP := (oP.alloc _).below hx | with_reducible replace oP := ((oP.alloc _).alloc _).below hx | with_reducible replace oP := (oP.drewT).below hx | with_reducible replace oP := ((oP.alloc _).drewT).below hx)
         (try clear p0 p1 p2 pa0 pa1 pa2 paa0 paa1 paa2)
         have p0 := oP.cell 0 _ rfl
         have p1 := oP.cell 1 _ rfl
         have p2 := oP.cell 2 _ rfl
         have pa0 := fun o => (oP.alloc o).cell 0 _ rfl
         have pa1 := fun o => (oP.alloc o).cell 1 _ rfl
         have pa2 := fun o => (oP.alloc o).cell 2 _ rfl
         have paa0 := fun o o2 => ((oP.alloc o).alloc o2).cell 0 _ rfl
         have paa1 := fun o o2 => ((oP.alloc o).alloc o2).cell 1 _ rfl
         have paa2 := fun o o2 => ((oP.alloc o).alloc o2).cell 2 _ rfl
         (first | with_reducible replace hk := hk.trans (hx.mono hk.size) | with_reducible replace hk := (ballocT hk _).trans (hx.mono (ballocT hk _).size) | with_reducible replace hk := (ballocT (ballocT hk _) _).trans (hx.mono (ballocT (ballocT hk _) _).size) | with_reducible replace hk := (hk.trans ((drT _).mono hk.size)).trans (hx.mono (hk.trans ((drT _).mono hk.size)).size) | with_reducible replace hk := ((ballocT hk _).trans ((drT _).mono (ballocT hk _).size)).trans (hx.mono ((ballocT hk _).trans ((drT _).mono (ballocT hk _).size)).size))
         (first | with_reducible replace oR := oR.below hx | with_reducible replace oR := (oR.alloc _).below hx | with_reducible replace oR := ((oR.alloc _).alloc _).below hx | with_reducible replace oR := (oR.drewT).below hx | with_reducible replace oR := ((oR.alloc _).drewT).below hx | with_reducible have oR := (own_newL _ [.int .i64 0, .int .i64 0, .slice none 0 0] 24).below hx | with_reducible have oR := ((own_newL _ [.int .i64 0, .int .i64 0, .slice none 0 0] 24).alloc _).below hx | with_reducible have oR := ((own_newL _ [.int .i64 0, .int .i64 0, .slice none 0 0] 24).drewT).below hx | with_reducible have oR := (((own_newL _ [.int .i64 0, .int .i64 0, .slice none 0 0] 24).alloc _).drewT).below hx | skip)
         try simp only [World.size_alloc] at oR
         try simp only [World.size_alloc] at o1
         try simp only [World.size_alloc] at o2
         (try (clear r0 r1 r2 g0 g1 g2 rz)); (try (obtain ⟨r0, r1, r2, g0, g1, g2, rz⟩ := oR.three))
         clear hx)
      | (go_at_call 19
         refine (leaf10_any _ _ _).mono ?_
         rintro e y1 ⟨rfl, hx⟩
         have sy1 := hx.size
         try simp only [World.size_alloc, drew_sizeT] at sy1
         (first | with_reducible replace oP := oP.below hx | with_reducible replace oP := (oP.alloc _).below hx | with_reducible replace oP := ((oP.alloc _).alloc _).below hx | with_reducible replace oP := (oP.drewT).below hx | with_reducible replace oP := ((oP.alloc _).drewT).below hx)
         (try clear p0 p1 p2 pa0 pa1 pa2 paa0 paa1 paa2)
         have p0 := oP.cell 0 _ rfl
         have p1 := oP.cell 1 _ rfl
         have p2 := oP.cell 2 _ rfl
         have pa0 := fun o => (oP.alloc o).cell 0 _ rfl
         have pa1 := fun o => (oP.alloc o).cell 1 _ rfl
         have pa2 := fun o => (oP.alloc o).cell 2 _ rfl
         have paa0 := fun o o2 => ((oP.alloc o).alloc o2).cell 0 _ rfl
         have paa1 := fun o o2 => ((oP.alloc o).alloc o2).cell 1 _ rfl
         have paa2 := fun o o2 => ((oP.alloc o).alloc o2).cell 2 _ rfl
         (first | with_reducible replace hk := hk.trans (hx.mono hk.size) | with_reducible replace hk := (ballocT hk _).trans (hx.mono (ballocT hk _).size) | with_reducible replace hk := (ballocT (ballocT hk _) _).trans (hx.mono (ballocT (ballocT hk _) _).size) | with_reducible replace hk := (hk.trans ((drT _).mono hk.size)).trans (hx.mono (hk.trans ((drT _).mono hk.size)).size) | with_reducible replace hk := ((ballocT hk _).trans ((drT _).mono (ballocT hk _).size)).trans (hx.mono ((ballocT hk _).trans ((drT _).mono (ballocT hk _).size)).size))
         (first | with_reducible replace oR := oR.below hx | with_reducible replace oR := (oR.alloc _).below hx | with_reducible replace oR := ((oR.alloc _).alloc _).below hx | with_reducible replace oR := (oR.drewT).below hx | with_reducible replace oR := ((oR.alloc _).drewT).below hx | with_reducible have oR := (own_newL _ [.int .i64 0, .int .i64 0, .slice none 0 0] 24).below hx | with_reducible have oR := ((own_newL _ [.int .i64 0, .int .i64 0, .slice none 0 0] 24).alloc _).below hx | with_reducible have oR := ((own_newL _ [.int .i64 0, .int .i64 0, .slice none 0 0] 24).drewT).below hx | with_reducible have oR := (((own_newL _ [.int .i64 0, .int .i64 0, .slice none 0 0] 24).alloc _).drewT).below hx | skip)
         try simp only [World.size_alloc] at oR
         try simp only [World.size_alloc] at o1
         try simp only [World.size_alloc] at o2
         (try (clear r0 r1 r2 g0 g1 g2 rz)); (try (obtain ⟨r0, r1, r2, g0, g1, g2, rz⟩ := oR.three))
         clear hx))
    all_goals (
      go_wp2_with fail
      go_meet
      first
      | with_reducible exact ⟨_, _, _, rfl, own_newL _ _ _, o2.alloc _, o1.alloc _, ballocT hk _⟩
      | exact ⟨_, _, _, rfl, ((oR.setAt (i := 0) _ (by simp)).setAt (i := 1) _ (by simp)).setAt (i := 2) _ (by simp), (((o2.setCell (p := ⟨_, 0, none⟩) (by simp <;> omega) _).setCell (p := ⟨_, 1, none⟩) (by simp <;> omega) _).setCell (p := ⟨_, 2, none⟩) (by simp <;> omega) _), (((o1.setCell (p := ⟨_, 0, none⟩) (by simp <;> omega) _).setCell (p := ⟨_, 1, none⟩) (by simp <;> omega) _).setCell (p := ⟨_, 2, none⟩) (by simp <;> omega) _), (((hk.setCell (p := ⟨_, 0, none⟩) (by simp <;> omega) _).setCell (p := ⟨_, 1, none⟩) (by simp <;> omega) _).setCell (p := ⟨_, 2, none⟩) (by simp <;> omega) _)⟩)
  case rest =>
    obtain ⟨R, bm, bn, rfl, oM, om, on, hx⟩ := hcut
    replace oP := oP.below hx
    replace oF := oF.below hx
    replace TF := TF.below hx
    replace hb := hb.trans (hx.mono hb.size)
    clear hx
    have TN := tree_two (Q := (fun _ => False)) (o := 6) (x := leafE 2 2000) (y := leafE 3 2) (fun h => h) on (tree_leaf _ _ 2 2000 none 0) (tree_leaf _ _ 3 2 none 0) 2
    have TM := tree_two (Q := (fun _ => False)) (o := 4) (x := leafE 2 10000) (y := mulE) (fun h => h) om (tree_leaf _ _ 2 10000 none 0) TN 2
    clear on om TN
    obtain ⟨c0, c1, c2, -, -, -, cz⟩ := oM.three
    go_wp2_with fail
    refine (inferV TM inf_money).mono ?_
    rintro e wd ⟨rfl, hx⟩
    replace oP := oP.below hx
    replace oF := oF.below hx
    replace TF := TF.below hx
    replace hb := hb.trans (hx.mono hb.size)
    clear hx TM oM
    clear c0 c1 c2 cz
    obtain ⟨c0, c1, c2, -, -, -, cz⟩ := oF.three
    go_wp2_with fail
    refine (inferV TF inf_five).mono ?_
    rintro e we ⟨rfl, hx⟩
    replace oP := oP.below hx
    replace oF := oF.below hx
    replace TF := TF.below hx
    replace hb := hb.trans (hx.mono hb.size)
    clear hx
    clear c0 c1 c2 cz
    go_upto_region 5 with (fail)
    have pd0 := (oF.drewT).cell 0 _ rfl
    have pd1 := (oF.drewT).cell 1 _ rfl
    have pd2 := (oF.drewT).cell 2 _ rfl
    go_region_held3 (fun w' => w'.cell? ⟨bV, 0, none⟩ = some (.int .i64 11) ∧ w'.cell? ⟨bV, 1, none⟩ = some (.int .i64 0) ∧ w'.cell? ⟨bV, 2, none⟩ = some (.slice (some ⟨bF, 0, none⟩) 2 2)) (first | with_reducible exact ⟨p0, p1, p2⟩ | with_reducible exact ⟨pa0 _, pa1 _, pa2 _⟩ | with_reducible exact ⟨pd0, pd1, pd2⟩ | fail) (first
      | (go_at_call 11
         have mk := TI
         clear mk
         refine (inferV TI inf_if).mono ?_
         rintro e y4 ⟨rfl, hx⟩
         have sy4 := hx.size
         try simp only [World.size_alloc, drew_sizeT] at sy4
         (first | with_reducible replace oP := oP.below hx | with_reducible replace oP := (oP.alloc _).below hx | with_reducible replace oP := ((oP.alloc _).alloc _).below hx | with_reducible replace oP := (oP.drewT).below hx | with_reducible replace oP := ((oP.alloc _).drewT).below hx)
         (first | with_reducible replace oF := oF.below hx | with_reducible replace oF := (oF.alloc _).below hx | with_reducible replace oF := ((oF.alloc _).alloc _).below hx | with_reducible replace oF := (oF.drewT).below hx | with_reducible replace oF := ((oF.alloc _).drewT).below hx)
         (first | with_reducible replace TF := TF.below hx | with_reducible replace TF := (TF.alloc _).below hx | with_reducible replace TF := (TF.drew).below hx)
         (first | with_reducible replace hb := hb.trans (hx.mono hb.size) | with_reducible replace hb := (ballocT hb _).trans (hx.mono (ballocT hb _).size) | with_reducible replace hb := (hb.trans ((drT _).mono hb.size)).trans (hx.mono (hb.trans ((drT _).mono hb.size)).size))
         (try clear p0 p1 p2 pa0 pa1 pa2)
         have p0 := oF.cell 0 _ rfl
         have p1 := oF.cell 1 _ rfl
         have p2 := oF.cell 2 _ rfl
         have pa0 := fun o => (oF.alloc o).cell 0 _ rfl
         have pa1 := fun o => (oF.alloc o).cell 1 _ rfl
         have pa2 := fun o => (oF.alloc o).cell 2 _ rfl
         clear hx)
      | (go_at_call 20
         have mk := sy1
         clear mk
         refine (node10_any _ _ _ _ _).mono ?_
         rintro e y3 ⟨rfl, hx⟩
         have sy3 := hx.size
         try simp only [World.size_alloc, drew_sizeT] at sy3
         (first | with_reducible have o3 := (own_newL _ [.int .i64 11, .int .i64 0, .slice (some ⟨bF, 0, none⟩) 2 2, .int .i64 1, .int .i64 1, .slice none 0 0, .int .i64 1, .int .i64 2, .slice none 0 0] 24).below hx | with_reducible have o3 := ((own_newL _ [.int .i64 11, .int .i64 0, .slice (some ⟨bF, 0, none⟩) 2 2, .int .i64 1, .int .i64 1, .slice none 0 0, .int .i64 1, .int .i64 2, .slice none 0 0] 24).alloc _).below hx)
         try simp only [World.size_alloc] at o3
         (first | with_reducible replace oP := oP.below hx | with_reducible replace oP := (oP.alloc _).below hx | with_reducible replace oP := ((oP.alloc _).alloc _).below hx | with_reducible replace oP := (oP.drewT).below hx | with_reducible replace oP := ((oP.alloc _).drewT).below hx)
         (first | with_reducible replace oF := oF.below hx | with_reducible replace oF := (oF.alloc _).below hx | with_reducible replace oF := ((oF.alloc _).alloc _).below hx | with_reducible replace oF := (oF.drewT).below hx | with_reducible replace oF := ((oF.alloc _).drewT).below hx)
         (first | with_reducible replace TF := TF.below hx | with_reducible replace TF := (TF.alloc _).below hx | with_reducible replace TF := (TF.drew).below hx)
         (first | with_reducible replace hb := hb.trans (hx.mono hb.size) | with_reducible replace hb := (ballocT hb _).trans (hx.mono (ballocT hb _).size) | with_reducible replace hb := (hb.trans ((drT _).mono hb.size)).trans (hx.mono (hb.trans ((drT _).mono hb.size)).size))
         (try clear p0 p1 p2 pa0 pa1 pa2)
         have p0 := oF.cell 0 _ rfl
         have p1 := oF.cell 1 _ rfl
         have p2 := oF.cell 2 _ rfl
         have pa0 := fun o => (oF.alloc o).cell 0 _ rfl
         have pa1 := fun o => (oF.alloc o).cell 1 _ rfl
         have pa2 := fun o => (oF.alloc o).cell 2 _ rfl
         have TI := tree_three (Q := (fun _ => False)) (o := 10) (x := fiveE) (y := leafE 1 1) (z := leafE 1 2) (fun h => h) o3 TF (tree_leaf _ _ 1 1 none 0) (tree_leaf _ _ 1 2 none 0) 3
         clear hx)
      | (go_at_call 19
         have mk := sy1
         clear mk
         refine (leaf10_any _ _ _).mono ?_
         rintro e y2 ⟨rfl, hx⟩
         have sy2 := hx.size
         try simp only [World.size_alloc, drew_sizeT] at sy2
         (first | with_reducible replace oP := oP.below hx | with_reducible replace oP := (oP.alloc _).below hx | with_reducible replace oP := ((oP.alloc _).alloc _).below hx | with_reducible replace oP := (oP.drewT).below hx | with_reducible replace oP := ((oP.alloc _).drewT).below hx)
         (first | with_reducible replace oF := oF.below hx | with_reducible replace oF := (oF.alloc _).below hx | with_reducible replace oF := ((oF.alloc _).alloc _).below hx | with_reducible replace oF := (oF.drewT).below hx | with_reducible replace oF := ((oF.alloc _).drewT).below hx)
         (first | with_reducible replace TF := TF.below hx | with_reducible replace TF := (TF.alloc _).below hx | with_reducible replace TF := (TF.drew).below hx)
         (first | with_reducible replace hb := hb.trans (hx.mono hb.size) | with_reducible replace hb := (ballocT hb _).trans (hx.mono (ballocT hb _).size) | with_reducible replace hb := (hb.trans ((drT _).mono hb.size)).trans (hx.mono (hb.trans ((drT _).mono hb.size)).size))
         (try clear p0 p1 p2 pa0 pa1 pa2)
         have p0 := oF.cell 0 _ rfl
         have p1 := oF.cell 1 _ rfl
         have p2 := oF.cell 2 _ rfl
         have pa0 := fun o => (oF.alloc o).cell 0 _ rfl
         have pa1 := fun o => (oF.alloc o).cell 1 _ rfl
         have pa2 := fun o => (oF.alloc o).cell 2 _ rfl
         clear hx)
      | (go_at_call 19
         refine (leaf10_any _ _ _).mono ?_
         rintro e y1 ⟨rfl, hx⟩
         have sy1 := hx.size
         try simp only [World.size_alloc, drew_sizeT] at sy1
         (first | with_reducible replace oP := oP.below hx | with_reducible replace oP := (oP.alloc _).below hx | with_reducible replace oP := ((oP.alloc _).alloc _).below hx | with_reducible replace oP := (oP.drewT).below hx | with_reducible replace oP := ((oP.alloc _).drewT).below hx)
         (first | with_reducible replace oF := oF.below hx | with_reducible replace oF := (oF.alloc _).below hx | with_reducible replace oF := ((oF.alloc _).alloc _).below hx | with_reducible replace oF := (oF.drewT).below hx | with_reducible replace oF := ((oF.alloc _).drewT).below hx)
         (first | with_reducible replace TF := TF.below hx | with_reducible replace TF := (TF.alloc _).below hx | with_reducible replace TF := (TF.drew).below hx)
         (first | with_reducible replace hb := hb.trans (hx.mono hb.size) | with_reducible replace hb := (ballocT hb _).trans (hx.mono (ballocT hb _).size) | with_reducible replace hb := (hb.trans ((drT _).mono hb.size)).trans (hx.mono (hb.trans ((drT _).mono hb.size)).size))
         (try clear p0 p1 p2 pa0 pa1 pa2)
         have p0 := oF.cell 0 _ rfl
         have p1 := oF.cell 1 _ rfl
         have p2 := oF.cell 2 _ rfl
         have pa0 := fun o => (oF.alloc o).cell 0 _ rfl
         have pa1 := fun o => (oF.alloc o).cell 1 _ rfl
         have pa2 := fun o => (oF.alloc o).cell 2 _ rfl
         clear hx))
    clear TI o3 oF TF p0 p1 p2 pa0 pa1 pa2 pd0 pd1 pd2
    go_wp2_with fail
    refine (leaf10_any 2 100 _).mono ?_
    rintro e wf ⟨rfl, hx⟩
    replace oP := oP.below hx
    replace hb := hb.trans (hx.mono hb.size)
    clear hx
    go_upto_region 8 with (fail)
    obtain ⟨V, hV⟩ : ∃ V, V = wf.alloc (.cells #[.int .i64 2, .int .i64 100, .slice none 0 0] 24) := ⟨_, rfl⟩
    have oO := own_newL wf [.int .i64 2, .int .i64 100, .slice none 0 0] 24
    replace oP := oP.alloc (.cells #[.int .i64 2, .int .i64 100, .slice none 0 0] 24)
    replace hb := ballocT hb (.cells #[.int .i64 2, .int .i64 100, .slice none 0 0] 24)
    rw [← hV] at oO oP hb
    rw [← hV]
    clear hV
    generalize wf.heap.size = bO at *
    go_cut [10, 91, 92, 93] (fun s10 s91 s92 s93 wx => s10 = .bool true ∧ s92 = .int .i64 4 ∧ s93 = .int .i64 0 ∧ ∃ b b1 b2 b3 b4, s91 = .slice (some ⟨b, 0, none⟩) 4 4 ∧ Own wx b [.int .i64 4, .int .i64 0, .slice (some ⟨b1, 0, none⟩) 2 2, .int .i64 6, .int .i64 0, .slice (some ⟨b2, 0, none⟩) 2 2, .int .i64 15, .int .i64 0, .slice (some ⟨b3, 0, none⟩) 1 1, .int .i64 7, .int .i64 0, .slice (some ⟨b4, 0, none⟩) 2 2] ∧ Own wx b1 [.int .i64 2, .int .i64 100, .slice none 0 0, .int .i64 3, .int .i64 2, .slice none 0 0] ∧ Own wx b2 [.int .i64 2, .int .i64 100, .slice none 0 0, .int .i64 2, .int .i64 100, .slice none 0 0] ∧ Own wx b3 [.int .i64 1, .int .i64 1, .slice none 0 0] ∧ Own wx b4 [.int .i64 1, .int .i64 1, .slice none 0 0, .int .i64 2, .int .i64 100, .slice none 0 0] ∧ Below V.heap.size V wx)
    case first =>
      have hk : Below V.heap.size V V := Below.refl _ _
      have pd0 := (oP.drewT).cell 0 _ rfl
      have pe0 := fun o => ((oP.alloc o).drewT).cell 0 _ rfl
      have pf0 := fun o o2 => (((oP.alloc o).alloc o2).drewT).cell 0 _ rfl
      have od0 := (oO.drewT).cell 0 _ rfl
      have oe0 := fun o => ((oO.alloc o).drewT).cell 0 _ rfl
      have of0 := fun o o2 => (((oO.alloc o).alloc o2).drewT).cell 0 _ rfl
      have pd1 := (oP.drewT).cell 1 _ rfl
      have pe1 := fun o => ((oP.alloc o).drewT).cell 1 _ rfl
      have pf1 := fun o o2 => (((oP.alloc o).alloc o2).drewT).cell 1 _ rfl
      have od1 := (oO.drewT).cell 1 _ rfl
      have oe1 := fun o => ((oO.alloc o).drewT).cell 1 _ rfl
      have of1 := fun o o2 => (((oO.alloc o).alloc o2).drewT).cell 1 _ rfl
      have pd2 := (oP.drewT).cell 2 _ rfl
      have pe2 := fun o => ((oP.alloc o).drewT).cell 2 _ rfl
      have pf2 := fun o o2 => (((oP.alloc o).alloc o2).drewT).cell 2 _ rfl
      have od2 := (oO.drewT).cell 2 _ rfl
      have oe2 := fun o => ((oO.alloc o).drewT).cell 2 _ rfl
      have of2 := fun o o2 => (((oO.alloc o).alloc o2).drewT).cell 2 _ rfl
      go_region_held3 (fun w' => w'.cell? ⟨bP, 0, none⟩ = some (.int .i64 3) ∧ w'.cell? ⟨bP, 1, none⟩ = some (.int .i64 2) ∧ w'.cell? ⟨bP, 2, none⟩ = some (.slice none 0 0) ∧ w'.cell? ⟨bO, 0, none⟩ = some (.int .i64 2) ∧ w'.cell? ⟨bO, 1, none⟩ = some (.int .i64 100) ∧ w'.cell? ⟨bO, 2, none⟩ = some (.slice none 0 0)) (first | with_reducible exact ⟨p0, p1, p2, q0, q1, q2⟩ | with_reducible exact ⟨pa0 _, pa1 _, pa2 _, qa0 _, qa1 _, qa2 _⟩ | with_reducible exact ⟨paa0 _ _, paa1 _ _, paa2 _ _, qaa0 _ _, qaa1 _ _, qaa2 _ _⟩ | with_reducible exact ⟨pd0, pd1, pd2, od0, od1, od2⟩ | with_reducible exact ⟨pe0 _, pe1 _, pe2 _, oe0 _, oe1 _, oe2 _⟩ | with_reducible exact ⟨pf0 _ _, pf1 _ _, pf2 _ _, of0 _ _, of1 _ _, of2 _ _⟩ | fail) (first
        | (go_at_call 20
           have mk := sz5
           clear mk
           refine (node10_any 7 _ _ _ _).mono ?_
           rintro e z6 ⟨rfl, hx⟩
           have sz6 := hx.size
           try simp only [World.size_alloc, drew_sizeT] at sz6
           (first | with_reducible replace o1 := o1.below hx | with_reducible replace o1 := (o1.alloc _).below hx | with_reducible replace o1 := ((o1.alloc _).alloc _).below hx | with_reducible replace o1 := (o1.drewT).below hx | with_reducible replace o1 := ((o1.alloc _).drewT).below hx | with_reducible replace o1 := (((o1.alloc _).alloc _).drewT).below hx | skip)
           (first | with_reducible replace o2 := o2.below hx | with_reducible replace o2 := (o2.alloc _).below hx | with_reducible replace o2 := ((o2.alloc _).alloc _).below hx | with_reducible replace o2 := (o2.drewT).below hx | with_reducible replace o2 := ((o2.alloc _).drewT).below hx | with_reducible replace o2 := (((o2.alloc _).alloc _).drewT).below hx | skip)
           (first | with_reducible replace o3 := o3.below hx | with_reducible replace o3 := (o3.alloc _).below hx | with_reducible replace o3 := ((o3.alloc _).alloc _).below hx | with_reducible replace o3 := (o3.drewT).below hx | with_reducible replace o3 := ((o3.alloc _).drewT).below hx | with_reducible replace o3 := (((o3.alloc _).alloc _).drewT).below hx | skip)
           (first | with_reducible have o4 := (own_newL _ [.int .i64 1, .int .i64 1, .slice none 0 0, .int .i64 2, .int .i64 100, .slice none 0 0] 24).below hx | with_reducible have o4 := ((own_newL _ [.int .i64 1, .int .i64 1, .slice none 0 0, .int .i64 2, .int .i64 100, .slice none 0 0] 24).alloc _).below hx | with_reducible have o4 := ((own_newL _ [.int .i64 1, .int .i64 1, .slice none 0 0, .int .i64 2, .int .i64 100, .slice none 0 0] 24).drewT).below hx | with_reducible have o4 := (((own_newL _ [.int .i64 1, .int .i64 1, .slice none 0 0, .int .i64 2, .int .i64 100, .slice none 0 0] 24).alloc _).drewT).below hx)
           try simp only [World.size_alloc] at o1
           try simp only [World.size_alloc] at o2
           try simp only [World.size_alloc] at o3
           try simp only [World.size_alloc] at o4
           (first | with_reducible replace oP := oP.below hx | with_reducible replace oP := (oP.alloc _).below hx | with_reducible replace oP := ((oP.alloc _).alloc _).below hx | with_reducible replace oP := (oP.drewT).below hx | with_reducible replace oP := ((oP.alloc _).drewT).below hx | with_reducible replace oP := (((oP.alloc _).alloc _).drewT).below hx)
           (first | with_reducible replace oO := oO.below hx | with_reducible replace oO := (oO.alloc _).below hx | with_reducible replace oO := ((oO.alloc _).alloc _).below hx | with_reducible replace oO := (oO.drewT).below hx | with_reducible replace oO := ((oO.alloc _).drewT).below hx | with_reducible replace oO := (((oO.alloc _).alloc _).drewT).below hx)
           (first | with_reducible replace hk := hk.trans (hx.mono hk.size) | with_reducible replace hk := (ballocT hk _).trans (hx.mono (ballocT hk _).size) | with_reducible replace hk := (ballocT (ballocT hk _) _).trans (hx.mono (ballocT (ballocT hk _) _).size) | with_reducible replace hk := (hk.trans ((drT _).mono hk.size)).trans (hx.mono (hk.trans ((drT _).mono hk.size)).size) | with_reducible replace hk := ((ballocT hk _).trans ((drT _).mono (ballocT hk _).size)).trans (hx.mono ((ballocT hk _).trans ((drT _).mono (ballocT hk _).size)).size) | with_reducible replace hk := ((ballocT (ballocT hk _) _).trans ((drT _).mono (ballocT (ballocT hk _) _).size)).trans (hx.mono ((ballocT (ballocT hk _) _).trans ((drT _).mono (ballocT (ballocT hk _) _).size)).size))
           (try clear p0 p1 p2 pa0 pa1 pa2 paa0 paa1 paa2 q0 q1 q2 qa0 qa1 qa2 qaa0 qaa1 qaa2)
           have p0 := oP.cell 0 _ rfl
           have pa0 := fun o => (oP.alloc o).cell 0 _ rfl
           have paa0 := fun o o2 => ((oP.alloc o).alloc o2).cell 0 _ rfl
           have q0 := oO.cell 0 _ rfl
           have qa0 := fun o => (oO.alloc o).cell 0 _ rfl
           have qaa0 := fun o o2 => ((oO.alloc o).alloc o2).cell 0 _ rfl
           have p1 := oP.cell 1 _ rfl
           have pa1 := fun o => (oP.alloc o).cell 1 _ rfl
           have paa1 := fun o o2 => ((oP.alloc o).alloc o2).cell 1 _ rfl
           have q1 := oO.cell 1 _ rfl
           have qa1 := fun o => (oO.alloc o).cell 1 _ rfl
           have qaa1 := fun o o2 => ((oO.alloc o).alloc o2).cell 1 _ rfl
           have p2 := oP.cell 2 _ rfl
           have pa2 := fun o => (oP.alloc o).cell 2 _ rfl
           have paa2 := fun o o2 => ((oP.alloc o).alloc o2).cell 2 _ rfl
           have q2 := oO.cell 2 _ rfl
           have qa2 := fun o => (oO.alloc o).cell 2 _ rfl
           have qaa2 := fun o o2 => ((oO.alloc o).alloc o2).cell 2 _ rfl
           clear hx)
        | (go_at_call 19
           have mk := sz4
           clear mk
           refine (leaf10_any _ _ _).mono ?_
           rintro e z5 ⟨rfl, hx⟩
           have sz5 := hx.size
           try simp only [World.size_alloc, drew_sizeT] at sz5
           (first | with_reducible replace o1 := o1.below hx | with_reducible replace o1 := (o1.alloc _).below hx | with_reducible replace o1 := ((o1.alloc _).alloc _).below hx | with_reducible replace o1 := (o1.drewT).below hx | with_reducible replace o1 := ((o1.alloc _).drewT).below hx | with_reducible replace o1 := (((o1.alloc _).alloc _).drewT).below hx | skip)
           (first | with_reducible replace o2 := o2.below hx | with_reducible replace o2 := (o2.alloc _).below hx | with_reducible replace o2 := ((o2.alloc _).alloc _).below hx | with_reducible replace o2 := (o2.drewT).below hx | with_reducible replace o2 := ((o2.alloc _).drewT).below hx | with_reducible replace o2 := (((o2.alloc _).alloc _).drewT).below hx | skip)
           (first | with_reducible replace o3 := o3.below hx | with_reducible replace o3 := (o3.alloc _).below hx | with_reducible replace o3 := ((o3.alloc _).alloc _).below hx | with_reducible replace o3 := (o3.drewT).below hx | with_reducible replace o3 := ((o3.alloc _).drewT).below hx | with_reducible replace o3 := (((o3.alloc _).alloc _).drewT).below hx | skip)
           try simp only [World.size_alloc] at o1
           try simp only [World.size_alloc] at o2
           try simp only [World.size_alloc] at o3
           try simp only [World.size_alloc] at o4
           (first | with_reducible replace oP := oP.below hx | with_reducible replace oP := (oP.alloc _).below hx | with_reducible replace oP := ((oP.alloc _).alloc _).below hx | with_reducible replace oP := (oP.drewT).below hx | with_reducible replace oP := ((oP.alloc _).drewT).below hx | with_reducible replace oP := (((oP.alloc _).alloc _).drewT).below hx)
           (first | with_reducible replace oO := oO.below hx | with_reducible replace oO := (oO.alloc _).below hx | with_reducible replace oO := ((oO.alloc _).alloc _).below hx | with_reducible replace oO := (oO.drewT).below hx | with_reducible replace oO := ((oO.alloc _).drewT).below hx | with_reducible replace oO := (((oO.alloc _).alloc _).drewT).below hx)
           (first | with_reducible replace hk := hk.trans (hx.mono hk.size) | with_reducible replace hk := (ballocT hk _).trans (hx.mono (ballocT hk _).size) | with_reducible replace hk := (ballocT (ballocT hk _) _).trans (hx.mono (ballocT (ballocT hk _) _).size) | with_reducible replace hk := (hk.trans ((drT _).mono hk.size)).trans (hx.mono (hk.trans ((drT _).mono hk.size)).size) | with_reducible replace hk := ((ballocT hk _).trans ((drT _).mono (ballocT hk _).size)).trans (hx.mono ((ballocT hk _).trans ((drT _).mono (ballocT hk _).size)).size) | with_reducible replace hk := ((ballocT (ballocT hk _) _).trans ((drT _).mono (ballocT (ballocT hk _) _).size)).trans (hx.mono ((ballocT (ballocT hk _) _).trans ((drT _).mono (ballocT (ballocT hk _) _).size)).size))
           (try clear p0 p1 p2 pa0 pa1 pa2 paa0 paa1 paa2 q0 q1 q2 qa0 qa1 qa2 qaa0 qaa1 qaa2)
           have p0 := oP.cell 0 _ rfl
           have pa0 := fun o => (oP.alloc o).cell 0 _ rfl
           have paa0 := fun o o2 => ((oP.alloc o).alloc o2).cell 0 _ rfl
           have q0 := oO.cell 0 _ rfl
           have qa0 := fun o => (oO.alloc o).cell 0 _ rfl
           have qaa0 := fun o o2 => ((oO.alloc o).alloc o2).cell 0 _ rfl
           have p1 := oP.cell 1 _ rfl
           have pa1 := fun o => (oP.alloc o).cell 1 _ rfl
           have paa1 := fun o o2 => ((oP.alloc o).alloc o2).cell 1 _ rfl
           have q1 := oO.cell 1 _ rfl
           have qa1 := fun o => (oO.alloc o).cell 1 _ rfl
           have qaa1 := fun o o2 => ((oO.alloc o).alloc o2).cell 1 _ rfl
           have p2 := oP.cell 2 _ rfl
           have pa2 := fun o => (oP.alloc o).cell 2 _ rfl
           have paa2 := fun o o2 => ((oP.alloc o).alloc o2).cell 2 _ rfl
           have q2 := oO.cell 2 _ rfl
           have qa2 := fun o => (oO.alloc o).cell 2 _ rfl
           have qaa2 := fun o o2 => ((oO.alloc o).alloc o2).cell 2 _ rfl
           clear hx)
        | (go_at_call 20
           have mk := sz3
           clear mk
           refine (node10_any 15 _ _ _ _).mono ?_
           rintro e z4 ⟨rfl, hx⟩
           have sz4 := hx.size
           try simp only [World.size_alloc, drew_sizeT] at sz4
           (first | with_reducible replace o1 := o1.below hx | with_reducible replace o1 := (o1.alloc _).below hx | with_reducible replace o1 := ((o1.alloc _).alloc _).below hx | with_reducible replace o1 := (o1.drewT).below hx | with_reducible replace o1 := ((o1.alloc _).drewT).below hx | with_reducible replace o1 := (((o1.alloc _).alloc _).drewT).below hx | skip)
           (first | with_reducible replace o2 := o2.below hx | with_reducible replace o2 := (o2.alloc _).below hx | with_reducible replace o2 := ((o2.alloc _).alloc _).below hx | with_reducible replace o2 := (o2.drewT).below hx | with_reducible replace o2 := ((o2.alloc _).drewT).below hx | with_reducible replace o2 := (((o2.alloc _).alloc _).drewT).below hx | skip)
           (first | with_reducible have o3 := (own_newL _ [.int .i64 1, .int .i64 1, .slice none 0 0] 24).below hx | with_reducible have o3 := ((own_newL _ [.int .i64 1, .int .i64 1, .slice none 0 0] 24).alloc _).below hx | with_reducible have o3 := ((own_newL _ [.int .i64 1, .int .i64 1, .slice none 0 0] 24).drewT).below hx | with_reducible have o3 := (((own_newL _ [.int .i64 1, .int .i64 1, .slice none 0 0] 24).alloc _).drewT).below hx)
           try simp only [World.size_alloc] at o1
           try simp only [World.size_alloc] at o2
           try simp only [World.size_alloc] at o3
           try simp only [World.size_alloc] at o4
           (first | with_reducible replace oP := oP.below hx | with_reducible replace oP := (oP.alloc _).below hx | with_reducible replace oP := ((oP.alloc _).alloc _).below hx | with_reducible replace oP := (oP.drewT).below hx | with_reducible replace oP := ((oP.alloc _).drewT).below hx | with_reducible replace oP := (((oP.alloc _).alloc _).drewT).below hx)
           (first | with_reducible replace oO := oO.below hx | with_reducible replace oO := (oO.alloc _).below hx | with_reducible replace oO := ((oO.alloc _).alloc _).below hx | with_reducible replace oO := (oO.drewT).below hx | with_reducible replace oO := ((oO.alloc _).drewT).below hx | with_reducible replace oO := (((oO.alloc _).alloc _).drewT).below hx)
           (first | with_reducible replace hk := hk.trans (hx.mono hk.size) | with_reducible replace hk := (ballocT hk _).trans (hx.mono (ballocT hk _).size) | with_reducible replace hk := (ballocT (ballocT hk _) _).trans (hx.mono (ballocT (ballocT hk _) _).size) | with_reducible replace hk := (hk.trans ((drT _).mono hk.size)).trans (hx.mono (hk.trans ((drT _).mono hk.size)).size) | with_reducible replace hk := ((ballocT hk _).trans ((drT _).mono (ballocT hk _).size)).trans (hx.mono ((ballocT hk _).trans ((drT _).mono (ballocT hk _).size)).size) | with_reducible replace hk := ((ballocT (ballocT hk _) _).trans ((drT _).mono (ballocT (ballocT hk _) _).size)).trans (hx.mono ((ballocT (ballocT hk _) _).trans ((drT _).mono (ballocT (ballocT hk _) _).size)).size))
           (try clear p0 p1 p2 pa0 pa1 pa2 paa0 paa1 paa2 q0 q1 q2 qa0 qa1 qa2 qaa0 qaa1 qaa2)
           have p0 := oP.cell 0 _ rfl
           have pa0 := fun o => (oP.alloc o).cell 0 _ rfl
           have paa0 := fun o o2 => ((oP.alloc o).alloc o2).cell 0 _ rfl
           have q0 := oO.cell 0 _ rfl
           have qa0 := fun o => (oO.alloc o).cell 0 _ rfl
           have qaa0 := fun o o2 => ((oO.alloc o).alloc o2).cell 0 _ rfl
           have p1 := oP.cell 1 _ rfl
           have pa1 := fun o => (oP.alloc o).cell 1 _ rfl
           have paa1 := fun o o2 => ((oP.alloc o).alloc o2).cell 1 _ rfl
           have q1 := oO.cell 1 _ rfl
           have qa1 := fun o => (oO.alloc o).cell 1 _ rfl
           have qaa1 := fun o o2 => ((oO.alloc o).alloc o2).cell 1 _ rfl
           have p2 := oP.cell 2 _ rfl
           have pa2 := fun o => (oP.alloc o).cell 2 _ rfl
           have paa2 := fun o o2 => ((oP.alloc o).alloc o2).cell 2 _ rfl
           have q2 := oO.cell 2 _ rfl
           have qa2 := fun o => (oO.alloc o).cell 2 _ rfl
           have qaa2 := fun o o2 => ((oO.alloc o).alloc o2).cell 2 _ rfl
           clear hx)
        | (go_at_call 19
           have mk := sz2
           clear mk
           refine (leaf10_any _ _ _).mono ?_
           rintro e z3 ⟨rfl, hx⟩
           have sz3 := hx.size
           try simp only [World.size_alloc, drew_sizeT] at sz3
           (first | with_reducible replace o1 := o1.below hx | with_reducible replace o1 := (o1.alloc _).below hx | with_reducible replace o1 := ((o1.alloc _).alloc _).below hx | with_reducible replace o1 := (o1.drewT).below hx | with_reducible replace o1 := ((o1.alloc _).drewT).below hx | with_reducible replace o1 := (((o1.alloc _).alloc _).drewT).below hx | skip)
           (first | with_reducible replace o2 := o2.below hx | with_reducible replace o2 := (o2.alloc _).below hx | with_reducible replace o2 := ((o2.alloc _).alloc _).below hx | with_reducible replace o2 := (o2.drewT).below hx | with_reducible replace o2 := ((o2.alloc _).drewT).below hx | with_reducible replace o2 := (((o2.alloc _).alloc _).drewT).below hx | skip)
           try simp only [World.size_alloc] at o1
           try simp only [World.size_alloc] at o2
           try simp only [World.size_alloc] at o3
           try simp only [World.size_alloc] at o4
           (first | with_reducible replace oP := oP.below hx | with_reducible replace oP := (oP.alloc _).below hx | with_reducible replace oP := ((oP.alloc _).alloc _).below hx | with_reducible replace oP := (oP.drewT).below hx | with_reducible replace oP := ((oP.alloc _).drewT).below hx | with_reducible replace oP := (((oP.alloc _).alloc _).drewT).below hx)
           (first | with_reducible replace oO := oO.below hx | with_reducible replace oO := (oO.alloc _).below hx | with_reducible replace oO := ((oO.alloc _).alloc _).below hx | with_reducible replace oO := (oO.drewT).below hx | with_reducible replace oO := ((oO.alloc _).drewT).below hx | with_reducible replace oO := (((oO.alloc _).alloc _).drewT).below hx)
           (first | with_reducible replace hk := hk.trans (hx.mono hk.size) | with_reducible replace hk := (ballocT hk _).trans (hx.mono (ballocT hk _).size) | with_reducible replace hk := (ballocT (ballocT hk _) _).trans (hx.mono (ballocT (ballocT hk _) _).size) | with_reducible replace hk := (hk.trans ((drT _).mono hk.size)).trans (hx.mono (hk.trans ((drT _).mono hk.size)).size) | with_reducible replace hk := ((ballocT hk _).trans ((drT _).mono (ballocT hk _).size)).trans (hx.mono ((ballocT hk _).trans ((drT _).mono (ballocT hk _).size)).size) | with_reducible replace hk := ((ballocT (ballocT hk _) _).trans ((drT _).mono (ballocT (ballocT hk _) _).size)).trans (hx.mono ((ballocT (ballocT hk _) _).trans ((drT _).mono (ballocT (ballocT hk _) _).size)).size))
           (try clear p0 p1 p2 pa0 pa1 pa2 paa0 paa1 paa2 q0 q1 q2 qa0 qa1 qa2 qaa0 qaa1 qaa2)
           have p0 := oP.cell 0 _ rfl
           have pa0 := fun o => (oP.alloc o).cell 0 _ rfl
           have paa0 := fun o o2 => ((oP.alloc o).alloc o2).cell 0 _ rfl
           have q0 := oO.cell 0 _ rfl
           have qa0 := fun o => (oO.alloc o).cell 0 _ rfl
           have qaa0 := fun o o2 => ((oO.alloc o).alloc o2).cell 0 _ rfl
           have p1 := oP.cell 1 _ rfl
           have pa1 := fun o => (oP.alloc o).cell 1 _ rfl
           have paa1 := fun o o2 => ((oP.alloc o).alloc o2).cell 1 _ rfl
           have q1 := oO.cell 1 _ rfl
           have qa1 := fun o => (oO.alloc o).cell 1 _ rfl
           have qaa1 := fun o o2 => ((oO.alloc o).alloc o2).cell 1 _ rfl
           have p2 := oP.cell 2 _ rfl
           have pa2 := fun o => (oP.alloc o).cell 2 _ rfl
           have paa2 := fun o o2 => ((oP.alloc o).alloc o2).cell 2 _ rfl
           have q2 := oO.cell 2 _ rfl
           have qa2 := fun o => (oO.alloc o).cell 2 _ rfl
           have qaa2 := fun o o2 => ((oO.alloc o).alloc o2).cell 2 _ rfl
           clear hx)
        | (go_at_call 20
           have mk := sz1
           clear mk
           refine (node10_any 6 _ _ _ _).mono ?_
           rintro e z2 ⟨rfl, hx⟩
           have sz2 := hx.size
           try simp only [World.size_alloc, drew_sizeT] at sz2
           (first | with_reducible replace o1 := o1.below hx | with_reducible replace o1 := (o1.alloc _).below hx | with_reducible replace o1 := ((o1.alloc _).alloc _).below hx | with_reducible replace o1 := (o1.drewT).below hx | with_reducible replace o1 := ((o1.alloc _).drewT).below hx | with_reducible replace o1 := (((o1.alloc _).alloc _).drewT).below hx | skip)
           (first | with_reducible replace o2 := o2.below hx | with_reducible replace o2 := (o2.alloc _).below hx | with_reducible replace o2 := ((o2.alloc _).alloc _).below hx | with_reducible replace o2 := (o2.drewT).below hx | with_reducible replace o2 := ((o2.alloc _).drewT).below hx | with_reducible replace o2 := (((o2.alloc _).alloc _).drewT).below hx | skip)
           (first | with_reducible have o2 := (own_newL _ [.int .i64 2, .int .i64 100, .slice none 0 0, .int .i64 2, .int .i64 100, .slice none 0 0] 24).below hx | with_reducible have o2 := ((own_newL _ [.int .i64 2, .int .i64 100, .slice none 0 0, .int .i64 2, .int .i64 100, .slice none 0 0] 24).alloc _).below hx | with_reducible have o2 := ((own_newL _ [.int .i64 2, .int .i64 100, .slice none 0 0, .int .i64 2, .int .i64 100, .slice none 0 0] 24).drewT).below hx | with_reducible have o2 := (((own_newL _ [.int .i64 2, .int .i64 100, .slice none 0 0, .int .i64 2, .int .i64 100, .slice none 0 0] 24).alloc _).drewT).below hx | skip)
           try simp only [World.size_alloc] at o1
           try simp only [World.size_alloc] at o2
           try simp only [World.size_alloc] at o3
           try simp only [World.size_alloc] at o4
           (first | with_reducible replace oP := oP.below hx | with_reducible replace oP := (oP.alloc _).below hx | with_reducible replace oP := ((oP.alloc _).alloc _).below hx | with_reducible replace oP := (oP.drewT).below hx | with_reducible replace oP := ((oP.alloc _).drewT).below hx | with_reducible replace oP := (((oP.alloc _).alloc _).drewT).below hx)
           (first | with_reducible replace oO := oO.below hx | with_reducible replace oO := (oO.alloc _).below hx | with_reducible replace oO := ((oO.alloc _).alloc _).below hx | with_reducible replace oO := (oO.drewT).below hx | with_reducible replace oO := ((oO.alloc _).drewT).below hx | with_reducible replace oO := (((oO.alloc _).alloc _).drewT).below hx)
           (first | with_reducible replace hk := hk.trans (hx.mono hk.size) | with_reducible replace hk := (ballocT hk _).trans (hx.mono (ballocT hk _).size) | with_reducible replace hk := (ballocT (ballocT hk _) _).trans (hx.mono (ballocT (ballocT hk _) _).size) | with_reducible replace hk := (hk.trans ((drT _).mono hk.size)).trans (hx.mono (hk.trans ((drT _).mono hk.size)).size) | with_reducible replace hk := ((ballocT hk _).trans ((drT _).mono (ballocT hk _).size)).trans (hx.mono ((ballocT hk _).trans ((drT _).mono (ballocT hk _).size)).size) | with_reducible replace hk := ((ballocT (ballocT hk _) _).trans ((drT _).mono (ballocT (ballocT hk _) _).size)).trans (hx.mono ((ballocT (ballocT hk _) _).trans ((drT _).mono (ballocT (ballocT hk _) _).size)).size))
           (try clear p0 p1 p2 pa0 pa1 pa2 paa0 paa1 paa2 q0 q1 q2 qa0 qa1 qa2 qaa0 qaa1 qaa2)
           have p0 := oP.cell 0 _ rfl
           have pa0 := fun o => (oP.alloc o).cell 0 _ rfl
           have paa0 := fun o o2 => ((oP.alloc o).alloc o2).cell 0 _ rfl
           have q0 := oO.cell 0 _ rfl
           have qa0 := fun o => (oO.alloc o).cell 0 _ rfl
           have qaa0 := fun o o2 => ((oO.alloc o).alloc o2).cell 0 _ rfl
           have p1 := oP.cell 1 _ rfl
           have pa1 := fun o => (oP.alloc o).cell 1 _ rfl
           have paa1 := fun o o2 => ((oP.alloc o).alloc o2).cell 1 _ rfl
           have q1 := oO.cell 1 _ rfl
           have qa1 := fun o => (oO.alloc o).cell 1 _ rfl
           have qaa1 := fun o o2 => ((oO.alloc o).alloc o2).cell 1 _ rfl
           have p2 := oP.cell 2 _ rfl
           have pa2 := fun o => (oP.alloc o).cell 2 _ rfl
           have paa2 := fun o o2 => ((oP.alloc o).alloc o2).cell 2 _ rfl
           have q2 := oO.cell 2 _ rfl
           have qa2 := fun o => (oO.alloc o).cell 2 _ rfl
           have qaa2 := fun o o2 => ((oO.alloc o).alloc o2).cell 2 _ rfl
           clear hx)
        | (go_at_call 20
           refine (node10_any 4 _ _ _ _).mono ?_
           rintro e z1 ⟨rfl, hx⟩
           have sz1 := hx.size
           try simp only [World.size_alloc, drew_sizeT] at sz1
           (first | with_reducible have o1 := (own_newL _ [.int .i64 2, .int .i64 100, .slice none 0 0, .int .i64 3, .int .i64 2, .slice none 0 0] 24).below hx | with_reducible have o1 := ((own_newL _ [.int .i64 2, .int .i64 100, .slice none 0 0, .int .i64 3, .int .i64 2, .slice none 0 0] 24).alloc _).below hx | with_reducible have o1 := ((own_newL _ [.int .i64 2, .int .i64 100, .slice none 0 0, .int .i64 3, .int .i64 2, .slice none 0 0] 24).drewT).below hx | with_reducible have o1 := (((own_newL _ [.int .i64 2, .int .i64 100, .slice none 0 0, .int .i64 3, .int .i64 2, .slice none 0 0] 24).alloc _).drewT).below hx)
           (first | with_reducible have o2 := (own_newL _ [.int .i64 2, .int .i64 100, .slice none 0 0, .int .i64 2, .int .i64 100, .slice none 0 0] 24).below hx | with_reducible have o2 := ((own_newL _ [.int .i64 2, .int .i64 100, .slice none 0 0, .int .i64 2, .int .i64 100, .slice none 0 0] 24).alloc _).below hx | with_reducible have o2 := ((own_newL _ [.int .i64 2, .int .i64 100, .slice none 0 0, .int .i64 2, .int .i64 100, .slice none 0 0] 24).drewT).below hx | with_reducible have o2 := (((own_newL _ [.int .i64 2, .int .i64 100, .slice none 0 0, .int .i64 2, .int .i64 100, .slice none 0 0] 24).alloc _).drewT).below hx | skip)
           try simp only [World.size_alloc] at o1
           try simp only [World.size_alloc] at o2
           try simp only [World.size_alloc] at o3
           try simp only [World.size_alloc] at o4
           (first | with_reducible replace oP := oP.below hx | with_reducible replace oP := (oP.alloc _).below hx | with_reducible replace oP := ((oP.alloc _).alloc _).below hx | with_reducible replace oP := (oP.drewT).below hx | with_reducible replace oP := ((oP.alloc _).drewT).below hx | with_reducible replace oP := (((oP.alloc _).alloc _).drewT).below hx)
           (first | with_reducible replace oO := oO.below hx | with_reducible replace oO := (oO.alloc _).below hx | with_reducible replace oO := ((oO.alloc _).alloc _).below hx | with_reducible replace oO := (oO.drewT).below hx | with_reducible replace oO := ((oO.alloc _).drewT).below hx | with_reducible replace oO := (((oO.alloc _).alloc _).drewT).below hx)
           (first | with_reducible replace hk := hk.trans (hx.mono hk.size) | with_reducible replace hk := (ballocT hk _).trans (hx.mono (ballocT hk _).size) | with_reducible replace hk := (ballocT (ballocT hk _) _).trans (hx.mono (ballocT (ballocT hk _) _).size) | with_reducible replace hk := (hk.trans ((drT _).mono hk.size)).trans (hx.mono (hk.trans ((drT _).mono hk.size)).size) | with_reducible replace hk := ((ballocT hk _).trans ((drT _).mono (ballocT hk _).size)).trans (hx.mono ((ballocT hk _).trans ((drT _).mono (ballocT hk _).size)).size) | with_reducible replace hk := ((ballocT (ballocT hk _) _).trans ((drT _).mono (ballocT (ballocT hk _) _).size)).trans (hx.mono ((ballocT (ballocT hk _) _).trans ((drT _).mono (ballocT (ballocT hk _) _).size)).size))
           (try clear p0 p1 p2 pa0 pa1 pa2 paa0 paa1 paa2 q0 q1 q2 qa0 qa1 qa2 qaa0 qaa1 qaa2)
           have p0 := oP.cell 0 _ rfl
           have pa0 := fun o => (oP.alloc o).cell 0 _ rfl
           have paa0 := fun o o2 => ((oP.alloc o).alloc o2).cell 0 _ rfl
           have q0 := oO.cell 0 _ rfl
           have qa0 := fun o => (oO.alloc o).cell 0 _ rfl
           have qaa0 := fun o o2 => ((oO.alloc o).alloc o2).cell 0 _ rfl
           have p1 := oP.cell 1 _ rfl
           have pa1 := fun o => (oP.alloc o).cell 1 _ rfl
           have paa1 := fun o o2 => ((oP.alloc o).alloc o2).cell 1 _ rfl
           have q1 := oO.cell 1 _ rfl
           have qa1 := fun o => (oO.alloc o).cell 1 _ rfl
           have qaa1 := fun o o2 => ((oO.alloc o).alloc o2).cell 1 _ rfl
           have p2 := oP.cell 2 _ rfl
           have pa2 := fun o => (oP.alloc o).cell 2 _ rfl
           have paa2 := fun o o2 => ((oP.alloc o).alloc o2).cell 2 _ rfl
           have q2 := oO.cell 2 _ rfl
           have qa2 := fun o => (oO.alloc o).cell 2 _ rfl
           have qaa2 := fun o o2 => ((oO.alloc o).alloc o2).cell 2 _ rfl
           clear hx))
      all_goals (
        go_wp2_with fail
        go_meet
        with_reducible exact ⟨rfl, rfl, rfl, _, _, _, _, _, rfl, own_newL _ _ _, o1.alloc _, o2.alloc _, o3.alloc _, o4.alloc _, ballocT hk _⟩)
    case rest =>
      obtain ⟨rfl, rfl, rfl, b, b1, b2, b3, b4, rfl, o5, o1, o2, o3, o4, hx⟩ := hcut
      replace hb := hb.trans (hx.mono hb.size)
      clear hx oP oO
      have T1 := tree_two (Q := (fun _ => False)) (o := 4) (x := leafE 2 100) (y := leafE 3 2) (fun h => h) o1 (tree_leaf _ _ _ _ none 0) (tree_leaf _ _ _ _ none 0) 2
      have T2 := tree_two (Q := (fun _ => False)) (o := 6) (x := leafE 2 100) (y := leafE 2 100) (fun h => h) o2 (tree_leaf _ _ _ _ none 0) (tree_leaf _ _ _ _ none 0) 2
      have T4 := tree_two (Q := (fun _ => False)) (o := 7) (x := leafE 1 1) (y := leafE 2 100) (fun h => h) o4 (tree_leaf _ _ _ _ none 0) (tree_leaf _ _ _ _ none 0) 2
      have T3 := tree_one (Q := (fun _ => False)) (o := 15) (x := leafE 1 1) (fun h => h) o3 (tree_leaf _ _ 1 1 none 0) 1
      have TA := tree_node (Q := (fun _ => False)) (o := 0) (l := [x1E, x2E, x3E, x4E]) (vs := [(.int .i64 4, .int .i64 0, .slice (some ⟨b1, 0, none⟩) 2 2), (.int .i64 6, .int .i64 0, .slice (some ⟨b2, 0, none⟩) 2 2), (.int .i64 15, .int .i64 0, .slice (some ⟨b3, 0, none⟩) 1 1), (.int .i64 7, .int .i64 0, .slice (some ⟨b4, 0, none⟩) 2 2)]) (fun h => h) o5 rfl (by simp) (fun k h1 h2 => by
        match k, h1 with
        | 0, _ => exact T1
        | 1, _ => exact T2
        | 2, _ => exact T3
        | 3, _ => exact T4) 4 (by simp)
      clear T1 T2 T3 T4 o1 o2 o3 o4 o5
      have HBAD := Lib.hid inf_bad
      generalize hl : [x1E, x2E, x3E, x4E] = l at TA HBAD
      have hll : l.length = 4 := by rw [← hl]; rfl
      clear hl
      rw [hll] at TA
      obtain ⟨wx, rfl⟩ : ∃ wx, wx = wc := ⟨_, rfl⟩
      go_wp2_with fail
      go_loopw [10, 93] (fun up i wr => up = .bool true ∧ ∃ k : Nat, i = .int .i64 k ∧ k ≤ 4 ∧ Below wx.heap.size wx wr) (fun _ i _ => 4 - (intOf i).toNat)
      case atStart => exact ⟨rfl, 0, rfl, Nat.zero_le _, Below.refl _ _⟩
      case round =>
        obtain ⟨rfl, k, rfl, hk4, q⟩ := hrel
        by_cases hk : k < 4
        · have t1 := TA.below q
          obtain ⟨ad', cap', hv', -, ts⟩ := t1.shape
          simp only [nodeE, Xp.o, Xp.n, Xp.ks, Value.agg.injEq, Array.mk.injEq, List.cons.injEq, Value.slice.injEq, and_true, true_and] at hv' ts
          obtain ⟨rfl, -⟩ := hv'
          obtain ⟨a, ad2, cap2, ha, n0, n1, n2, tk, hab⟩ := ts.reads k (by omega)
          cases ha
          have hbad := HBAD.out l[k] (List.getElem_mem _)
          have hI := fun w2 (h : Below wr.heap.size wr w2) => inferV (tk.below h) hbad
          have hwk : IntKind.i64.wrap ((k : Int) + 1) = (k : Int) + 1 := IntWalk.i64_in _ (by omega)
          have hlt4 : decide ((k : Int) < 4) = true := by simp; omega
          clear t1 ts tk hbad
          simp only [xadd_zero0] at n0 n1 n2 hab
          generalize l[k] = x at *
          go_wp2_with fail
          refine (hI _ (by (repeat (first | exact Below.refl _ _ | assumption | refine Below.drew ?_ | refine below_drewN ?_ _ | refine Below.setCell ?_ (by first | omega | (simp <;> omega)) _ | refine Below.alloc ?_ (by first | omega | (simp <;> omega)) _)))).mono ?_
          rintro e w2 ⟨rfl, hx⟩
          have q2 : Below wx.heap.size wx w2 := q.trans ((Below.trans (by (repeat (first | exact Below.refl _ _ | assumption | refine Below.drew ?_ | refine below_drewN ?_ _ | refine Below.setCell ?_ (by first | omega | (simp <;> omega)) _ | refine Below.alloc ?_ (by first | omega | (simp <;> omega)) _))) (hx.mono (by simp)) : Below wr.heap.size wr w2).mono q.size)
          go_wp2_with fail
          go_roundw
          case rel => exact ⟨rfl, k + 1, by go_num, by omega, q2⟩
          case measure => simp [intOf]; omega
        · have hkE : k = 4 := by omega
          subst hkE
          replace hb := hb.trans (q.mono hb.size)
          clear q TA HBAD hll
          go_wp2_with fail
          refine (inferV (tree_leaf (fun _ => False) _ 0 0 none 0) inf_zero).mono ?_
          rintro e wg ⟨rfl, hx⟩
          replace hb := hb.trans (hx.mono hb.size)
          clear hx
          go_wp2_with fail
          refine (plain_any 7 _).mono ?_
          rintro e wh ⟨B1, rfl, T1, hx⟩
          replace hb := hb.trans (hx.mono hb.size)
          clear hx
          go_wp2_with fail
          refine (plain_rate B1 _ T1).mono ?_
          rintro e wi ⟨rfl, hx⟩
          replace hb := hb.trans (hx.mono hb.size)
          clear hx T1
          go_wp2_with fail
          refine (zero_rateT _).mono ?_
          rintro e wj ⟨rfl, hx⟩
          replace hb := hb.trans (hx.mono hb.size)
          clear hx
          go_wp2_with fail
          refine (plain_any 7 _).mono ?_
          rintro e wpA ⟨PA, rfl, T1, hx⟩
          replace hb := hb.trans (hx.mono hb.size)
          clear hx
          go_wp2_with fail
          refine (plain_any 8 _).mono ?_
          rintro e wqA ⟨QA, rfl, T2, hx⟩
          replace T1 := T1.below hx
          replace hb := hb.trans (hx.mono hb.size)
          clear hx
          have ov := own_newL wqA [.int .i64 7, .int .i64 0, .int .i64 1, .int .i64 0, .int .i64 9, .int .i64 1, .int .i64 3, .int .i64 127, .int .i64 1, .int .i64 2, .int .i64 12, .int .i64 0, .slice (some ⟨PA, 0, none⟩) 2 2, .int .i64 2, .int .i64 100, .slice none 0 0, .int .i64 8, .int .i64 0, .int .i64 1, .int .i64 0, .int .i64 9, .int .i64 1, .int .i64 3, .int .i64 127, .int .i64 1, .int .i64 2, .int .i64 12, .int .i64 0, .slice (some ⟨QA, 0, none⟩) 2 2, .int .i64 2, .int .i64 100, .slice none 0 0] 30
          go_wp2_with fail
          refine (valid_plain 7 8 true valid_two.1 _ PA QA _ ov (T1.alloc _) (T2.alloc _)).mono ?_
          rintro e wrA ⟨rfl, hx⟩
          replace hb := (ballocT hb _).trans (hx.mono (ballocT hb _).size)
          clear hx T1 T2 ov
          go_wp2_with fail
          refine (plain_any 7 _).mono ?_
          rintro e wpC ⟨PC, rfl, T1, hx⟩
          replace hb := hb.trans (hx.mono hb.size)
          clear hx
          go_wp2_with fail
          refine (plain_any 7 _).mono ?_
          rintro e wqC ⟨QC, rfl, T2, hx⟩
          replace T1 := T1.below hx
          replace hb := hb.trans (hx.mono hb.size)
          clear hx
          have ov := own_newL wqC [.int .i64 7, .int .i64 0, .int .i64 1, .int .i64 0, .int .i64 9, .int .i64 1, .int .i64 3, .int .i64 127, .int .i64 1, .int .i64 2, .int .i64 12, .int .i64 0, .slice (some ⟨PC, 0, none⟩) 2 2, .int .i64 2, .int .i64 100, .slice none 0 0, .int .i64 7, .int .i64 0, .int .i64 1, .int .i64 0, .int .i64 9, .int .i64 1, .int .i64 3, .int .i64 127, .int .i64 1, .int .i64 2, .int .i64 12, .int .i64 0, .slice (some ⟨QC, 0, none⟩) 2 2, .int .i64 2, .int .i64 100, .slice none 0 0] 30
          go_wp2_with fail
          refine (valid_plain 7 7 false valid_two.2 _ PC QC _ ov (T1.alloc _) (T2.alloc _)).mono ?_
          rintro e wrC ⟨rfl, hx⟩
          replace hb := (ballocT hb _).trans (hx.mono (ballocT hb _).size)
          clear hx T1 T2 ov
          go_wp2_with fail
          go_ret
          exact Ret.mk rfl hb
end Go.Proofs.Ytbkcpcjdpfndpaa
