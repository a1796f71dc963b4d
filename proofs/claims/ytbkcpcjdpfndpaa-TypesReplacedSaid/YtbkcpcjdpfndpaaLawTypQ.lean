/-
  The walk of TypesReplaced.
-/
import Derived.Test.YtbkcpcjdpfndpaaTypRow
import Derived.Test.YtbkcpcjdpfndpaaLawTypM
import Derived.Deep.RegionHeld3
import Derived.Deep.DeepCutAuto
namespace Go.Proofs.Ytbkcpcjdpfndpaa
open Go.RowKit Go.Shelf
set_option maxRecDepth 100000
set_option linter.unusedVariables false
set_option linter.unusedSimpArgs false

/-- the law's own: one of the kids replaced by another of the same type -/
theorem same_typ {x y : Xp} {k : Nat} (hk : k < x.ks.length) (hx : validF x = true) (he : inferE x.ks[k] = 0) (hf : inferE y = 0) (ht : inferT x.ks[k] = inferT y) (ho : validF (.mk x.o x.n (x.ks.set k y)) = true) :
    inferT x = inferT (.mk x.o x.n (x.ks.set k y)) ∧ inferE x = inferE (.mk x.o x.n (x.ks.set k y)) := by
  obtain ⟨h1, -⟩ := inferE_zero.1 he
  obtain ⟨h2, -⟩ := inferE_zero.1 hf
  have h3 : typE y = typE x.ks[k] := by
    unfold inferT at ht
    rw [if_pos h1, if_pos h2] at ht
    omega
  have h4 : typE (.mk x.o x.n (x.ks.set k y)) = typE x := by
    have := typ_set (o := x.o) (n := x.n) (m := x.n) hk h3
    rw [this]
    cases x; rfl
  unfold inferT inferE
  rw [if_pos hx, if_pos hx, if_pos ho, if_pos ho, h4]
  exact ⟨rfl, rfl⟩
set_option maxHeartbeats 6400000 in
theorem lawTQ_any (hHd : HeadT) {Q R : Nat → Prop} {x y : Xp} {v0 v1 : Value} {w : World} (t0 : Tree Q w x v0) (t1 : Tree R w y v1) (n : Nat) (hn : n ≤ 255) : Calls Try.prog 5 #[v0, v1, .int .u8 (n : Nat)] w (Ret (.bool true) w) := by
  obtain ⟨adx, capx, rfl, hcx, -⟩ := t0.shape
  obtain ⟨ady, capy, rfl, -, -⟩ := t1.shape
  obtain ⟨W, hW⟩ : ∃ W, W = ((w.alloc (.cells #[.int .i64 x.o, .int .i64 x.n, .slice adx x.ks.length capx] 24)).alloc (.cells #[.int .i64 y.o, .int .i64 y.n, .slice ady y.ks.length capy] 24)) := ⟨_, rfl⟩
  have ox := (Own.new w #[.int .i64 x.o, .int .i64 x.n, .slice adx x.ks.length capx] 24).alloc (.cells #[.int .i64 y.o, .int .i64 y.n, .slice ady y.ks.length capy] 24)
  have oy := Own.new (w.alloc (.cells #[.int .i64 x.o, .int .i64 x.n, .slice adx x.ks.length capx] 24)) #[.int .i64 y.o, .int .i64 y.n, .slice ady y.ks.length capy] 24
  rw [World.size_alloc] at oy
  have hb : Below w.heap.size w ((w.alloc (.cells #[.int .i64 x.o, .int .i64 x.n, .slice adx x.ks.length capx] 24)).alloc (.cells #[.int .i64 y.o, .int .i64 y.n, .slice ady y.ks.length capy] 24)) := ((Below.refl _ _).alloc (Nat.le_refl _) _).alloc (by simp) _
  rw [← hW] at ox oy hb
  have hH := hHd W
  have u0 := t0.below hb
  have u1 := t1.below hb
  go_enter Try.func5, Try.ntmps5
  go_wp2_with fail
  rw [← hW]
  clear hW
  refine hH.mono ?_
  rintro e w1 ⟨rfl, hx⟩
  clear hH t0 t1 hHd
  replace ox := ox.below hx
  replace oy := oy.below hx
  replace u0 := u0.below hx
  replace u1 := u1.below hx
  replace hb := hb.trans (hx.mono hb.size)
  clear hx
  obtain ⟨x0, x1, x2, -, -, -, xz⟩ := ox.three
  go_wp2_with fail
  have h1 := fewx_any x _ _ u0
  cases hq : fewX x with
  | false =>
    rw [hq] at h1
    refine (h1).mono ?_
    rintro e w2 ⟨rfl, hx⟩
    replace ox := ox.below hx
    replace oy := oy.below hx
    replace u0 := u0.below hx
    replace u1 := u1.below hx
    replace hb := hb.trans (hx.mono hb.size)
    clear hx
    clear x0 x1 x2 xz
    clear h1 hq
    obtain ⟨x0, x1, x2, -, -, -, xz⟩ := ox.three
    go_wp2_with fail
    go_ret
    exact Ret.mk rfl hb
  | true =>
  rw [hq] at h1
  refine (h1).mono ?_
  rintro e w2 ⟨rfl, hx⟩
  replace ox := ox.below hx
  replace oy := oy.below hx
  replace u0 := u0.below hx
  replace u1 := u1.below hx
  replace hb := hb.trans (hx.mono hb.size)
  clear hx
  clear x0 x1 x2 xz
  clear h1
  clear hq
  obtain ⟨y0, y1, y2, -, -, -, yz⟩ := oy.three
  go_wp2_with fail
  have h1 := fewx_any y _ _ u1
  cases hq : fewX y with
  | false =>
    rw [hq] at h1
    refine (h1).mono ?_
    rintro e w3 ⟨rfl, hx⟩
    replace ox := ox.below hx
    replace oy := oy.below hx
    replace u0 := u0.below hx
    replace u1 := u1.below hx
    replace hb := hb.trans (hx.mono hb.size)
    clear hx
    clear y0 y1 y2 yz
    clear h1 hq
    go_wp2_with fail
    go_ret
    exact Ret.mk rfl hb
  | true =>
  rw [hq] at h1
  refine (h1).mono ?_
  rintro e w3 ⟨rfl, hx⟩
  replace ox := ox.below hx
  replace oy := oy.below hx
  replace u0 := u0.below hx
  replace u1 := u1.below hx
  replace hb := hb.trans (hx.mono hb.size)
  clear hx
  clear y0 y1 y2 yz
  clear h1
  clear hq
  obtain ⟨x0, x1, x2, -, -, -, xz⟩ := ox.three
  go_wp2_with fail
  have h1 := rvalid8_any x _ _ u0
  cases hq : validF x with
  | false =>
    rw [hq] at h1
    refine (h1).mono ?_
    rintro e w4 ⟨rfl, hx⟩
    replace ox := ox.below hx
    replace oy := oy.below hx
    replace u0 := u0.below hx
    replace u1 := u1.below hx
    replace hb := hb.trans (hx.mono hb.size)
    clear hx
    clear x0 x1 x2 xz
    clear h1 hq
    obtain ⟨x0, x1, x2, -, -, -, xz⟩ := ox.three
    go_wp2_with fail
    go_ret
    exact Ret.mk rfl hb
  | true =>
  rw [hq] at h1
  refine (h1).mono ?_
  rintro e w4 ⟨rfl, hx⟩
  replace ox := ox.below hx
  replace oy := oy.below hx
  replace u0 := u0.below hx
  replace u1 := u1.below hx
  replace hb := hb.trans (hx.mono hb.size)
  clear hx
  clear x0 x1 x2 xz
  clear h1
  have HV := Lib.hid hq
  have hk3 := valid_le hq
  clear hq
  obtain ⟨x0, x1, x2, -, -, -, xz⟩ := ox.three
  by_cases hk0 : x.ks.length = 0
  · have q1 : ((x.ks.length : Int) == 0) = true := by rw [beq_iff_eq]; omega
    go_wp2_with fail
    go_ret
    exact Ret.mk rfl hb
  have q1 : ((x.ks.length : Int) == 0) = false := by rw [beq_eq_false_iff_ne]; omega
  have hkn : n % x.ks.length < x.ks.length := Nat.mod_lt _ (by omega)
  have hrem := rem_i64 n x.ks.length hk0
  have hrm : Int.tmod (n : Int) (x.ks.length : Int) = ((n % x.ks.length : Nat) : Int) := by rw [Int.tmod_eq_emod_of_nonneg (by omega)]; rfl
  generalize hK : n % x.ks.length = K at hkn hrem hrm
  go_upto_region 5 with (fail)
  clear x0 x1 x2 xz
  clear hrem hrm hK q1
  obtain ⟨_, _, hv, -, uk⟩ := id u0.shape
  simp only [Value.agg.injEq, Array.mk.injEq, List.cons.injEq, Value.slice.injEq, and_true, true_and] at hv
  obtain ⟨rfl, rfl⟩ := hv
  obtain ⟨a, _, _, rfl, -⟩ := uk.reads K hkn
  obtain ⟨c, xc, hat⟩ := xsc_of uk
  simp only [Nat.zero_mul, Nat.zero_add] at hat
  have hone := xc.one
  have hcl := xc.len
  have hab : a.block < w4.heap.size := by have := (uk.reads0 K hkn).choose_spec.choose_spec.2.2.2.2; rwa [tblk_add] at this
  have hAt : ∀ wX, Below w4.heap.size w4 wX → ∀ j u, c[j]? = some u → wX.cell? (a.add j) = some u := fun wX hB j u hj => (World.cell?_of_block (hB.block _ (by rw [tblk_add]; exact hab))).trans (hat j u hj)
  obtain ⟨i0, hi, hz0, hz1, hzz⟩ := info_parts Try.infoExprT
  have hlt := ox.lt
  have hlt2 := oy.lt
  go_cut [9] (fun s9 wx => ∃ B g cap, s9 = .pointer (some ⟨B, 0, none⟩) ∧ B ≠ g ∧ w4.heap.size ≤ B ∧ w4.heap.size ≤ g ∧ x.ks.length ≤ cap ∧ Own wx B [.int .i64 x.o, .int .i64 x.n, .slice (some ⟨g, 0, none⟩) x.ks.length cap] ∧ Own wx g c ∧ Below w4.heap.size w4 wx)
  case first =>
    have p0 := ox.cell 0 _ rfl
    have pd0 := (ox.drewT).cell 0 _ rfl
    have pe0 := fun o => ((ox.alloc o).drewT).cell 0 _ rfl
    have pf0 := fun o o2 => (((ox.alloc o).alloc o2).drewT).cell 0 _ rfl
    have p1 := ox.cell 1 _ rfl
    have pd1 := (ox.drewT).cell 1 _ rfl
    have pe1 := fun o => ((ox.alloc o).drewT).cell 1 _ rfl
    have pf1 := fun o o2 => (((ox.alloc o).alloc o2).drewT).cell 1 _ rfl
    have p2 := ox.cell 2 _ rfl
    have pd2 := (ox.drewT).cell 2 _ rfl
    have pe2 := fun o => ((ox.alloc o).drewT).cell 2 _ rfl
    have pf2 := fun o o2 => (((ox.alloc o).alloc o2).drewT).cell 2 _ rfl
    have hpos : 0 < x.ks.length := by omega
    go_region_held3 (fun w' => w'.cell? ⟨w.heap.size, 0, none⟩ = some (.int .i64 x.o) ∧ w'.cell? ⟨w.heap.size, 1, none⟩ = some (.int .i64 x.n) ∧ w'.cell? ⟨w.heap.size, 2, none⟩ = some (.slice (some a) x.ks.length capx)) (first | with_reducible exact ⟨pd0, pd1, pd2⟩ | with_reducible exact ⟨pe0 _, pe1 _, pe2 _⟩ | with_reducible exact ⟨pf0 _ _, pf1 _ _, pf2 _ _⟩ | with_reducible exact ⟨g0, g1, g2⟩ | with_reducible exact ⟨ga0 _, ga1 _, ga2 _⟩ | exact ⟨(((ox5.setCell (p := ⟨_, 0, none⟩) (by simp <;> omega) _).setCell (p := ⟨_, 1, none⟩) (by simp <;> omega) _).setCell (p := ⟨_, 2, none⟩) (by simp <;> omega) _).cell 0 _ rfl, (((ox5.setCell (p := ⟨_, 0, none⟩) (by simp <;> omega) _).setCell (p := ⟨_, 1, none⟩) (by simp <;> omega) _).setCell (p := ⟨_, 2, none⟩) (by simp <;> omega) _).cell 1 _ rfl, (((ox5.setCell (p := ⟨_, 0, none⟩) (by simp <;> omega) _).setCell (p := ⟨_, 1, none⟩) (by simp <;> omega) _).setCell (p := ⟨_, 2, none⟩) (by simp <;> omega) _).cell 2 _ rfl⟩ | fail) (first
       | (refine step_ownT _ rfl _ _ 22 rfl w4.heap.size 24 i0 (.agg #[.int .i64 0, .int .i64 0, .slice none 0 0]) 3 40 Try.underlying22 hi hz0 hz1 hzz rfl (by decide) _ 0 [] rfl (town_below (own_emptyT w4 _ (Nat.le_refl _)) (drR _)) a x.ks.length capx c rfl hcl (hAt _ (((Below.refl w4.heap.size w4).alloc (Nat.le_refl _) _).drew)) hone hpos (by unfold maxLen; omega) (by omega) (by (try simp only [drew_sizeR, World.size_alloc]); omega) ?_
          intro v3 w5 hrow hgrow hwh
          simp only [Nat.zero_add, List.nil_append] at hrow
          obtain ⟨g, cap3, rfl, hcap, hg, hgl, og⟩ := town_some hrow hpos
          clear hrow
          have hw5 := hgrow.size
          simp only [World.size_alloc, drew_sizeR] at hw5 hwh
          have hgE := hwh g rfl
          clear hwh
          have ox5 := ((ox.alloc _).drewT).grownT hgrow (by intro r hr; cases hr; (try simp only [World.size_alloc, drew_sizeR]); omega)
          have hk5 := below_grownT ((Below.refl w4.heap.size w4).alloc (Nat.le_refl _) _).drew hgrow (by intro r hr; cases hr; (try simp only [World.size_alloc, drew_sizeR]); omega) (by (try simp only [drew_sizeR, World.size_alloc]); omega)
          have g0 := ox5.cell 0 _ rfl
          have g1 := ox5.cell 1 _ rfl
          have g2 := ox5.cell 2 _ rfl
          have ga0 := fun o => (ox5.alloc o).cell 0 _ rfl
          have ga1 := fun o => (ox5.alloc o).cell 1 _ rfl
          have ga2 := fun o => (ox5.alloc o).cell 2 _ rfl)
       | (refine step_ownT _ rfl _ _ 22 rfl w4.heap.size 24 i0 (.agg #[.int .i64 0, .int .i64 0, .slice none 0 0]) 3 40 Try.underlying22 hi hz0 hz1 hzz rfl (by decide) _ 0 [] rfl (town_below (own_emptyS (w4.alloc (.cells #[.int .i64 0, .int .i64 0, .slice none 0 0] 24)) w4.heap.size (w4.heap.size + 1) (World.size_alloc _ _) (Nat.le_succ _)) (drR _)) a x.ks.length capx c rfl hcl (hAt _ ((((Below.refl w4.heap.size w4).alloc (Nat.le_refl _) _).alloc (by (try simp only [drew_sizeR, World.size_alloc]); omega) _).drew)) hone hpos (by unfold maxLen; omega) (by omega) (by (try simp only [drew_sizeR, World.size_alloc]); omega) ?_
          intro v3 w5 hrow hgrow hwh
          simp only [Nat.zero_add, List.nil_append] at hrow
          obtain ⟨g, cap3, rfl, hcap, hg, hgl, og⟩ := town_some hrow hpos
          clear hrow
          have hw5 := hgrow.size
          simp only [World.size_alloc, drew_sizeR] at hw5 hwh
          have hgE := hwh g rfl
          clear hwh
          have ox5 := (((ox.alloc _).alloc _).drewT).grownT hgrow (by intro r hr; cases hr; (try simp only [World.size_alloc, drew_sizeR]); omega)
          have hk5 := below_grownT ((((Below.refl w4.heap.size w4).alloc (Nat.le_refl _) _).alloc (by (try simp only [drew_sizeR, World.size_alloc]); omega) _).drew) hgrow (by intro r hr; cases hr; (try simp only [World.size_alloc, drew_sizeR]); omega) (by (try simp only [drew_sizeR, World.size_alloc]); omega)
          have oB := (((own_newR w4 [.int .i64 0, .int .i64 0, .slice none 0 0] 24).alloc _).drewT).grownT hgrow (by intro r hr; cases hr; (try simp only [World.size_alloc, drew_sizeR]); omega)
          obtain ⟨tc0, tc1, tc2, tf0, tf1, tf2, tz⟩ := oB.three
          have hgB : g ≠ w4.heap.size := hgE.elim (fun h => by cases h; (try simp only [World.size_alloc]); omega) (fun h => by (try simp only [World.size_alloc, drew_sizeR] at h); omega)
          have g0 := ox5.cell 0 _ rfl
          have g1 := ox5.cell 1 _ rfl
          have g2 := ox5.cell 2 _ rfl
          have ga0 := fun o => (ox5.alloc o).cell 0 _ rfl
          have ga1 := fun o => (ox5.alloc o).cell 1 _ rfl
          have ga2 := fun o => (ox5.alloc o).cell 2 _ rfl)
       | (refine step_ownT _ rfl _ _ 22 rfl w4.heap.size 24 i0 (.agg #[.int .i64 0, .int .i64 0, .slice none 0 0]) 3 40 Try.underlying22 hi hz0 hz1 hzz rfl (by decide) _ 0 [] rfl (town_below (town_below (own_emptyT w4 _ (Nat.le_refl _)) (alT _ (.cells #[.int .i64 0, .int .i64 0, .slice none 0 0] 24))) (drR _)) a x.ks.length capx c rfl hcl (hAt _ ((((Below.refl w4.heap.size w4).alloc (Nat.le_refl _) _).alloc (by (try simp only [drew_sizeR, World.size_alloc]); omega) _).drew)) hone hpos (by unfold maxLen; omega) (by omega) (by (try simp only [drew_sizeR, World.size_alloc]); omega) ?_
          intro v3 w5 hrow hgrow hwh
          simp only [Nat.zero_add, List.nil_append] at hrow
          obtain ⟨g, cap3, rfl, hcap, hg, hgl, og⟩ := town_some hrow hpos
          clear hrow
          have hw5 := hgrow.size
          simp only [World.size_alloc, drew_sizeR] at hw5 hwh
          have hgE := hwh g rfl
          clear hwh
          have ox5 := (((ox.alloc _).alloc _).drewT).grownT hgrow (by intro r hr; cases hr; (try simp only [World.size_alloc, drew_sizeR]); omega)
          have hk5 := below_grownT ((((Below.refl w4.heap.size w4).alloc (Nat.le_refl _) _).alloc (by (try simp only [drew_sizeR, World.size_alloc]); omega) _).drew) hgrow (by intro r hr; cases hr; (try simp only [World.size_alloc, drew_sizeR]); omega) (by (try simp only [drew_sizeR, World.size_alloc]); omega)
          have oB := (((own_newR (w4.alloc (.cells #[] 24)) [.int .i64 0, .int .i64 0, .slice none 0 0] 24)).drewT).grownT hgrow (by intro r hr; cases hr; (try simp only [World.size_alloc, drew_sizeR]); omega)
          rw [World.size_alloc] at oB
          obtain ⟨tc0, tc1, tc2, tf0, tf1, tf2, tz⟩ := oB.three
          have hgB : g ≠ w4.heap.size + 1 := hgE.elim (fun h => by cases h; (try simp only [World.size_alloc]); omega) (fun h => by (try simp only [World.size_alloc, drew_sizeR] at h); omega)
          have g0 := ox5.cell 0 _ rfl
          have g1 := ox5.cell 1 _ rfl
          have g2 := ox5.cell 2 _ rfl
          have ga0 := fun o => (ox5.alloc o).cell 0 _ rfl
          have ga1 := fun o => (ox5.alloc o).cell 1 _ rfl
          have ga2 := fun o => (ox5.alloc o).cell 2 _ rfl))
    all_goals (
      go_wp2_with fail
      go_meet
      first
      | exact ⟨_, g, cap3, rfl, by omega, by omega, hg, hcap, own_newR w5 _ _, og.alloc _, hk5.alloc (by omega) _⟩
      | exact ⟨_, g, cap3, rfl, by omega, by omega, hg, hcap, ((oB.setAt (i := 0) _ (by simp)).setAt (i := 1) _ (by simp)).setAt (i := 2) _ (by simp), (((og.setCell (p := ⟨_, 0, none⟩) (by simp <;> omega) _).setCell (p := ⟨_, 1, none⟩) (by simp <;> omega) _).setCell (p := ⟨_, 2, none⟩) (by simp <;> omega) _), (((hk5.setCell (p := ⟨_, 0, none⟩) (by simp <;> omega) _).setCell (p := ⟨_, 1, none⟩) (by simp <;> omega) _).setCell (p := ⟨_, 2, none⟩) (by simp <;> omega) _)⟩)
  case rest =>
    obtain ⟨B, g, cap3, rfl, hBg, hB4, hg4, hcap3, oB, og, hk⟩ := hcut
    clear hAt hat hone hi hz0 hz1 hzz i0
    have oy6 := oy.below hk
    have hlt4 := hb.size
    have hKc : K * 3 + 2 < c.length := by omega
    obtain ⟨b0, b1, b2, -, -, -, bz⟩ := oB.three
    obtain ⟨y0, y1, y2, -, -, -, yz⟩ := oy6.three
    have gz := og.lt
    have f0 := og.fro (K * 3 + 0) (c[K * 3 + 0]'(by omega)) (List.getElem?_eq_getElem _)
    have f1 := og.fro (K * 3 + 1) (c[K * 3 + 1]'(by omega)) (List.getElem?_eq_getElem _)
    have f2 := og.fro (K * 3 + 2) (c[K * 3 + 2]'(by omega)) (List.getElem?_eq_getElem _)
    have k0 := og.cell (K * 3 + 0) (c[K * 3 + 0]'(by omega)) (List.getElem?_eq_getElem _)
    have k1 := og.cell (K * 3 + 1) (c[K * 3 + 1]'(by omega)) (List.getElem?_eq_getElem _)
    have k2 := og.cell (K * 3 + 2) (c[K * 3 + 2]'(by omega)) (List.getElem?_eq_getElem _)
    simp only [Nat.add_zero] at f0 k0
    go_upto_region 7 with (fail)
    have hkz := (((hk.setCell (p := ⟨g, K * 3, none⟩) hg4 (.int .i64 y.o)).setCell (p := ⟨g, K * 3 + 1, none⟩) hg4 (.int .i64 y.n)).setCell (p := ⟨g, K * 3 + 2, none⟩) hg4 (.slice ady y.ks.length capy))
    have ogz := (((og.setAt (i := K * 3) (.int .i64 y.o) (by (try simp only [List.length_set]); omega)).setAt (i := K * 3 + 1) (.int .i64 y.n) (by (try simp only [List.length_set]); omega)).setAt (i := K * 3 + 2) (.slice ady y.ks.length capy) (by (try simp only [List.length_set]); omega))
    have oBz := (((oB.setCell (p := ⟨g, K * 3, none⟩) (by simp only; omega) (.int .i64 y.o)).setCell (p := ⟨g, K * 3 + 1, none⟩) (by simp only; omega) (.int .i64 y.n)).setCell (p := ⟨g, K * 3 + 2, none⟩) (by simp only; omega) (.slice ady y.ks.length capy))
    obtain ⟨wz, hwz⟩ : ∃ wz, wz = (((wc.setCell ⟨g, K * 3, none⟩ (.int .i64 y.o)).setCell ⟨g, K * 3 + 1, none⟩ (.int .i64 y.n)).setCell ⟨g, K * 3 + 2, none⟩ (.slice ady y.ks.length capy)) := ⟨_, rfl⟩
    rw [← hwz] at hkz ogz oBz
    rw [← hwz]
    clear hwz b0 b1 b2 bz y0 y1 y2 yz gz f0 f1 f2 k0 k1 k2 oy6 oB
    have uy := tree_hi u1 hkz
    have xh := XsC.set uy K (xsc_hi xc hkz) hkn
    have tO := tree_row (B := 0) (R := (fun _ => False)) (o := x.o) (n := x.n) (fun h => h) ogz xh (fun _ _ h => h.elim) cap3 (by rw [List.length_set]; omega)
    rw [List.length_set] at tO
    have HS : Hid (inferE x.ks[K] = 0 → inferE y = 0 → inferT x.ks[K] = inferT y → validF (.mk x.o x.n (x.ks.set K y)) = true → inferT x = inferT (.mk x.o x.n (x.ks.set K y)) ∧ inferE x = inferE (.mk x.o x.n (x.ks.set K y))) := Lib.hid (fun h1 h2 h3 h4 => same_typ hkn HV.out h1 h2 h3 h4)
    generalize (Xp.mk x.o x.n (x.ks.set K y)) = O at *
    replace ox := ox.below hkz
    replace oy := oy.below hkz
    replace u0 := u0.below hkz
    replace u1 := u1.below hkz
    replace hb := hb.trans (hkz.mono hb.size)
    obtain ⟨ad2, cap2, n0, n1, n2, tk, hab2⟩ := (Trees.below uk hkz).reads0 K hkn
    clear uk xc hkz ogz uy xh hk og hab
    generalize x.ks[K] = z at *
    obtain ⟨x0, x1, x2, -, -, -, xz⟩ := ox.three
    go_wp2_with fail
    have h1 := tinfer_any z _ _ tk
    refine (h1).mono ?_
    rintro e w5 ⟨rfl, hx⟩
    replace ox := ox.below hx
    replace oy := oy.below hx
    replace u0 := u0.below hx
    replace u1 := u1.below hx
    replace oBz := oBz.below hx
    replace tO := tO.below hx
    replace hb := hb.trans (hx.mono hb.size)
    clear hx
    clear x0 x1 x2 xz
    clear h1 n0 n1 n2 tk hab2
    obtain ⟨y0, y1, y2, -, -, -, yz⟩ := oy.three
    go_wp2_with fail
    have h1 := tinfer_any y _ _ u1
    refine (h1).mono ?_
    rintro e w6 ⟨rfl, hx⟩
    replace ox := ox.below hx
    replace oy := oy.below hx
    replace u0 := u0.below hx
    replace u1 := u1.below hx
    replace oBz := oBz.below hx
    replace tO := tO.below hx
    replace hb := hb.trans (hx.mono hb.size)
    clear hx
    clear y0 y1 y2 yz
    clear h1
    generalize inferE z = E1 at *
    generalize inferE y = E2 at *
    generalize inferT z = T1 at *
    generalize inferT y = T2 at *
    by_cases q1 : E1 = 0
    · skip
      have e1 : (E1 != 0) = false := by rw [bne_eq_false_iff_eq]; exact q1
      have Q1 := Lib.hid q1
      clear q1
      by_cases q2 : E2 = 0
      · skip
        have e2 : (E2 != 0) = false := by rw [bne_eq_false_iff_eq]; exact q2
        have Q2 := Lib.hid q2
        clear q2
        by_cases q3 : T1 = T2
        · skip
          have e3 : (T1 != T2) = false := by rw [bne_eq_false_iff_eq]; exact q3
          have Q3 := Lib.hid q3
          clear q3
          obtain ⟨b0, b1, b2, -, -, -, bz⟩ := oBz.three
          go_wp2_with fail
          have h1 := rvalid8_any O _ _ tO
          cases hq : validF O with
          | false =>
            rw [hq] at h1
            refine (h1).mono ?_
            rintro e w7 ⟨rfl, hx⟩
            replace ox := ox.below hx
            replace oy := oy.below hx
            replace u0 := u0.below hx
            replace u1 := u1.below hx
            replace oBz := oBz.below hx
            replace tO := tO.below hx
            replace hb := hb.trans (hx.mono hb.size)
            clear hx
            clear b0 b1 b2 bz
            clear h1
            go_wp2_with fail
            go_ret
            exact Ret.mk rfl hb
          | true =>
            rw [hq] at h1
            refine (h1).mono ?_
            rintro e w7 ⟨rfl, hx⟩
            replace ox := ox.below hx
            replace oy := oy.below hx
            replace u0 := u0.below hx
            replace u1 := u1.below hx
            replace oBz := oBz.below hx
            replace tO := tO.below hx
            replace hb := hb.trans (hx.mono hb.size)
            clear hx
            clear b0 b1 b2 bz
            clear h1
            obtain ⟨s1, s2⟩ := HS.out Q1.out Q2.out Q3.out hq
            clear hq HS
            obtain ⟨x0, x1, x2, -, -, -, xz⟩ := ox.three
            go_wp2_with fail
            have h1 := tinfer_any x _ _ u0
            refine (h1).mono ?_
            rintro e w8 ⟨rfl, hx⟩
            replace ox := ox.below hx
            replace oy := oy.below hx
            replace u0 := u0.below hx
            replace u1 := u1.below hx
            replace oBz := oBz.below hx
            replace tO := tO.below hx
            replace hb := hb.trans (hx.mono hb.size)
            clear hx
            clear x0 x1 x2 xz
            clear h1
            obtain ⟨b0, b1, b2, -, -, -, bz⟩ := oBz.three
            go_wp2_with fail
            have h1 := tinfer_any O _ _ tO
            refine (h1).mono ?_
            rintro e w9 ⟨rfl, hx⟩
            replace ox := ox.below hx
            replace oy := oy.below hx
            replace u0 := u0.below hx
            replace u1 := u1.below hx
            replace oBz := oBz.below hx
            replace tO := tO.below hx
            replace hb := hb.trans (hx.mono hb.size)
            clear hx
            clear b0 b1 b2 bz
            clear h1
            have p1 : (inferT x == inferT O) = true := by rw [beq_iff_eq]; exact s1
            have p2 : (inferE x == inferE O) = true := by rw [beq_iff_eq]; exact s2
            clear s1 s2
            generalize inferT x = T5 at *
            generalize inferE x = E5 at *
            generalize inferT O = T6 at *
            generalize inferE O = E6 at *
            go_wp2_with fail
            go_ret
            exact Ret.mk rfl hb
        · have e3 : (T1 != T2) = true := by rw [bne_iff_ne]; exact q3
          clear q3
          go_wp2_with fail
          go_ret
          exact Ret.mk rfl hb
      · have e2 : (E2 != 0) = true := by rw [bne_iff_ne]; exact q2
        clear q2
        go_wp2_with fail
        go_ret
        exact Ret.mk rfl hb
    · have e1 : (E1 != 0) = true := by rw [bne_iff_ne]; exact q1
      clear q1
      go_wp2_with fail
      go_ret
      exact Ret.mk rfl hb
end Go.Proofs.Ytbkcpcjdpfndpaa
